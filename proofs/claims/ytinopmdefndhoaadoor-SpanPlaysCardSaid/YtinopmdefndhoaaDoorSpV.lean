/- The walk of SpanDivides, over what the package's functions answer. -/
import Derived.Test.YtinopmdefndhoaaDoorNsM
namespace Go.Proofs.YtinopmdefndhoaaDoor
open Go Go.RowKit Go.Shelf

/-- The set of k notes from a place on. -/
def ofW (X : Nat → Int) (s k : Nat) : Nat × Nat := ofN ((List.range k).map fun j => (X (s + j)).toNat)
/-- Pairs of sets. -/
def Prs (W : World) (v : Value) (m : Nat) (A B : Nat → Nat × Nat) : Prop :=
  (m = 0 ∧ v = .slice none 0 0) ∨ ∃ g cap, v = .slice (some ⟨g, 0, none⟩) m cap ∧ m ≤ cap ∧ g < W.heap.size ∧ ∀ i, i < m → W.cell? ⟨g, i * 4, none⟩ = some (.int .u64 (A i).1) ∧ W.cell? ⟨g, i * 4 + 1, none⟩ = some (.int .u64 (A i).2) ∧ W.cell? ⟨g, i * 4 + 2, none⟩ = some (.int .u64 (B i).1) ∧ W.cell? ⟨g, i * 4 + 3, none⟩ = some (.int .u64 (B i).2)
theorem Prs.below {A B : World} {v : Value} {m : Nat} {F H : Nat → Nat × Nat} (h : Prs A v m F H) (hb : Below A.heap.size A B) : Prs B v m F H := by
  rcases h with h | ⟨g, cap, h1, h0, h2, h3⟩
  · exact .inl h
  · refine .inr ⟨g, cap, h1, h0, Nat.lt_of_lt_of_le h2 hb.size, fun i hi => ?_⟩
    obtain ⟨k0, k1, k2, k3⟩ := h3 i hi
    exact ⟨(hb.cell (p := ⟨g, _, none⟩) h2).trans k0, (hb.cell (p := ⟨g, _, none⟩) h2).trans k1, (hb.cell (p := ⟨g, _, none⟩) h2).trans k2, (hb.cell (p := ⟨g, _, none⟩) h2).trans k3⟩
theorem rof_win (B off cap s k : Nat) (X : Nat → Int) (w : World) (hk : k ≤ 1000) (hB : B < w.heap.size)
    (hx : ∀ j, j < k → w.cell? ⟨B, off + j, none⟩ = some (.int .i64 (X (s + j)))) (hr : ∀ j, j < k → 0 ≤ X (s + j) ∧ X (s + j) ≤ 127) :
    Calls Tryd.prog 26 #[.slice (some ⟨B, off, none⟩) k cap] w fun e w' => e = .returned (.agg #[.int .u64 ((ofW X s k).1 : Nat), .int .u64 ((ofW X s k).2 : Nat)]) ∧ Below w.heap.size w w' :=
  rof_ok B off cap k (fun j => X (s + j)) w (by omega) hB hx (fun j hj => by have := hr j hj; simp [validB]; omega)

def DvR (V : World) (lv : Value) (n : Nat) (X : Nat → Int) (ag dg t tt A1 A2 B1 B2 : Nat) (A : World) : Prop := Below V.heap.size V A ∧ Lst A lv n X ∧ (A.cell? ⟨ag, t * 4, none⟩ = some (.int .u64 A1) ∧ A.cell? ⟨ag, t * 4 + 1, none⟩ = some (.int .u64 A2) ∧ A.cell? ⟨ag, t * 4 + 2, none⟩ = some (.int .u64 B1) ∧ A.cell? ⟨ag, t * 4 + 3, none⟩ = some (.int .u64 B2)) ∧ A.cell? ⟨dg, t, none⟩ = some (.int .i64 (tt : Nat))
theorem cell_lt {A : World} {g o : Nat} {v : Value} (h : A.cell? ⟨g, o, none⟩ = some v) : g < A.heap.size := by
  rcases Nat.lt_or_ge g A.heap.size with k | k
  · exact k
  · exfalso
    have : A.heap[g]? = none := Array.getElem?_eq_none k
    simp [World.cell?, this] at h
theorem cell_up {A B : World} {g o : Nat} {v : Value} (hb : Below A.heap.size A B) (h : A.cell? ⟨g, o, none⟩ = some v) : B.cell? ⟨g, o, none⟩ = some v := (hb.cell (p := ⟨g, o, none⟩) (cell_lt h)).trans h
theorem DvR_up (V : World) (lv : Value) (n : Nat) (X : Nat → Int) (ag dg t tt A1 A2 B1 B2 : Nat) (A B : World) (hb : Below A.heap.size A B) (h : DvR V lv n X ag dg t tt A1 A2 B1 B2 A) : DvR V lv n X ag dg t tt A1 A2 B1 B2 B :=
  ⟨h.1.trans (hb.mono h.1.size), h.2.1.below hb, ⟨cell_up hb h.2.2.1.1, cell_up hb h.2.2.1.2.1, cell_up hb h.2.2.1.2.2.1, cell_up hb h.2.2.1.2.2.2⟩, cell_up hb h.2.2.2⟩
def DvE (V : World) (ez ag L1 L2 R1 R2 : Nat) (A : World) : Prop := Below V.heap.size V A ∧ A.heap[ez]? = some (.cells #[.int .u64 L1, .int .u64 L2] 26) ∧ A.heap[ez + 1]? = some (.cells #[.int .u64 R1, .int .u64 R2] 26) ∧ A.cell? ⟨ag, 0, none⟩ = some (.int .u64 L1) ∧ A.cell? ⟨ag, 1, none⟩ = some (.int .u64 L2) ∧ A.cell? ⟨ag, 2, none⟩ = some (.int .u64 R1) ∧ A.cell? ⟨ag, 3, none⟩ = some (.int .u64 R2)
theorem DvE_up (V : World) (ez ag L1 L2 R1 R2 : Nat) (A B : World) (hb : Below A.heap.size A B) (h : DvE V ez ag L1 L2 R1 R2 A) : DvE V ez ag L1 L2 R1 R2 B :=
  ⟨h.1.trans (hb.mono h.1.size), (hb.block _ (Array.getElem?_eq_some_iff.1 h.2.1).1).trans h.2.1, (hb.block _ (Array.getElem?_eq_some_iff.1 h.2.2.1).1).trans h.2.2.1, cell_up hb h.2.2.2.1, cell_up hb h.2.2.2.2.1, cell_up hb h.2.2.2.2.2.1, cell_up hb h.2.2.2.2.2.2⟩
theorem Lst.some {W : World} {g n c : Nat} {X : Nat → Int} (h : Lst W (.slice (some ⟨g, 0, none⟩) n c) n X) : n ≤ c ∧ g < W.heap.size ∧ ∀ k, k < n → W.cell? ⟨g, 0 + k, none⟩ = some (.int .i64 (X k)) := by
  rcases h with ⟨_, h⟩ | ⟨g', cap, h, h1, h2, h3⟩
  · cases h
  · cases h; exact ⟨h1, h2, h3⟩
theorem ofw_empty (X : Nat → Int) (s : Nat) (a : Option Addr) (cap : Nat) (w : World) : Calls Tryd.prog 26 #[.slice a 0 cap] w fun e w' => e = .returned (.agg #[.int .u64 ((ofW X s 0).1 : Nat), .int .u64 ((ofW X s 0).2 : Nat)]) ∧ Below w.heap.size w w' := rof_empty a cap w
theorem of_pre (g n c t : Nat) (X : Nat → Int) (w : World) (h : Lst w (.slice (some ⟨g, 0, none⟩) n c) n X) (hn : n ≤ 1000) (ht : t ≤ n) (hX : ∀ j, j < n → 0 ≤ X j ∧ X j ≤ 127) :
    Calls Tryd.prog 26 #[.slice (some ⟨g, 0, none⟩) t c] w fun e w' => e = .returned (.agg #[.int .u64 ((ofW X 0 t).1 : Nat), .int .u64 ((ofW X 0 t).2 : Nat)]) ∧ Below w.heap.size w w' :=
  rof_win g 0 c 0 t X w (by omega) h.some.2.1 (fun j hj => by rw [Nat.zero_add j]; have := h.some.2.2 j (by omega); rw [Nat.zero_add] at this; exact this) (fun j hj => by rw [Nat.zero_add]; exact hX j (by omega))
theorem of_suf (g n c t : Nat) (X : Nat → Int) (w : World) (h : Lst w (.slice (some ⟨g, 0, none⟩) n c) n X) (hn : n ≤ 1000) (ht : t ≤ n) (hX : ∀ j, j < n → 0 ≤ X j ∧ X j ≤ 127) :
    Calls Tryd.prog 26 #[.slice (some ⟨g, t, none⟩) (n - t) (c - t)] w fun e w' => e = .returned (.agg #[.int .u64 ((ofW X t (n - t)).1 : Nat), .int .u64 ((ofW X t (n - t)).2 : Nat)]) ∧ Below w.heap.size w w' :=
  rof_win g t (c - t) t (n - t) X w (by omega) h.some.2.1 (fun j hj => by have := h.some.2.2 (t + j) (by omega); rw [Nat.zero_add] at this; exact this) (fun j hj => hX (t + j) (by omega))
def dvI0 (ag dg m ac dc t : Nat) (A1 A2 B1 B2 : Nat) : Nat → Value → World → Prop
  | 0, v, _ => v = .slice (some ⟨ag, 0, none⟩) m ac
  | 1, v, _ => v = .int .i64 (t : Int)
  | 2, v, _ => v = .pointer (some ⟨ag, t * 4, none⟩)
  | 3, v, _ => v = .agg #[.int .u64 A1, .int .u64 A2, .int .u64 B1, .int .u64 B2]
  | 4, v, _ => v = .slice none 0 0
  | 5, v, _ => v = .slice (some ⟨dg, 0, none⟩) m dc
  | 6, v, _ => v = .int .i64 (t : Int)
  | 7, v, _ => v = .pointer (some ⟨dg, t, none⟩)
  | 8, v, _ => v = .int .i64 0
  | 9, v, _ => v = .slice none 0 0
  | 10, v, _ => v = .agg #[.int .u64 A1, .int .u64 A2]
  | 11, v, _ => v = .slice none 0 0
  | 12, v, _ => v = .slice (some ⟨dg, 0, none⟩) m dc
  | 13, v, _ => v = .int .i64 (t : Int)
  | 14, v, _ => v = .pointer (some ⟨dg, t, none⟩)
  | 15, v, _ => v = .int .i64 0
  | 16, v, _ => v = .slice none 0 0
  | 17, v, _ => v = .agg #[.int .u64 B1, .int .u64 B2]
  | 18, v, _ => v = .agg #[.int .u64 A1, .int .u64 A2, .int .u64 B1, .int .u64 B2]
  | 19, v, _ => v = .bool false
  | _, _, _ => True

theorem dvI0_up (ag dg m ac dc t : Nat) (A1 A2 B1 B2 : Nat) : ∀ (j : Nat) (v : Value) (A B : World), Below A.heap.size A B → dvI0 ag dg m ac dc t A1 A2 B1 B2 j v A → dvI0 ag dg m ac dc t A1 A2 B1 B2 j v B
  | 0, _, _, _, _, h => h
  | 1, _, _, _, _, h => h
  | 2, _, _, _, _, h => h
  | 3, _, _, _, _, h => h
  | 4, _, _, _, _, h => h
  | 5, _, _, _, _, h => h
  | 6, _, _, _, _, h => h
  | 7, _, _, _, _, h => h
  | 8, _, _, _, _, h => h
  | 9, _, _, _, _, h => h
  | 10, _, _, _, _, h => h
  | 11, _, _, _, _, h => h
  | 12, _, _, _, _, h => h
  | 13, _, _, _, _, h => h
  | 14, _, _, _, _, h => h
  | 15, _, _, _, _, h => h
  | 16, _, _, _, _, h => h
  | 17, _, _, _, _, h => h
  | 18, _, _, _, _, h => h
  | 19, _, _, _, _, h => h
  | _ + 20, _, _, _, _, _ => trivial

def dvI1 (lg ag dg m lc ac dc t : Nat) (A1 A2 B1 B2 : Nat) : Nat → Value → World → Prop
  | 0, v, _ => v = .slice (some ⟨ag, 0, none⟩) m ac
  | 1, v, _ => v = .int .i64 (t : Int)
  | 2, v, _ => v = .pointer (some ⟨ag, t * 4, none⟩)
  | 3, v, _ => v = .agg #[.int .u64 A1, .int .u64 A2, .int .u64 B1, .int .u64 B2]
  | 4, v, _ => v = .slice (some ⟨lg, 0, none⟩) lc lc
  | 5, v, _ => v = .slice (some ⟨dg, 0, none⟩) m dc
  | 6, v, _ => v = .int .i64 (t : Int)
  | 7, v, _ => v = .pointer (some ⟨dg, t, none⟩)
  | 8, v, _ => v = .int .i64 (lc : Int)
  | 9, v, _ => v = .slice (some ⟨lg, 0, none⟩) lc lc
  | 10, v, _ => v = .agg #[.int .u64 A1, .int .u64 A2]
  | 11, v, _ => v = .slice (some ⟨lg, 0, none⟩) lc lc
  | 12, v, _ => v = .slice (some ⟨dg, 0, none⟩) m dc
  | 13, v, _ => v = .int .i64 (t : Int)
  | 14, v, _ => v = .pointer (some ⟨dg, t, none⟩)
  | 15, v, _ => v = .int .i64 (lc : Int)
  | 16, v, _ => v = .slice (some ⟨lg, 0, none⟩) 0 0
  | 17, v, _ => v = .agg #[.int .u64 B1, .int .u64 B2]
  | 18, v, _ => v = .agg #[.int .u64 A1, .int .u64 A2, .int .u64 B1, .int .u64 B2]
  | 19, v, _ => v = .bool false
  | _, _, _ => True

theorem dvI1_up (lg ag dg m lc ac dc t : Nat) (A1 A2 B1 B2 : Nat) : ∀ (j : Nat) (v : Value) (A B : World), Below A.heap.size A B → dvI1 lg ag dg m lc ac dc t A1 A2 B1 B2 j v A → dvI1 lg ag dg m lc ac dc t A1 A2 B1 B2 j v B
  | 0, _, _, _, _, h => h
  | 1, _, _, _, _, h => h
  | 2, _, _, _, _, h => h
  | 3, _, _, _, _, h => h
  | 4, _, _, _, _, h => h
  | 5, _, _, _, _, h => h
  | 6, _, _, _, _, h => h
  | 7, _, _, _, _, h => h
  | 8, _, _, _, _, h => h
  | 9, _, _, _, _, h => h
  | 10, _, _, _, _, h => h
  | 11, _, _, _, _, h => h
  | 12, _, _, _, _, h => h
  | 13, _, _, _, _, h => h
  | 14, _, _, _, _, h => h
  | 15, _, _, _, _, h => h
  | 16, _, _, _, _, h => h
  | 17, _, _, _, _, h => h
  | 18, _, _, _, _, h => h
  | 19, _, _, _, _, h => h
  | _ + 20, _, _, _, _, _ => trivial

def dvI2 (lg ag dg n m lc ac dc t tt : Nat) (A1 A2 B1 B2 : Nat) : Nat → Value → World → Prop
  | 0, v, _ => v = .slice (some ⟨ag, 0, none⟩) m ac
  | 1, v, _ => v = .int .i64 (t : Int)
  | 2, v, _ => v = .pointer (some ⟨ag, t * 4, none⟩)
  | 3, v, _ => v = .agg #[.int .u64 A1, .int .u64 A2, .int .u64 B1, .int .u64 B2]
  | 4, v, _ => v = .slice (some ⟨lg, 0, none⟩) n lc
  | 5, v, _ => v = .slice (some ⟨dg, 0, none⟩) m dc
  | 6, v, _ => v = .int .i64 (t : Int)
  | 7, v, _ => v = .pointer (some ⟨dg, t, none⟩)
  | 8, v, _ => v = .int .i64 (tt : Int)
  | 9, v, _ => v = .slice (some ⟨lg, 0, none⟩) tt lc
  | 10, v, _ => v = .agg #[.int .u64 A1, .int .u64 A2]
  | 11, v, _ => v = .slice (some ⟨lg, 0, none⟩) n lc
  | 12, v, _ => v = .slice (some ⟨dg, 0, none⟩) m dc
  | 13, v, _ => v = .int .i64 (t : Int)
  | 14, v, _ => v = .pointer (some ⟨dg, t, none⟩)
  | 15, v, _ => v = .int .i64 (tt : Int)
  | 16, v, _ => v = .slice (some ⟨lg, tt, none⟩) (n - tt) (lc - tt)
  | 17, v, _ => v = .agg #[.int .u64 B1, .int .u64 B2]
  | 18, v, _ => v = .agg #[.int .u64 A1, .int .u64 A2, .int .u64 B1, .int .u64 B2]
  | 19, v, _ => v = .bool false
  | _, _, _ => True

theorem dvI2_up (lg ag dg n m lc ac dc t tt : Nat) (A1 A2 B1 B2 : Nat) : ∀ (j : Nat) (v : Value) (A B : World), Below A.heap.size A B → dvI2 lg ag dg n m lc ac dc t tt A1 A2 B1 B2 j v A → dvI2 lg ag dg n m lc ac dc t tt A1 A2 B1 B2 j v B
  | 0, _, _, _, _, h => h
  | 1, _, _, _, _, h => h
  | 2, _, _, _, _, h => h
  | 3, _, _, _, _, h => h
  | 4, _, _, _, _, h => h
  | 5, _, _, _, _, h => h
  | 6, _, _, _, _, h => h
  | 7, _, _, _, _, h => h
  | 8, _, _, _, _, h => h
  | 9, _, _, _, _, h => h
  | 10, _, _, _, _, h => h
  | 11, _, _, _, _, h => h
  | 12, _, _, _, _, h => h
  | 13, _, _, _, _, h => h
  | 14, _, _, _, _, h => h
  | 15, _, _, _, _, h => h
  | 16, _, _, _, _, h => h
  | 17, _, _, _, _, h => h
  | 18, _, _, _, _, h => h
  | 19, _, _, _, _, h => h
  | _ + 20, _, _, _, _, _ => trivial

def dvE (_u4 : Value) (_ELz ag t ac L1 L2 R1 R2 : Nat) : Nat → Value → World → Prop
  | 0, v, _ => v = .agg #[.int .u64 L1, .int .u64 L2]
  | 1, v, _ => v = .slice (some ⟨ag, 0, none⟩) t ac
  | 2, v, _ => v = .pointer (some ⟨ag, 0, none⟩)
  | 3, v, _ => v = .pointer (some ⟨ag, 0, none⟩)
  | 4, v, _ => v = .agg #[.int .u64 L1, .int .u64 L2]
  | 5, v, _ => v = .bool true
  | 6, v, _ => v = .bool true
  | 7, v, _ => v = .agg #[.int .u64 R1, .int .u64 R2]
  | 8, v, _ => v = .slice (some ⟨ag, 0, none⟩) t ac
  | 9, v, _ => v = .pointer (some ⟨ag, 0, none⟩)
  | 10, v, _ => v = .pointer (some ⟨ag, 2, none⟩)
  | 11, v, _ => v = .agg #[.int .u64 R1, .int .u64 R2]
  | 12, v, _ => v = .bool true
  | 13, v, _ => v = .bool true
  | 14, v, _ => v = .bool true
  | _, _, _ => True

theorem dvE_up (u4 : Value) (ELz ag t ac L1 L2 R1 R2 : Nat) : ∀ (j : Nat) (v : Value) (A B : World), Below A.heap.size A B → dvE u4 ELz ag t ac L1 L2 R1 R2 j v A → dvE u4 ELz ag t ac L1 L2 R1 R2 j v B
  | 0, _, _, _, _, h => h
  | 1, _, _, _, _, h => h
  | 2, _, _, _, _, h => h
  | 3, _, _, _, _, h => h
  | 4, _, _, _, _, h => h
  | 5, _, _, _, _, h => h
  | 6, _, _, _, _, h => h
  | 7, _, _, _, _, h => h
  | 8, _, _, _, _, h => h
  | 9, _, _, _, _, h => h
  | 10, _, _, _, _, h => h
  | 11, _, _, _, _, h => h
  | 12, _, _, _, _, h => h
  | 13, _, _, _, _, h => h
  | 14, _, _, _, _, h => h
  | _ + 15, _, _, _, _, _ => trivial

set_option maxRecDepth 100000 in
set_option maxHeartbeats 1500000 in
theorem divides_walk (a b c d : Int) (lo hi : Nat) (hl : lo < 18446744073709551616) (hh : hi < 18446744073709551616) (w : World) (G : Gl w) (kn : KnB Tryd.prog 12)
    (n m : Nat) (X : Nat → Int) (T : Nat → Nat) (hn : (Ns.notes lo hi).length = n) (hX : nth (Ns.notes lo hi) = X) (hm : (divU X n a b (n + 1)).length = m) (hT : ∀ i, T i = (divU X n a b (n + 1)).getD i 0)
    (al : chk a b c d = 0 → ∀ W, Gl W → Calls Tryd.prog 18 #[.agg #[.int .i64 a, .int .i64 b, .int .i64 c, .int .i64 d], .agg #[.int .u64 lo, .int .u64 hi]] W fun e w' => (∃ v, e = .returned (.tuple #[v, .int .i64 0]) ∧ Prs w' v m (fun i => ofW X 0 (T i)) (fun i => ofW X (T i) (n - T i))) ∧ Below W.heap.size W w')
    (tw : chk a b c d = 0 → m ≠ 0 → ∀ W, Gl W → Calls Tryd.prog 17 #[.agg #[.int .i64 a, .int .i64 b, .int .i64 c, .int .i64 d], .agg #[.int .u64 lo, .int .u64 hi]] W fun e w' => e = .returned (.tuple #[.agg #[.int .u64 (ofW X 0 (T 0)).1, .int .u64 (ofW X 0 (T 0)).2], .agg #[.int .u64 (ofW X (T 0) (n - T 0)).1, .int .u64 (ofW X (T 0) (n - T 0)).2], .bool true, .int .i64 0]) ∧ Below W.heap.size W w')
    (tz : chk a b c d = 0 → m = 0 → ∀ W, Gl W → Calls Tryd.prog 17 #[.agg #[.int .i64 a, .int .i64 b, .int .i64 c, .int .i64 d], .agg #[.int .u64 lo, .int .u64 hi]] W fun e w' => e = .returned (.tuple #[.agg #[.int .u64 0, .int .u64 0], .agg #[.int .u64 0, .int .u64 0], .bool false, .int .i64 0]) ∧ Below W.heap.size W w') :
    Calls Tryd.prog 6 #[.agg #[.int .i64 a, .int .i64 b, .int .i64 c, .int .i64 d], .agg #[.int .u64 lo, .int .u64 hi]] w fun e w' => e = .returned (.bool true) ∧ Below w.heap.size w w' := by
  have KN := Lib.hid kn
  have CH := Lib.hid (fun W => chkp_any a b c d W)
  have nb := notes_bd lo hi
  have li := fun W => list_c lo hi hl hh W
  rw [hn, hX] at nb li
  have LI := Lib.hid li
  have dv := fun v W (h : Lst W v n X) => divisions_any v n X a b c d W h nb.1 nb.2
  rw [hm] at dv
  have hTn : ∀ i, i < m → T i ≤ n := fun i hik => by
    rw [hT i]
    rw [← hm] at hik
    rw [List.getD_eq_getElem?_getD, List.getElem?_eq_getElem hik]
    have := (List.mem_filter.1 (show (divU X n a b (n + 1))[i] ∈ (List.range' 0 (n + 1)).filter _ from List.getElem_mem hik)).1
    simp at this ⊢
    omega
  have hY : nth (divU X n a b (n + 1)) = fun i => ((T i : Nat) : Int) := by funext i; rw [hT i]; rfl
  rw [hY] at dv
  have DV := Lib.hid dv
  have hml : m ≤ 1001 := by rw [← hm]; exact Nat.le_trans (divU_length X n a b (n + 1)) (by omega)
  obtain ⟨hn1, hnX⟩ := nb
  clear li dv hY hT hm hn hX kn hl hh
  obtain ⟨D, hD⟩ : ∃ D, w.heap.size = D := ⟨_, rfl⟩
  by_cases hx : chk a b c d = 0
  · have AL := Lib.hid (al hx)
    have TW := Lib.hid (tw hx)
    have TZ := Lib.hid (tz hx)
    rw [hx] at CH
    clear hx al tw tz
    go_enter Tryd.func6, Tryd.ntmps6
    have G1 : Gl ((w.alloc (.cells #[.int .i64 a, .int .i64 b, .int .i64 c, .int .i64 d] 23)).alloc (.cells #[.int .u64 lo, .int .u64 hi] 26)) := G.below (by rw [hD]; exact (((Below.refl _ w).alloc (by first | omega | (simp; omega)) (.cells #[.int .i64 a, .int .i64 b, .int .i64 c, .int .i64 d] 23)).alloc (by first | omega | (simp; omega)) (.cells #[.int .u64 lo, .int .u64 hi] 26)))
    go_wp2_with fail
    refine (KN.out _ G1).mono ?_
    rintro e v1 ⟨rfl, hb_v1⟩
    have cP_v1 : v1.heap[D]? = some (.cells #[.int .i64 a, .int .i64 b, .int .i64 c, .int .i64 d] 23) := (hb_v1.block (D) (Array.getElem?_eq_some_iff.1 (show ((w.alloc (.cells #[.int .i64 a, .int .i64 b, .int .i64 c, .int .i64 d] 23)).alloc (.cells #[.int .u64 lo, .int .u64 hi] 26)).heap[D]? = some (.cells #[.int .i64 a, .int .i64 b, .int .i64 c, .int .i64 d] 23) from (heap_old (o := .cells #[.int .u64 lo, .int .u64 hi] 26) (heap_new (by first | omega | (simp; omega)))))).1).trans (heap_old (o := .cells #[.int .u64 lo, .int .u64 hi] 26) (heap_new (by first | omega | (simp; omega))))
    have cS_v1 : v1.heap[D + 1]? = some (.cells #[.int .u64 lo, .int .u64 hi] 26) := (hb_v1.block (D + 1) (Array.getElem?_eq_some_iff.1 (show ((w.alloc (.cells #[.int .i64 a, .int .i64 b, .int .i64 c, .int .i64 d] 23)).alloc (.cells #[.int .u64 lo, .int .u64 hi] 26)).heap[D + 1]? = some (.cells #[.int .u64 lo, .int .u64 hi] 26) from (heap_new (by first | omega | (simp; omega))))).1).trans (heap_new (by first | omega | (simp; omega)))
    have hbb_v1 := hb_v1
    have hw_v1 : Below D w v1 := ((((Below.refl _ w).alloc (by first | omega | (simp; omega)) (.cells #[.int .i64 a, .int .i64 b, .int .i64 c, .int .i64 d] 23)).alloc (by first | omega | (simp; omega)) (.cells #[.int .u64 lo, .int .u64 hi] 26))).trans (hb_v1.mono (by first | omega | (simp; omega)))
    clear hb_v1
    have ld2 : v1.heap[D]? = some (.cells #[.int .i64 a, .int .i64 b, .int .i64 c, .int .i64 d] 23) := cP_v1
    have y2_0 := cell4_0 ld2
    have y2_1 := cell4_1 ld2
    have y2_2 := cell4_2 ld2
    have y2_3 := cell4_3 ld2
    clear ld2
    go_wp2_with fail
    refine (CH.out _).mono ?_
    rintro e v3 ⟨rfl, hb_v3⟩
    have hs_v3 := hw_v1.size
    have cP_v3 : v3.heap[D]? = some (.cells #[.int .i64 a, .int .i64 b, .int .i64 c, .int .i64 d] 23) := (hb_v3.block (D) (Array.getElem?_eq_some_iff.1 (show v1.heap[D]? = some (.cells #[.int .i64 a, .int .i64 b, .int .i64 c, .int .i64 d] 23) from cP_v1)).1).trans cP_v1
    have cS_v3 : v3.heap[D + 1]? = some (.cells #[.int .u64 lo, .int .u64 hi] 26) := (hb_v3.block (D + 1) (Array.getElem?_eq_some_iff.1 (show v1.heap[D + 1]? = some (.cells #[.int .u64 lo, .int .u64 hi] 26) from cS_v1)).1).trans cS_v1
    have hbb_v3 := hb_v3
    have hw_v3 : Below D w v3 := (hw_v1).trans (hb_v3.mono (by first | omega | (simp; omega)))
    clear cP_v1 cS_v1 hb_v3 y2_0 y2_1 y2_2 y2_3 hw_v1 hs_v3
    have ld4 : v3.heap[D + 1]? = some (.cells #[.int .u64 lo, .int .u64 hi] 26) := cS_v3
    have y4_0 := cell2_0 ld4
    have y4_1 := cell2_1 ld4
    clear ld4
    go_wp2_with fail
    refine (LI.out _).mono ?_
    rintro e v5 ⟨⟨lv, rfl, hlv⟩, hb_v5⟩
    have hs_v5 := hw_v3.size
    have cP_v5 : v5.heap[D]? = some (.cells #[.int .i64 a, .int .i64 b, .int .i64 c, .int .i64 d] 23) := (hb_v5.block (D) (Array.getElem?_eq_some_iff.1 (show v3.heap[D]? = some (.cells #[.int .i64 a, .int .i64 b, .int .i64 c, .int .i64 d] 23) from cP_v3)).1).trans cP_v3
    have cS_v5 : v5.heap[D + 1]? = some (.cells #[.int .u64 lo, .int .u64 hi] 26) := (hb_v5.block (D + 1) (Array.getElem?_eq_some_iff.1 (show v3.heap[D + 1]? = some (.cells #[.int .u64 lo, .int .u64 hi] 26) from cS_v3)).1).trans cS_v3
    have hbb_v5 := hb_v5
    have hw_v5 : Below D w v5 := (hw_v3).trans (hb_v5.mono (by first | omega | (simp; omega)))
    clear cP_v3 cS_v3 hb_v5 y4_0 y4_1 hw_v3 hs_v5
    have ld6 : v5.heap[D]? = some (.cells #[.int .i64 a, .int .i64 b, .int .i64 c, .int .i64 d] 23) := cP_v5
    have y6_0 := cell4_0 ld6
    have y6_1 := cell4_1 ld6
    have y6_2 := cell4_2 ld6
    have y6_3 := cell4_3 ld6
    clear ld6
    go_wp2_with fail
    refine (DV.out lv _ hlv).mono ?_
    rintro e v7 ⟨⟨dv, rfl, hdv⟩, hb_v7⟩
    have hs_v7 := hw_v5.size
    have cP_v7 : v7.heap[D]? = some (.cells #[.int .i64 a, .int .i64 b, .int .i64 c, .int .i64 d] 23) := (hb_v7.block (D) (Array.getElem?_eq_some_iff.1 (show v5.heap[D]? = some (.cells #[.int .i64 a, .int .i64 b, .int .i64 c, .int .i64 d] 23) from cP_v5)).1).trans cP_v5
    have cS_v7 : v7.heap[D + 1]? = some (.cells #[.int .u64 lo, .int .u64 hi] 26) := (hb_v7.block (D + 1) (Array.getElem?_eq_some_iff.1 (show v5.heap[D + 1]? = some (.cells #[.int .u64 lo, .int .u64 hi] 26) from cS_v5)).1).trans cS_v5
    have hbb_v7 := hb_v7
    have hw_v7 : Below D w v7 := (hw_v5).trans (hb_v7.mono (by first | omega | (simp; omega)))
    clear cP_v5 cS_v5 hb_v7 y6_0 y6_1 y6_2 y6_3 hw_v5 hs_v7
    have hlv2 : Lst v7 lv n X := hlv.below hbb_v7
    have G2 : Gl v7 := G.below (by rw [hD]; exact hw_v7)
    have ld8 : v7.heap[D]? = some (.cells #[.int .i64 a, .int .i64 b, .int .i64 c, .int .i64 d] 23) := cP_v7
    have y8_0 := cell4_0 ld8
    have y8_1 := cell4_1 ld8
    have y8_2 := cell4_2 ld8
    have y8_3 := cell4_3 ld8
    clear ld8
    have ld9 : v7.heap[D + 1]? = some (.cells #[.int .u64 lo, .int .u64 hi] 26) := cS_v7
    have y9_0 := cell2_0 ld9
    have y9_1 := cell2_1 ld9
    clear ld9
    go_wp2_with fail
    refine (AL.out _ G2).mono ?_
    rintro e v10 ⟨⟨av, rfl, hav⟩, hb_v10⟩
    have hs_v10 := hw_v7.size
    have cP_v10 : v10.heap[D]? = some (.cells #[.int .i64 a, .int .i64 b, .int .i64 c, .int .i64 d] 23) := (hb_v10.block (D) (Array.getElem?_eq_some_iff.1 (show v7.heap[D]? = some (.cells #[.int .i64 a, .int .i64 b, .int .i64 c, .int .i64 d] 23) from cP_v7)).1).trans cP_v7
    have cS_v10 : v10.heap[D + 1]? = some (.cells #[.int .u64 lo, .int .u64 hi] 26) := (hb_v10.block (D + 1) (Array.getElem?_eq_some_iff.1 (show v7.heap[D + 1]? = some (.cells #[.int .u64 lo, .int .u64 hi] 26) from cS_v7)).1).trans cS_v7
    have hbb_v10 := hb_v10
    have hw_v10 : Below D w v10 := (hw_v7).trans (hb_v10.mono (by first | omega | (simp; omega)))
    clear cP_v7 cS_v7 hb_v10 y8_0 y8_1 y8_2 y8_3 y9_0 y9_1 hw_v7 hs_v10
    have hlv3 : Lst v10 lv n X := hlv2.below hbb_v10
    have hdv3 : Lst v10 dv m _ := hdv.below hbb_v10
    by_cases hm0 : m = 0
    · have TZ2 := Lib.hid (TZ.out hm0)
      clear TZ TW
      subst hm0
      obtain ⟨a1, c1, rfl⟩ := hdv3.len
      obtain ⟨a2, c2, rfl⟩ : ∃ a c, av = .slice a 0 c := by rcases hav with ⟨_, rfl⟩ | ⟨g, cap, rfl, _⟩ <;> exact ⟨_, _, rfl⟩
      have hez : ∀ W : World, (binOp .eql 26 (.agg #[.int .u64 0, .int .u64 0]) (.agg #[.int .u64 0, .int .u64 0])).run Tryd.prog W = .ok (.bool true) W := fun W => by simp [go_sem]
      have G3 : Gl v10 := G.below (by rw [hD]; exact hw_v10)
      have ld11 : v10.heap[D]? = some (.cells #[.int .i64 a, .int .i64 b, .int .i64 c, .int .i64 d] 23) := cP_v10
      have y11_0 := cell4_0 ld11
      have y11_1 := cell4_1 ld11
      have y11_2 := cell4_2 ld11
      have y11_3 := cell4_3 ld11
      clear ld11
      have ld12 : v10.heap[D + 1]? = some (.cells #[.int .u64 lo, .int .u64 hi] 26) := cS_v10
      have y12_0 := cell2_0 ld12
      have y12_1 := cell2_1 ld12
      clear ld12
      go_wp2_with fail
      refine (TZ2.out _ G3).mono ?_
      rintro e v13 ⟨rfl, hb_v13⟩
      have hs_v13 := hw_v10.size
      have cP_v13 : v13.heap[D]? = some (.cells #[.int .i64 a, .int .i64 b, .int .i64 c, .int .i64 d] 23) := (hb_v13.block (D) (Array.getElem?_eq_some_iff.1 (show v10.heap[D]? = some (.cells #[.int .i64 a, .int .i64 b, .int .i64 c, .int .i64 d] 23) from cP_v10)).1).trans cP_v10
      have cS_v13 : v13.heap[D + 1]? = some (.cells #[.int .u64 lo, .int .u64 hi] 26) := (hb_v13.block (D + 1) (Array.getElem?_eq_some_iff.1 (show v10.heap[D + 1]? = some (.cells #[.int .u64 lo, .int .u64 hi] 26) from cS_v10)).1).trans cS_v10
      have hw_v13 : Below D w v13 := (hw_v10).trans (hb_v13.mono (by first | omega | (simp; omega)))
      clear cP_v10 cS_v10 hb_v13 y11_0 y11_1 y11_2 y11_3 y12_0 y12_1 hw_v10 hs_v13
      obtain ⟨ELz, hELz⟩ : ∃ E, v13.heap.size = E := ⟨_, rfl⟩
      have HW := Lib.hid (((hw_v13.alloc (by have := hw_v13.size; first | omega | (simp; omega)) (.cells #[.int .u64 0, .int .u64 0] 26)).alloc (by have := hw_v13.size; first | omega | (simp; omega)) (.cells #[.int .u64 0, .int .u64 0] 26)))
      have ld14 : ((v13.alloc (.cells #[.int .u64 0, .int .u64 0] 26)).alloc (.cells #[.int .u64 0, .int .u64 0] 26)).heap[ELz]? = some (.cells #[.int .u64 0, .int .u64 0] 26) := (heap_old (o := .cells #[.int .u64 0, .int .u64 0] 26) (heap_new (by first | omega | (simp; omega))))
      have y14_0 := cell2_0 ld14
      have y14_1 := cell2_1 ld14
      clear ld14
      have ld15 : ((v13.alloc (.cells #[.int .u64 0, .int .u64 0] 26)).alloc (.cells #[.int .u64 0, .int .u64 0] 26)).heap[ELz + 1]? = some (.cells #[.int .u64 0, .int .u64 0] 26) := (heap_new (by first | omega | (simp; omega)))
      have y15_0 := cell2_0 ld15
      have y15_1 := cell2_1 ld15
      clear ld15
      clear KN CH LI DV AL TZ2
      go_wp2_with fail
      go_loopw [13] (fun i wr => i = .int .i64 0 ∧ wr = ((v13.alloc (.cells #[.int .u64 0, .int .u64 0] 26)).alloc (.cells #[.int .u64 0, .int .u64 0] 26))) (fun _ _ => 0)
      case atStart => exact ⟨rfl, rfl⟩
      case round =>
        obtain ⟨rfl, rfl⟩ := hrel
        go_wp2
        go_ret
        exact ⟨rfl, by first | exact HW.out | (rw [hD]; exact HW.out)⟩
    · have TW2 := Lib.hid (TW.out hm0)
      clear TZ TW
      obtain ⟨L1, hL1⟩ : ∃ x, (ofW X 0 (T 0)).1 = x := ⟨_, rfl⟩
      obtain ⟨L2, hL2⟩ : ∃ x, (ofW X 0 (T 0)).2 = x := ⟨_, rfl⟩
      obtain ⟨R1, hR1⟩ : ∃ x, (ofW X (T 0) (n - T 0)).1 = x := ⟨_, rfl⟩
      obtain ⟨R2, hR2⟩ : ∃ x, (ofW X (T 0) (n - T 0)).2 = x := ⟨_, rfl⟩
      rw [hL1, hL2, hR1, hR2] at TW2
      obtain ⟨dg, dc, rfl, hdc, hdg, hdx⟩ : ∃ g cap, dv = .slice (some ⟨g, 0, none⟩) m cap ∧ m ≤ cap ∧ g < v10.heap.size ∧ ∀ k, k < m → v10.cell? ⟨g, 0 + k, none⟩ = some (.int .i64 (T k : Nat)) := hdv3.resolve_left (fun h => hm0 h.1)
      obtain ⟨ag, ac, rfl, hac, hag, hax⟩ := hav.resolve_left (fun h => hm0 h.1)
      have G3 : Gl v10 := G.below (by rw [hD]; exact hw_v10)
      have ld11 : v10.heap[D]? = some (.cells #[.int .i64 a, .int .i64 b, .int .i64 c, .int .i64 d] 23) := cP_v10
      have y11_0 := cell4_0 ld11
      have y11_1 := cell4_1 ld11
      have y11_2 := cell4_2 ld11
      have y11_3 := cell4_3 ld11
      clear ld11
      have ld12 : v10.heap[D + 1]? = some (.cells #[.int .u64 lo, .int .u64 hi] 26) := cS_v10
      have y12_0 := cell2_0 ld12
      have y12_1 := cell2_1 ld12
      clear ld12
      go_wp2_with fail
      refine (TW2.out _ G3).mono ?_
      rintro e v13 ⟨rfl, hb_v13⟩
      have hs_v13 := hw_v10.size
      have cP_v13 : v13.heap[D]? = some (.cells #[.int .i64 a, .int .i64 b, .int .i64 c, .int .i64 d] 23) := (hb_v13.block (D) (Array.getElem?_eq_some_iff.1 (show v10.heap[D]? = some (.cells #[.int .i64 a, .int .i64 b, .int .i64 c, .int .i64 d] 23) from cP_v10)).1).trans cP_v10
      have cS_v13 : v13.heap[D + 1]? = some (.cells #[.int .u64 lo, .int .u64 hi] 26) := (hb_v13.block (D + 1) (Array.getElem?_eq_some_iff.1 (show v10.heap[D + 1]? = some (.cells #[.int .u64 lo, .int .u64 hi] 26) from cS_v10)).1).trans cS_v10
      have hbb_v13 := hb_v13
      have hw_v13 : Below D w v13 := (hw_v10).trans (hb_v13.mono (by first | omega | (simp; omega)))
      clear cP_v10 cS_v10 hb_v13 y11_0 y11_1 y11_2 y11_3 y12_0 y12_1 hw_v10 hs_v13
      obtain ⟨ELz, hELz⟩ : ∃ E, v13.heap.size = E := ⟨_, rfl⟩
      have hm1 : ((0 : Nat) : Int) < m := by omega
      have hm2 : (0 : Int) < m := by omega
      have hm3 : 0 < m := by omega
      obtain ⟨V, hV⟩ : ∃ V : World, ((v13.alloc (.cells #[.int .u64 L1, .int .u64 L2] 26)).alloc (.cells #[.int .u64 R1, .int .u64 R2] 26)) = V := ⟨_, rfl⟩
      have hbV : Below v13.heap.size v13 V := by rw [← hV]; exact ((Below.refl _ _).alloc (Nat.le_refl _) _).alloc (by simp) _
      have b34 : Below v10.heap.size v10 v13 := hbb_v13
      have hbb := b34.trans (hbV.mono b34.size)
      have hlvV : Lst V lv n X := hlv3.below hbb
      have hdgV : dg < V.heap.size := Nat.lt_of_lt_of_le hdg hbb.size
      have hagV : ag < V.heap.size := Nat.lt_of_lt_of_le hag hbb.size
      have hdxV : ∀ k, k < m → V.cell? ⟨dg, 0 + k, none⟩ = some (.int .i64 (T k : Nat)) := fun k hk => (hbb.cell (p := ⟨dg, _, none⟩) hdg).trans (hdx k hk)
      have haxV : ∀ i, i < m → V.cell? ⟨ag, i * 4, none⟩ = some (.int .u64 (ofW X 0 (T i)).1) ∧ V.cell? ⟨ag, i * 4 + 1, none⟩ = some (.int .u64 (ofW X 0 (T i)).2) ∧ V.cell? ⟨ag, i * 4 + 2, none⟩ = some (.int .u64 (ofW X (T i) (n - T i)).1) ∧ V.cell? ⟨ag, i * 4 + 3, none⟩ = some (.int .u64 (ofW X (T i) (n - T i)).2) := fun i hik => by
        obtain ⟨k0, k1, k2, k3⟩ := hax i hik
        exact ⟨(hbb.cell (p := ⟨ag, _, none⟩) hag).trans k0, (hbb.cell (p := ⟨ag, _, none⟩) hag).trans k1, (hbb.cell (p := ⟨ag, _, none⟩) hag).trans k2, (hbb.cell (p := ⟨ag, _, none⟩) hag).trans k3⟩
      have hlzV : V.heap[ELz]? = some (.cells #[.int .u64 L1, .int .u64 L2] 26) := by rw [← hV]; exact (heap_old (o := .cells #[.int .u64 R1, .int .u64 R2] 26) (heap_new (by first | omega | (simp; omega))))
      have hrzV : V.heap[ELz + 1]? = some (.cells #[.int .u64 R1, .int .u64 R2] 26) := by rw [← hV]; exact (heap_new (by first | omega | (simp; omega)))
      have hwV : Below D w V := by rw [← hV]; exact ((hw_v13.alloc (by have := hw_v13.size; first | omega | (simp; omega)) (.cells #[.int .u64 L1, .int .u64 L2] 26)).alloc (by have := hw_v13.size; first | omega | (simp; omega)) (.cells #[.int .u64 R1, .int .u64 R2] 26))
      clear hlv3 hdx hax hdg hag hdv3 hlv2 b34 hbV hbb hav hw_v13 cP_v13 cS_v13 hlv hdv hbb_v10 hbb_v13
      go_wp2_with fail
      try rw [hV]
      clear hV
      go_loopw [13] (fun i wr => ∃ t : Nat, t ≤ m ∧ i = .int .i64 (t : Int) ∧ Below V.heap.size V wr) (fun i _ => m - (intOf i).toNat)
      case atStart => exact ⟨0, by omega, rfl, Below.refl _ _⟩
      case round =>
        obtain ⟨t, ht, rfl, hw⟩ := hrel
        by_cases h1 : t < m
        · have h1i : (t : Int) < m := by omega
          have hTt := hTn t h1
          obtain ⟨a0, a1, a2, a3⟩ := haxV t h1
          have dT := hdxV t h1
          rw [Nat.zero_add] at dT
          obtain ⟨tt, htt⟩ : ∃ x, T t = x := ⟨_, rfl⟩
          rw [htt] at hTt a0 a1 a2 a3 dT
          obtain ⟨A1, hA1⟩ : ∃ x, (ofW X 0 tt).1 = x := ⟨_, rfl⟩
          obtain ⟨A2, hA2⟩ : ∃ x, (ofW X 0 tt).2 = x := ⟨_, rfl⟩
          obtain ⟨B1, hB1⟩ : ∃ x, (ofW X tt (n - tt)).1 = x := ⟨_, rfl⟩
          obtain ⟨B2, hB2⟩ : ∃ x, (ofW X tt (n - tt)).2 = x := ⟨_, rfl⟩
          rw [hA1] at a0; rw [hA2] at a1; rw [hB1] at a2; rw [hB2] at a3
          have HR := Lib.hid (show DvR V lv n X ag dg t tt A1 A2 B1 B2 wr from ⟨hw, hlvV.below hw, ⟨(hw.cell (p := ⟨ag, _, none⟩) hagV).trans a0, (hw.cell (p := ⟨ag, _, none⟩) hagV).trans a1, (hw.cell (p := ⟨ag, _, none⟩) hagV).trans a2, (hw.cell (p := ⟨ag, _, none⟩) hagV).trans a3⟩, (hw.cell (p := ⟨dg, _, none⟩) hdgV).trans dT⟩)
          have HEQ := Lib.hid (fun W => eq_pair A1 A2 B1 B2 W)
          have HEQ2 := Lib.hid (fun W => (show (Op.equalIn 10000 57 (.agg #[.int .u64 (A1 : Nat), .int .u64 (A2 : Nat), .int .u64 (B1 : Nat), .int .u64 (B2 : Nat)]) (.agg #[.int .u64 (A1 : Nat), .int .u64 (A2 : Nat), .int .u64 (B1 : Nat), .int .u64 (B2 : Nat)])).run Tryd.prog W = .ok true W from eq_pair_d 9997 A1 A2 B1 B2 W))
          clear a0 a1 a2 a3 dT hw
          rcases hlvV with ⟨rfl, rfl⟩ | ⟨lg, lc, rfl, hlc, hlg, hlx⟩
          · obtain rfl : tt = 0 := by omega
            have OF1 := Lib.hid (fun W => (show Calls Tryd.prog 26 #[.slice none 0 0] W fun e w' => e = .returned (.agg #[.int .u64 ((ofW X 0 0).1 : Nat), .int .u64 ((ofW X 0 0).2 : Nat)]) ∧ Below W.heap.size W w' from ofw_empty X 0 none 0 W))
            have OF2 := Lib.hid (fun W => (show Calls Tryd.prog 26 #[.slice none 0 0] W fun e w' => e = .returned (.agg #[.int .u64 ((ofW X 0 (0 - 0)).1 : Nat), .int .u64 ((ofW X 0 (0 - 0)).2 : Nat)]) ∧ Below W.heap.size W w' from ofw_empty X 0 none 0 W))
            rw [hA1, hA2] at OF1
            rw [hB1, hB2] at OF2
            have l4 : t < m := h1
            go_wp2_with fail
            refine wp_region_slots_at rfl rfl (fun base ys => (((((((((((((((((((base.set 67 (ys 0)).set 68 (ys 1)).set 69 (ys 2)).set 70 (ys 3)).set 71 (ys 4)).set 72 (ys 5)).set 73 (ys 6)).set 74 (ys 7)).set 75 (ys 8)).set 76 (ys 9)).set 77 (ys 10)).set 78 (ys 11)).set 79 (ys 12)).set 80 (ys 13)).set 81 (ys 14)).set 82 (ys 15)).set 83 (ys 16)).set 84 (ys 17)).set 85 (ys 18)).set 86 (ys 19)) (BelowI _ (DvR V (.slice none 0 0) 0 X ag dg t 0 A1 A2 B1 B2) (dvI0 ag dg m ac dc t A1 A2 B1 B2)) (fun | 0 => u67 | 1 => u68 | 2 => u69 | 3 => u70 | 4 => u71 | 5 => u72 | 6 => u73 | 7 => u74 | 8 => u75 | 9 => u76 | 10 => u77 | 11 => u78 | 12 => u79 | 13 => u80 | 14 => u81 | 15 => u82 | 16 => u83 | 17 => u84 | 18 => u85 | 19 => u86 | _ => undef) (by kernel_rfl) (below_start (DvR_up V (.slice none 0 0) 0 X ag dg t 0 A1 A2 B1 B2 wr wr.drew ⟨rfl, rfl, rfl, Nat.le_refl _, fun _ _ => rfl⟩ HR.out)) ?h
            case h =>
              intro FF hFF
              simp only [List.set_cons_succ, List.set_cons_zero] at hFF
              subst hFF
              refine ⟨rfl, ?_, ?_⟩
              refine ⟨?_, ?_⟩
              · refine SlotStep.below (DvR_up V (.slice none 0 0) 0 X ag dg t 0 A1 A2 B1 B2) (dvI0_up ag dg m ac dc t A1 A2 B1 B2) ?_
                intro ys W hR hd K hK
                go_simp
                have hK2 := hK (.slice (some ⟨ag, 0, none⟩) m ac) _ (Below.refl _ _) rfl
                simp (config := { decide := true }) only [upd, if_true, if_false] at hK2
                exact hK2
              refine ⟨?_, ?_⟩
              · refine SlotStep.below (DvR_up V (.slice none 0 0) 0 X ag dg t 0 A1 A2 B1 B2) (dvI0_up ag dg m ac dc t A1 A2 B1 B2) ?_
                intro ys W hR hd K hK
                go_simp
                have hK2 := hK (.int .i64 (t : Int)) _ (Below.refl _ _) rfl
                simp (config := { decide := true }) only [upd, if_true, if_false] at hK2
                exact hK2
              refine ⟨?_, ?_⟩
              · refine SlotStep.below (DvR_up V (.slice none 0 0) 0 X ag dg t 0 A1 A2 B1 B2) (dvI0_up ag dg m ac dc t A1 A2 B1 B2) ?_
                intro ys W hR hd K hK
                have dd0 : ys 0 = (.slice (some ⟨ag, 0, none⟩) m ac) := hd 0 (by kernel_rfl) (by decide)
                have dd1 : ys 1 = (.int .i64 (t : Int)) := hd 1 (by kernel_rfl) (by decide)
                go_simp
                have hK2 := hK (.pointer (some ⟨ag, t * 4, none⟩)) _ (Below.refl _ _) rfl
                simp (config := { decide := true }) only [upd, if_true, if_false, dd0, dd1] at hK2
                exact hK2
              refine ⟨?_, ?_⟩
              · refine SlotStep.below (DvR_up V (.slice none 0 0) 0 X ag dg t 0 A1 A2 B1 B2) (dvI0_up ag dg m ac dc t A1 A2 B1 B2) ?_
                intro ys W hR hd K hK
                have dd2 : ys 2 = (.pointer (some ⟨ag, t * 4, none⟩)) := hd 2 (by kernel_rfl) (by decide)
                have c0 := hR.2.2.1.1
                have c1 := hR.2.2.1.2.1
                have c2 := hR.2.2.1.2.2.1
                have c3 := hR.2.2.1.2.2.2
                go_simp
                have hK2 := hK (.agg #[.int .u64 A1, .int .u64 A2, .int .u64 B1, .int .u64 B2]) _ (Below.refl _ _) rfl
                simp (config := { decide := true }) only [upd, if_true, if_false, dd2] at hK2
                exact hK2
              refine ⟨?_, ?_⟩
              · refine SlotStep.below (DvR_up V (.slice none 0 0) 0 X ag dg t 0 A1 A2 B1 B2) (dvI0_up ag dg m ac dc t A1 A2 B1 B2) ?_
                intro ys W hR hd K hK
                go_simp
                have hK2 := hK (.slice none 0 0) _ (Below.refl _ _) rfl
                simp (config := { decide := true }) only [upd, if_true, if_false] at hK2
                exact hK2
              refine ⟨?_, ?_⟩
              · refine SlotStep.below (DvR_up V (.slice none 0 0) 0 X ag dg t 0 A1 A2 B1 B2) (dvI0_up ag dg m ac dc t A1 A2 B1 B2) ?_
                intro ys W hR hd K hK
                go_simp
                have hK2 := hK (.slice (some ⟨dg, 0, none⟩) m dc) _ (Below.refl _ _) rfl
                simp (config := { decide := true }) only [upd, if_true, if_false] at hK2
                exact hK2
              refine ⟨?_, ?_⟩
              · refine SlotStep.below (DvR_up V (.slice none 0 0) 0 X ag dg t 0 A1 A2 B1 B2) (dvI0_up ag dg m ac dc t A1 A2 B1 B2) ?_
                intro ys W hR hd K hK
                go_simp
                have hK2 := hK (.int .i64 (t : Int)) _ (Below.refl _ _) rfl
                simp (config := { decide := true }) only [upd, if_true, if_false] at hK2
                exact hK2
              refine ⟨?_, ?_⟩
              · refine SlotStep.below (DvR_up V (.slice none 0 0) 0 X ag dg t 0 A1 A2 B1 B2) (dvI0_up ag dg m ac dc t A1 A2 B1 B2) ?_
                intro ys W hR hd K hK
                have dd5 : ys 5 = (.slice (some ⟨dg, 0, none⟩) m dc) := hd 5 (by kernel_rfl) (by decide)
                have dd6 : ys 6 = (.int .i64 (t : Int)) := hd 6 (by kernel_rfl) (by decide)
                go_simp
                have hK2 := hK (.pointer (some ⟨dg, t, none⟩)) _ (Below.refl _ _) rfl
                simp (config := { decide := true }) only [upd, if_true, if_false, dd5, dd6] at hK2
                exact hK2
              refine ⟨?_, ?_⟩
              · refine SlotStep.below (DvR_up V (.slice none 0 0) 0 X ag dg t 0 A1 A2 B1 B2) (dvI0_up ag dg m ac dc t A1 A2 B1 B2) ?_
                intro ys W hR hd K hK
                have dd7 : ys 7 = (.pointer (some ⟨dg, t, none⟩)) := hd 7 (by kernel_rfl) (by decide)
                have c4 : W.cell? ⟨dg, t, none⟩ = some (.int .i64 0) := hR.2.2.2
                go_simp
                have hK2 := hK (.int .i64 0) _ (Below.refl _ _) rfl
                simp (config := { decide := true }) only [upd, if_true, if_false, dd7] at hK2
                exact hK2
              refine ⟨?_, ?_⟩
              · refine SlotStep.below (DvR_up V (.slice none 0 0) 0 X ag dg t 0 A1 A2 B1 B2) (dvI0_up ag dg m ac dc t A1 A2 B1 B2) ?_
                intro ys W hR hd K hK
                have dd4 : ys 4 = (.slice none 0 0) := hd 4 (by kernel_rfl) (by decide)
                have dd8 : ys 8 = (.int .i64 0) := hd 8 (by kernel_rfl) (by decide)
                go_simp
                have hK2 := hK (.slice none 0 0) _ (Below.refl _ _) rfl
                simp (config := { decide := true }) only [upd, if_true, if_false, dd4, dd8] at hK2
                exact hK2
              refine ⟨?_, ?_⟩
              · refine SlotStep.below (DvR_up V (.slice none 0 0) 0 X ag dg t 0 A1 A2 B1 B2) (dvI0_up ag dg m ac dc t A1 A2 B1 B2) ?_
                intro ys W hR hd K hK
                have dd9 : ys 9 = (.slice none 0 0) := hd 9 (by kernel_rfl) (by decide)
                go_simp
                refine (OF1.out W).mono ?_
                rintro e w5 ⟨rfl, hb5⟩
                have hK2 := hK (.agg #[.int .u64 A1, .int .u64 A2]) _ hb5 rfl
                simp (config := { decide := true }) only [upd, if_true, if_false, dd9] at hK2
                exact hK2
              refine ⟨?_, ?_⟩
              · refine SlotStep.below (DvR_up V (.slice none 0 0) 0 X ag dg t 0 A1 A2 B1 B2) (dvI0_up ag dg m ac dc t A1 A2 B1 B2) ?_
                intro ys W hR hd K hK
                go_simp
                have hK2 := hK (.slice none 0 0) _ (Below.refl _ _) rfl
                simp (config := { decide := true }) only [upd, if_true, if_false] at hK2
                exact hK2
              refine ⟨?_, ?_⟩
              · refine SlotStep.below (DvR_up V (.slice none 0 0) 0 X ag dg t 0 A1 A2 B1 B2) (dvI0_up ag dg m ac dc t A1 A2 B1 B2) ?_
                intro ys W hR hd K hK
                go_simp
                have hK2 := hK (.slice (some ⟨dg, 0, none⟩) m dc) _ (Below.refl _ _) rfl
                simp (config := { decide := true }) only [upd, if_true, if_false] at hK2
                exact hK2
              refine ⟨?_, ?_⟩
              · refine SlotStep.below (DvR_up V (.slice none 0 0) 0 X ag dg t 0 A1 A2 B1 B2) (dvI0_up ag dg m ac dc t A1 A2 B1 B2) ?_
                intro ys W hR hd K hK
                go_simp
                have hK2 := hK (.int .i64 (t : Int)) _ (Below.refl _ _) rfl
                simp (config := { decide := true }) only [upd, if_true, if_false] at hK2
                exact hK2
              refine ⟨?_, ?_⟩
              · refine SlotStep.below (DvR_up V (.slice none 0 0) 0 X ag dg t 0 A1 A2 B1 B2) (dvI0_up ag dg m ac dc t A1 A2 B1 B2) ?_
                intro ys W hR hd K hK
                have dd12 : ys 12 = (.slice (some ⟨dg, 0, none⟩) m dc) := hd 12 (by kernel_rfl) (by decide)
                have dd13 : ys 13 = (.int .i64 (t : Int)) := hd 13 (by kernel_rfl) (by decide)
                go_simp
                have hK2 := hK (.pointer (some ⟨dg, t, none⟩)) _ (Below.refl _ _) rfl
                simp (config := { decide := true }) only [upd, if_true, if_false, dd12, dd13] at hK2
                exact hK2
              refine ⟨?_, ?_⟩
              · refine SlotStep.below (DvR_up V (.slice none 0 0) 0 X ag dg t 0 A1 A2 B1 B2) (dvI0_up ag dg m ac dc t A1 A2 B1 B2) ?_
                intro ys W hR hd K hK
                have dd14 : ys 14 = (.pointer (some ⟨dg, t, none⟩)) := hd 14 (by kernel_rfl) (by decide)
                have c4 : W.cell? ⟨dg, t, none⟩ = some (.int .i64 0) := hR.2.2.2
                go_simp
                have hK2 := hK (.int .i64 0) _ (Below.refl _ _) rfl
                simp (config := { decide := true }) only [upd, if_true, if_false, dd14] at hK2
                exact hK2
              refine ⟨?_, ?_⟩
              · refine SlotStep.below (DvR_up V (.slice none 0 0) 0 X ag dg t 0 A1 A2 B1 B2) (dvI0_up ag dg m ac dc t A1 A2 B1 B2) ?_
                intro ys W hR hd K hK
                have dd11 : ys 11 = (.slice none 0 0) := hd 11 (by kernel_rfl) (by decide)
                have dd15 : ys 15 = (.int .i64 0) := hd 15 (by kernel_rfl) (by decide)
                go_simp
                have hK2 := hK (.slice none 0 0) _ (Below.refl _ _) rfl
                simp (config := { decide := true }) only [upd, if_true, if_false, dd11, dd15] at hK2
                exact hK2
              refine ⟨?_, ?_⟩
              · refine SlotStep.below (DvR_up V (.slice none 0 0) 0 X ag dg t 0 A1 A2 B1 B2) (dvI0_up ag dg m ac dc t A1 A2 B1 B2) ?_
                intro ys W hR hd K hK
                have dd16 : ys 16 = (.slice none 0 0) := hd 16 (by kernel_rfl) (by decide)
                go_simp
                refine (OF2.out W).mono ?_
                rintro e w5 ⟨rfl, hb5⟩
                have hK2 := hK (.agg #[.int .u64 B1, .int .u64 B2]) _ hb5 rfl
                simp (config := { decide := true }) only [upd, if_true, if_false, dd16] at hK2
                exact hK2
              refine ⟨?_, ?_⟩
              · refine SlotStep.below (DvR_up V (.slice none 0 0) 0 X ag dg t 0 A1 A2 B1 B2) (dvI0_up ag dg m ac dc t A1 A2 B1 B2) ?_
                intro ys W hR hd K hK
                have dd10 : ys 10 = (.agg #[.int .u64 A1, .int .u64 A2]) := hd 10 (by kernel_rfl) (by decide)
                have dd17 : ys 17 = (.agg #[.int .u64 B1, .int .u64 B2]) := hd 17 (by kernel_rfl) (by decide)
                go_simp
                have hK2 := hK (.agg #[.int .u64 A1, .int .u64 A2, .int .u64 B1, .int .u64 B2]) _ (Below.refl _ _) rfl
                simp (config := { decide := true }) only [upd, if_true, if_false, dd10, dd17] at hK2
                exact hK2
              refine ⟨?_, ?_⟩
              · refine SlotStep.below (DvR_up V (.slice none 0 0) 0 X ag dg t 0 A1 A2 B1 B2) (dvI0_up ag dg m ac dc t A1 A2 B1 B2) ?_
                intro ys W hR hd K hK
                have dd3 : ys 3 = (.agg #[.int .u64 A1, .int .u64 A2, .int .u64 B1, .int .u64 B2]) := hd 3 (by kernel_rfl) (by decide)
                have dd18 : ys 18 = (.agg #[.int .u64 A1, .int .u64 A2, .int .u64 B1, .int .u64 B2]) := hd 18 (by kernel_rfl) (by decide)
                have heq := HEQ.out
                have heq2 := HEQ2.out
                go_simp
                have hK2 := hK (.bool false) _ (Below.refl _ _) rfl
                simp (config := { decide := true }) only [upd, if_true, if_false, dd3, dd18] at hK2
                exact hK2
              trivial
              · intro L5 ys5 W5 hL5 hI5
                obtain ⟨hR5, hj5⟩ := hI5
                have y := hj5 19 (by decide) (hL5 19 (by decide))
                have y : ys5 19 = .bool false := y
                have HW := Lib.hid hR5.1
                clear hR5 hj5 hL5 HR OF1 OF2
                simp only [y]
                go_wp2
                go_roundw
                case rel => exact ⟨t + 1, by omega, by go_num, HW.out⟩
                case measure => simp [intOf]; omega
          · by_cases hct : lc = tt
            · obtain rfl : n = tt := by omega
              subst hct
              have OF1 := Lib.hid (fun W (h : Lst W (.slice (some ⟨lg, 0, none⟩) lc lc) lc X) => of_pre lg lc lc lc X W h hn1 hTt hnX)
              have OF2 := Lib.hid (fun W => (show Calls Tryd.prog 26 #[.slice (some ⟨lg, 0, none⟩) 0 0] W fun e w' => e = .returned (.agg #[.int .u64 ((ofW X lc (lc - lc)).1 : Nat), .int .u64 ((ofW X lc (lc - lc)).2 : Nat)]) ∧ Below W.heap.size W w' from by rw [Nat.sub_self]; exact ofw_empty X lc _ 0 W))
              rw [hA1, hA2] at OF1
              rw [hB1, hB2] at OF2
              have l4 : t < m := h1
              go_wp2_with fail
              refine wp_region_slots_at rfl rfl (fun base ys => (((((((((((((((((((base.set 67 (ys 0)).set 68 (ys 1)).set 69 (ys 2)).set 70 (ys 3)).set 71 (ys 4)).set 72 (ys 5)).set 73 (ys 6)).set 74 (ys 7)).set 75 (ys 8)).set 76 (ys 9)).set 77 (ys 10)).set 78 (ys 11)).set 79 (ys 12)).set 80 (ys 13)).set 81 (ys 14)).set 82 (ys 15)).set 83 (ys 16)).set 84 (ys 17)).set 85 (ys 18)).set 86 (ys 19)) (BelowI _ (DvR V (.slice (some ⟨lg, 0, none⟩) lc lc) lc X ag dg t lc A1 A2 B1 B2) (dvI1 lg ag dg m lc ac dc t A1 A2 B1 B2)) (fun | 0 => u67 | 1 => u68 | 2 => u69 | 3 => u70 | 4 => u71 | 5 => u72 | 6 => u73 | 7 => u74 | 8 => u75 | 9 => u76 | 10 => u77 | 11 => u78 | 12 => u79 | 13 => u80 | 14 => u81 | 15 => u82 | 16 => u83 | 17 => u84 | 18 => u85 | 19 => u86 | _ => undef) (by kernel_rfl) (below_start (DvR_up V (.slice (some ⟨lg, 0, none⟩) lc lc) lc X ag dg t lc A1 A2 B1 B2 wr wr.drew ⟨rfl, rfl, rfl, Nat.le_refl _, fun _ _ => rfl⟩ HR.out)) ?h
              case h =>
                intro FF hFF
                simp only [List.set_cons_succ, List.set_cons_zero] at hFF
                subst hFF
                refine ⟨rfl, ?_, ?_⟩
                refine ⟨?_, ?_⟩
                · refine SlotStep.below (DvR_up V (.slice (some ⟨lg, 0, none⟩) lc lc) lc X ag dg t lc A1 A2 B1 B2) (dvI1_up lg ag dg m lc ac dc t A1 A2 B1 B2) ?_
                  intro ys W hR hd K hK
                  go_simp
                  have hK2 := hK (.slice (some ⟨ag, 0, none⟩) m ac) _ (Below.refl _ _) rfl
                  simp (config := { decide := true }) only [upd, if_true, if_false] at hK2
                  exact hK2
                refine ⟨?_, ?_⟩
                · refine SlotStep.below (DvR_up V (.slice (some ⟨lg, 0, none⟩) lc lc) lc X ag dg t lc A1 A2 B1 B2) (dvI1_up lg ag dg m lc ac dc t A1 A2 B1 B2) ?_
                  intro ys W hR hd K hK
                  go_simp
                  have hK2 := hK (.int .i64 (t : Int)) _ (Below.refl _ _) rfl
                  simp (config := { decide := true }) only [upd, if_true, if_false] at hK2
                  exact hK2
                refine ⟨?_, ?_⟩
                · refine SlotStep.below (DvR_up V (.slice (some ⟨lg, 0, none⟩) lc lc) lc X ag dg t lc A1 A2 B1 B2) (dvI1_up lg ag dg m lc ac dc t A1 A2 B1 B2) ?_
                  intro ys W hR hd K hK
                  have dd0 : ys 0 = (.slice (some ⟨ag, 0, none⟩) m ac) := hd 0 (by kernel_rfl) (by decide)
                  have dd1 : ys 1 = (.int .i64 (t : Int)) := hd 1 (by kernel_rfl) (by decide)
                  go_simp
                  have hK2 := hK (.pointer (some ⟨ag, t * 4, none⟩)) _ (Below.refl _ _) rfl
                  simp (config := { decide := true }) only [upd, if_true, if_false, dd0, dd1] at hK2
                  exact hK2
                refine ⟨?_, ?_⟩
                · refine SlotStep.below (DvR_up V (.slice (some ⟨lg, 0, none⟩) lc lc) lc X ag dg t lc A1 A2 B1 B2) (dvI1_up lg ag dg m lc ac dc t A1 A2 B1 B2) ?_
                  intro ys W hR hd K hK
                  have dd2 : ys 2 = (.pointer (some ⟨ag, t * 4, none⟩)) := hd 2 (by kernel_rfl) (by decide)
                  have c0 := hR.2.2.1.1
                  have c1 := hR.2.2.1.2.1
                  have c2 := hR.2.2.1.2.2.1
                  have c3 := hR.2.2.1.2.2.2
                  go_simp
                  have hK2 := hK (.agg #[.int .u64 A1, .int .u64 A2, .int .u64 B1, .int .u64 B2]) _ (Below.refl _ _) rfl
                  simp (config := { decide := true }) only [upd, if_true, if_false, dd2] at hK2
                  exact hK2
                refine ⟨?_, ?_⟩
                · refine SlotStep.below (DvR_up V (.slice (some ⟨lg, 0, none⟩) lc lc) lc X ag dg t lc A1 A2 B1 B2) (dvI1_up lg ag dg m lc ac dc t A1 A2 B1 B2) ?_
                  intro ys W hR hd K hK
                  go_simp
                  have hK2 := hK (.slice (some ⟨lg, 0, none⟩) lc lc) _ (Below.refl _ _) rfl
                  simp (config := { decide := true }) only [upd, if_true, if_false] at hK2
                  exact hK2
                refine ⟨?_, ?_⟩
                · refine SlotStep.below (DvR_up V (.slice (some ⟨lg, 0, none⟩) lc lc) lc X ag dg t lc A1 A2 B1 B2) (dvI1_up lg ag dg m lc ac dc t A1 A2 B1 B2) ?_
                  intro ys W hR hd K hK
                  go_simp
                  have hK2 := hK (.slice (some ⟨dg, 0, none⟩) m dc) _ (Below.refl _ _) rfl
                  simp (config := { decide := true }) only [upd, if_true, if_false] at hK2
                  exact hK2
                refine ⟨?_, ?_⟩
                · refine SlotStep.below (DvR_up V (.slice (some ⟨lg, 0, none⟩) lc lc) lc X ag dg t lc A1 A2 B1 B2) (dvI1_up lg ag dg m lc ac dc t A1 A2 B1 B2) ?_
                  intro ys W hR hd K hK
                  go_simp
                  have hK2 := hK (.int .i64 (t : Int)) _ (Below.refl _ _) rfl
                  simp (config := { decide := true }) only [upd, if_true, if_false] at hK2
                  exact hK2
                refine ⟨?_, ?_⟩
                · refine SlotStep.below (DvR_up V (.slice (some ⟨lg, 0, none⟩) lc lc) lc X ag dg t lc A1 A2 B1 B2) (dvI1_up lg ag dg m lc ac dc t A1 A2 B1 B2) ?_
                  intro ys W hR hd K hK
                  have dd5 : ys 5 = (.slice (some ⟨dg, 0, none⟩) m dc) := hd 5 (by kernel_rfl) (by decide)
                  have dd6 : ys 6 = (.int .i64 (t : Int)) := hd 6 (by kernel_rfl) (by decide)
                  go_simp
                  have hK2 := hK (.pointer (some ⟨dg, t, none⟩)) _ (Below.refl _ _) rfl
                  simp (config := { decide := true }) only [upd, if_true, if_false, dd5, dd6] at hK2
                  exact hK2
                refine ⟨?_, ?_⟩
                · refine SlotStep.below (DvR_up V (.slice (some ⟨lg, 0, none⟩) lc lc) lc X ag dg t lc A1 A2 B1 B2) (dvI1_up lg ag dg m lc ac dc t A1 A2 B1 B2) ?_
                  intro ys W hR hd K hK
                  have dd7 : ys 7 = (.pointer (some ⟨dg, t, none⟩)) := hd 7 (by kernel_rfl) (by decide)
                  have c4 : W.cell? ⟨dg, t, none⟩ = some (.int .i64 (lc : Int)) := hR.2.2.2
                  go_simp
                  have hK2 := hK (.int .i64 (lc : Int)) _ (Below.refl _ _) rfl
                  simp (config := { decide := true }) only [upd, if_true, if_false, dd7] at hK2
                  exact hK2
                refine ⟨?_, ?_⟩
                · refine SlotStep.below (DvR_up V (.slice (some ⟨lg, 0, none⟩) lc lc) lc X ag dg t lc A1 A2 B1 B2) (dvI1_up lg ag dg m lc ac dc t A1 A2 B1 B2) ?_
                  intro ys W hR hd K hK
                  have dd4 : ys 4 = (.slice (some ⟨lg, 0, none⟩) lc lc) := hd 4 (by kernel_rfl) (by decide)
                  have dd8 : ys 8 = (.int .i64 (lc : Int)) := hd 8 (by kernel_rfl) (by decide)
                  go_simp
                  have hK2 := hK (.slice (some ⟨lg, 0, none⟩) lc lc) _ (Below.refl _ _) rfl
                  simp (config := { decide := true }) only [upd, if_true, if_false, dd4, dd8] at hK2
                  exact hK2
                refine ⟨?_, ?_⟩
                · refine SlotStep.below (DvR_up V (.slice (some ⟨lg, 0, none⟩) lc lc) lc X ag dg t lc A1 A2 B1 B2) (dvI1_up lg ag dg m lc ac dc t A1 A2 B1 B2) ?_
                  intro ys W hR hd K hK
                  have dd9 : ys 9 = (.slice (some ⟨lg, 0, none⟩) lc lc) := hd 9 (by kernel_rfl) (by decide)
                  go_simp
                  refine (OF1.out W hR.2.1).mono ?_
                  rintro e w5 ⟨rfl, hb5⟩
                  have hK2 := hK (.agg #[.int .u64 A1, .int .u64 A2]) _ hb5 rfl
                  simp (config := { decide := true }) only [upd, if_true, if_false, dd9] at hK2
                  exact hK2
                refine ⟨?_, ?_⟩
                · refine SlotStep.below (DvR_up V (.slice (some ⟨lg, 0, none⟩) lc lc) lc X ag dg t lc A1 A2 B1 B2) (dvI1_up lg ag dg m lc ac dc t A1 A2 B1 B2) ?_
                  intro ys W hR hd K hK
                  go_simp
                  have hK2 := hK (.slice (some ⟨lg, 0, none⟩) lc lc) _ (Below.refl _ _) rfl
                  simp (config := { decide := true }) only [upd, if_true, if_false] at hK2
                  exact hK2
                refine ⟨?_, ?_⟩
                · refine SlotStep.below (DvR_up V (.slice (some ⟨lg, 0, none⟩) lc lc) lc X ag dg t lc A1 A2 B1 B2) (dvI1_up lg ag dg m lc ac dc t A1 A2 B1 B2) ?_
                  intro ys W hR hd K hK
                  go_simp
                  have hK2 := hK (.slice (some ⟨dg, 0, none⟩) m dc) _ (Below.refl _ _) rfl
                  simp (config := { decide := true }) only [upd, if_true, if_false] at hK2
                  exact hK2
                refine ⟨?_, ?_⟩
                · refine SlotStep.below (DvR_up V (.slice (some ⟨lg, 0, none⟩) lc lc) lc X ag dg t lc A1 A2 B1 B2) (dvI1_up lg ag dg m lc ac dc t A1 A2 B1 B2) ?_
                  intro ys W hR hd K hK
                  go_simp
                  have hK2 := hK (.int .i64 (t : Int)) _ (Below.refl _ _) rfl
                  simp (config := { decide := true }) only [upd, if_true, if_false] at hK2
                  exact hK2
                refine ⟨?_, ?_⟩
                · refine SlotStep.below (DvR_up V (.slice (some ⟨lg, 0, none⟩) lc lc) lc X ag dg t lc A1 A2 B1 B2) (dvI1_up lg ag dg m lc ac dc t A1 A2 B1 B2) ?_
                  intro ys W hR hd K hK
                  have dd12 : ys 12 = (.slice (some ⟨dg, 0, none⟩) m dc) := hd 12 (by kernel_rfl) (by decide)
                  have dd13 : ys 13 = (.int .i64 (t : Int)) := hd 13 (by kernel_rfl) (by decide)
                  go_simp
                  have hK2 := hK (.pointer (some ⟨dg, t, none⟩)) _ (Below.refl _ _) rfl
                  simp (config := { decide := true }) only [upd, if_true, if_false, dd12, dd13] at hK2
                  exact hK2
                refine ⟨?_, ?_⟩
                · refine SlotStep.below (DvR_up V (.slice (some ⟨lg, 0, none⟩) lc lc) lc X ag dg t lc A1 A2 B1 B2) (dvI1_up lg ag dg m lc ac dc t A1 A2 B1 B2) ?_
                  intro ys W hR hd K hK
                  have dd14 : ys 14 = (.pointer (some ⟨dg, t, none⟩)) := hd 14 (by kernel_rfl) (by decide)
                  have c4 : W.cell? ⟨dg, t, none⟩ = some (.int .i64 (lc : Int)) := hR.2.2.2
                  go_simp
                  have hK2 := hK (.int .i64 (lc : Int)) _ (Below.refl _ _) rfl
                  simp (config := { decide := true }) only [upd, if_true, if_false, dd14] at hK2
                  exact hK2
                refine ⟨?_, ?_⟩
                · refine SlotStep.below (DvR_up V (.slice (some ⟨lg, 0, none⟩) lc lc) lc X ag dg t lc A1 A2 B1 B2) (dvI1_up lg ag dg m lc ac dc t A1 A2 B1 B2) ?_
                  intro ys W hR hd K hK
                  have dd11 : ys 11 = (.slice (some ⟨lg, 0, none⟩) lc lc) := hd 11 (by kernel_rfl) (by decide)
                  have dd15 : ys 15 = (.int .i64 (lc : Int)) := hd 15 (by kernel_rfl) (by decide)
                  go_simp
                  have hK2 := hK (.slice (some ⟨lg, 0, none⟩) 0 0) _ (Below.refl _ _) rfl
                  simp (config := { decide := true }) only [upd, if_true, if_false, dd11, dd15] at hK2
                  exact hK2
                refine ⟨?_, ?_⟩
                · refine SlotStep.below (DvR_up V (.slice (some ⟨lg, 0, none⟩) lc lc) lc X ag dg t lc A1 A2 B1 B2) (dvI1_up lg ag dg m lc ac dc t A1 A2 B1 B2) ?_
                  intro ys W hR hd K hK
                  have dd16 : ys 16 = (.slice (some ⟨lg, 0, none⟩) 0 0) := hd 16 (by kernel_rfl) (by decide)
                  go_simp
                  refine (OF2.out W).mono ?_
                  rintro e w5 ⟨rfl, hb5⟩
                  have hK2 := hK (.agg #[.int .u64 B1, .int .u64 B2]) _ hb5 rfl
                  simp (config := { decide := true }) only [upd, if_true, if_false, dd16] at hK2
                  exact hK2
                refine ⟨?_, ?_⟩
                · refine SlotStep.below (DvR_up V (.slice (some ⟨lg, 0, none⟩) lc lc) lc X ag dg t lc A1 A2 B1 B2) (dvI1_up lg ag dg m lc ac dc t A1 A2 B1 B2) ?_
                  intro ys W hR hd K hK
                  have dd10 : ys 10 = (.agg #[.int .u64 A1, .int .u64 A2]) := hd 10 (by kernel_rfl) (by decide)
                  have dd17 : ys 17 = (.agg #[.int .u64 B1, .int .u64 B2]) := hd 17 (by kernel_rfl) (by decide)
                  go_simp
                  have hK2 := hK (.agg #[.int .u64 A1, .int .u64 A2, .int .u64 B1, .int .u64 B2]) _ (Below.refl _ _) rfl
                  simp (config := { decide := true }) only [upd, if_true, if_false, dd10, dd17] at hK2
                  exact hK2
                refine ⟨?_, ?_⟩
                · refine SlotStep.below (DvR_up V (.slice (some ⟨lg, 0, none⟩) lc lc) lc X ag dg t lc A1 A2 B1 B2) (dvI1_up lg ag dg m lc ac dc t A1 A2 B1 B2) ?_
                  intro ys W hR hd K hK
                  have dd3 : ys 3 = (.agg #[.int .u64 A1, .int .u64 A2, .int .u64 B1, .int .u64 B2]) := hd 3 (by kernel_rfl) (by decide)
                  have dd18 : ys 18 = (.agg #[.int .u64 A1, .int .u64 A2, .int .u64 B1, .int .u64 B2]) := hd 18 (by kernel_rfl) (by decide)
                  have heq := HEQ.out
                  have heq2 := HEQ2.out
                  go_simp
                  have hK2 := hK (.bool false) _ (Below.refl _ _) rfl
                  simp (config := { decide := true }) only [upd, if_true, if_false, dd3, dd18] at hK2
                  exact hK2
                trivial
                · intro L5 ys5 W5 hL5 hI5
                  obtain ⟨hR5, hj5⟩ := hI5
                  have y := hj5 19 (by decide) (hL5 19 (by decide))
                  have y : ys5 19 = .bool false := y
                  have HW := Lib.hid hR5.1
                  clear hR5 hj5 hL5 HR OF1 OF2
                  simp only [y]
                  go_wp2
                  go_roundw
                  case rel => exact ⟨t + 1, by omega, by go_num, HW.out⟩
                  case measure => simp [intOf]; omega
            · have OF1 := Lib.hid (fun W (h : Lst W (.slice (some ⟨lg, 0, none⟩) n lc) n X) => of_pre lg n lc tt X W h hn1 hTt hnX)
              have OF2 := Lib.hid (fun W (h : Lst W (.slice (some ⟨lg, 0, none⟩) n lc) n X) => of_suf lg n lc tt X W h hn1 hTt hnX)
              rw [hA1, hA2] at OF1
              rw [hB1, hB2] at OF2
              have l1 : tt ≤ lc := by omega
              have l2 : (tt : Int) ≤ lc := by omega
              have l3 : (tt : Int) ≤ n := by omega
              have l4 : t < m := h1
              go_wp2_with fail
              refine wp_region_slots_at rfl rfl (fun base ys => (((((((((((((((((((base.set 67 (ys 0)).set 68 (ys 1)).set 69 (ys 2)).set 70 (ys 3)).set 71 (ys 4)).set 72 (ys 5)).set 73 (ys 6)).set 74 (ys 7)).set 75 (ys 8)).set 76 (ys 9)).set 77 (ys 10)).set 78 (ys 11)).set 79 (ys 12)).set 80 (ys 13)).set 81 (ys 14)).set 82 (ys 15)).set 83 (ys 16)).set 84 (ys 17)).set 85 (ys 18)).set 86 (ys 19)) (BelowI _ (DvR V (.slice (some ⟨lg, 0, none⟩) n lc) n X ag dg t tt A1 A2 B1 B2) (dvI2 lg ag dg n m lc ac dc t tt A1 A2 B1 B2)) (fun | 0 => u67 | 1 => u68 | 2 => u69 | 3 => u70 | 4 => u71 | 5 => u72 | 6 => u73 | 7 => u74 | 8 => u75 | 9 => u76 | 10 => u77 | 11 => u78 | 12 => u79 | 13 => u80 | 14 => u81 | 15 => u82 | 16 => u83 | 17 => u84 | 18 => u85 | 19 => u86 | _ => undef) (by kernel_rfl) (below_start (DvR_up V (.slice (some ⟨lg, 0, none⟩) n lc) n X ag dg t tt A1 A2 B1 B2 wr wr.drew ⟨rfl, rfl, rfl, Nat.le_refl _, fun _ _ => rfl⟩ HR.out)) ?h
              case h =>
                intro FF hFF
                simp only [List.set_cons_succ, List.set_cons_zero] at hFF
                subst hFF
                refine ⟨rfl, ?_, ?_⟩
                refine ⟨?_, ?_⟩
                · refine SlotStep.below (DvR_up V (.slice (some ⟨lg, 0, none⟩) n lc) n X ag dg t tt A1 A2 B1 B2) (dvI2_up lg ag dg n m lc ac dc t tt A1 A2 B1 B2) ?_
                  intro ys W hR hd K hK
                  go_simp
                  have hK2 := hK (.slice (some ⟨ag, 0, none⟩) m ac) _ (Below.refl _ _) rfl
                  simp (config := { decide := true }) only [upd, if_true, if_false] at hK2
                  exact hK2
                refine ⟨?_, ?_⟩
                · refine SlotStep.below (DvR_up V (.slice (some ⟨lg, 0, none⟩) n lc) n X ag dg t tt A1 A2 B1 B2) (dvI2_up lg ag dg n m lc ac dc t tt A1 A2 B1 B2) ?_
                  intro ys W hR hd K hK
                  go_simp
                  have hK2 := hK (.int .i64 (t : Int)) _ (Below.refl _ _) rfl
                  simp (config := { decide := true }) only [upd, if_true, if_false] at hK2
                  exact hK2
                refine ⟨?_, ?_⟩
                · refine SlotStep.below (DvR_up V (.slice (some ⟨lg, 0, none⟩) n lc) n X ag dg t tt A1 A2 B1 B2) (dvI2_up lg ag dg n m lc ac dc t tt A1 A2 B1 B2) ?_
                  intro ys W hR hd K hK
                  have dd0 : ys 0 = (.slice (some ⟨ag, 0, none⟩) m ac) := hd 0 (by kernel_rfl) (by decide)
                  have dd1 : ys 1 = (.int .i64 (t : Int)) := hd 1 (by kernel_rfl) (by decide)
                  go_simp
                  have hK2 := hK (.pointer (some ⟨ag, t * 4, none⟩)) _ (Below.refl _ _) rfl
                  simp (config := { decide := true }) only [upd, if_true, if_false, dd0, dd1] at hK2
                  exact hK2
                refine ⟨?_, ?_⟩
                · refine SlotStep.below (DvR_up V (.slice (some ⟨lg, 0, none⟩) n lc) n X ag dg t tt A1 A2 B1 B2) (dvI2_up lg ag dg n m lc ac dc t tt A1 A2 B1 B2) ?_
                  intro ys W hR hd K hK
                  have dd2 : ys 2 = (.pointer (some ⟨ag, t * 4, none⟩)) := hd 2 (by kernel_rfl) (by decide)
                  have c0 := hR.2.2.1.1
                  have c1 := hR.2.2.1.2.1
                  have c2 := hR.2.2.1.2.2.1
                  have c3 := hR.2.2.1.2.2.2
                  go_simp
                  have hK2 := hK (.agg #[.int .u64 A1, .int .u64 A2, .int .u64 B1, .int .u64 B2]) _ (Below.refl _ _) rfl
                  simp (config := { decide := true }) only [upd, if_true, if_false, dd2] at hK2
                  exact hK2
                refine ⟨?_, ?_⟩
                · refine SlotStep.below (DvR_up V (.slice (some ⟨lg, 0, none⟩) n lc) n X ag dg t tt A1 A2 B1 B2) (dvI2_up lg ag dg n m lc ac dc t tt A1 A2 B1 B2) ?_
                  intro ys W hR hd K hK
                  go_simp
                  have hK2 := hK (.slice (some ⟨lg, 0, none⟩) n lc) _ (Below.refl _ _) rfl
                  simp (config := { decide := true }) only [upd, if_true, if_false] at hK2
                  exact hK2
                refine ⟨?_, ?_⟩
                · refine SlotStep.below (DvR_up V (.slice (some ⟨lg, 0, none⟩) n lc) n X ag dg t tt A1 A2 B1 B2) (dvI2_up lg ag dg n m lc ac dc t tt A1 A2 B1 B2) ?_
                  intro ys W hR hd K hK
                  go_simp
                  have hK2 := hK (.slice (some ⟨dg, 0, none⟩) m dc) _ (Below.refl _ _) rfl
                  simp (config := { decide := true }) only [upd, if_true, if_false] at hK2
                  exact hK2
                refine ⟨?_, ?_⟩
                · refine SlotStep.below (DvR_up V (.slice (some ⟨lg, 0, none⟩) n lc) n X ag dg t tt A1 A2 B1 B2) (dvI2_up lg ag dg n m lc ac dc t tt A1 A2 B1 B2) ?_
                  intro ys W hR hd K hK
                  go_simp
                  have hK2 := hK (.int .i64 (t : Int)) _ (Below.refl _ _) rfl
                  simp (config := { decide := true }) only [upd, if_true, if_false] at hK2
                  exact hK2
                refine ⟨?_, ?_⟩
                · refine SlotStep.below (DvR_up V (.slice (some ⟨lg, 0, none⟩) n lc) n X ag dg t tt A1 A2 B1 B2) (dvI2_up lg ag dg n m lc ac dc t tt A1 A2 B1 B2) ?_
                  intro ys W hR hd K hK
                  have dd5 : ys 5 = (.slice (some ⟨dg, 0, none⟩) m dc) := hd 5 (by kernel_rfl) (by decide)
                  have dd6 : ys 6 = (.int .i64 (t : Int)) := hd 6 (by kernel_rfl) (by decide)
                  go_simp
                  have hK2 := hK (.pointer (some ⟨dg, t, none⟩)) _ (Below.refl _ _) rfl
                  simp (config := { decide := true }) only [upd, if_true, if_false, dd5, dd6] at hK2
                  exact hK2
                refine ⟨?_, ?_⟩
                · refine SlotStep.below (DvR_up V (.slice (some ⟨lg, 0, none⟩) n lc) n X ag dg t tt A1 A2 B1 B2) (dvI2_up lg ag dg n m lc ac dc t tt A1 A2 B1 B2) ?_
                  intro ys W hR hd K hK
                  have dd7 : ys 7 = (.pointer (some ⟨dg, t, none⟩)) := hd 7 (by kernel_rfl) (by decide)
                  have c4 : W.cell? ⟨dg, t, none⟩ = some (.int .i64 (tt : Int)) := hR.2.2.2
                  go_simp
                  have hK2 := hK (.int .i64 (tt : Int)) _ (Below.refl _ _) rfl
                  simp (config := { decide := true }) only [upd, if_true, if_false, dd7] at hK2
                  exact hK2
                refine ⟨?_, ?_⟩
                · refine SlotStep.below (DvR_up V (.slice (some ⟨lg, 0, none⟩) n lc) n X ag dg t tt A1 A2 B1 B2) (dvI2_up lg ag dg n m lc ac dc t tt A1 A2 B1 B2) ?_
                  intro ys W hR hd K hK
                  have dd4 : ys 4 = (.slice (some ⟨lg, 0, none⟩) n lc) := hd 4 (by kernel_rfl) (by decide)
                  have dd8 : ys 8 = (.int .i64 (tt : Int)) := hd 8 (by kernel_rfl) (by decide)
                  go_simp
                  have hK2 := hK (.slice (some ⟨lg, 0, none⟩) tt lc) _ (Below.refl _ _) rfl
                  simp (config := { decide := true }) only [upd, if_true, if_false, dd4, dd8] at hK2
                  exact hK2
                refine ⟨?_, ?_⟩
                · refine SlotStep.below (DvR_up V (.slice (some ⟨lg, 0, none⟩) n lc) n X ag dg t tt A1 A2 B1 B2) (dvI2_up lg ag dg n m lc ac dc t tt A1 A2 B1 B2) ?_
                  intro ys W hR hd K hK
                  have dd9 : ys 9 = (.slice (some ⟨lg, 0, none⟩) tt lc) := hd 9 (by kernel_rfl) (by decide)
                  go_simp
                  refine (OF1.out W hR.2.1).mono ?_
                  rintro e w5 ⟨rfl, hb5⟩
                  have hK2 := hK (.agg #[.int .u64 A1, .int .u64 A2]) _ hb5 rfl
                  simp (config := { decide := true }) only [upd, if_true, if_false, dd9] at hK2
                  exact hK2
                refine ⟨?_, ?_⟩
                · refine SlotStep.below (DvR_up V (.slice (some ⟨lg, 0, none⟩) n lc) n X ag dg t tt A1 A2 B1 B2) (dvI2_up lg ag dg n m lc ac dc t tt A1 A2 B1 B2) ?_
                  intro ys W hR hd K hK
                  go_simp
                  have hK2 := hK (.slice (some ⟨lg, 0, none⟩) n lc) _ (Below.refl _ _) rfl
                  simp (config := { decide := true }) only [upd, if_true, if_false] at hK2
                  exact hK2
                refine ⟨?_, ?_⟩
                · refine SlotStep.below (DvR_up V (.slice (some ⟨lg, 0, none⟩) n lc) n X ag dg t tt A1 A2 B1 B2) (dvI2_up lg ag dg n m lc ac dc t tt A1 A2 B1 B2) ?_
                  intro ys W hR hd K hK
                  go_simp
                  have hK2 := hK (.slice (some ⟨dg, 0, none⟩) m dc) _ (Below.refl _ _) rfl
                  simp (config := { decide := true }) only [upd, if_true, if_false] at hK2
                  exact hK2
                refine ⟨?_, ?_⟩
                · refine SlotStep.below (DvR_up V (.slice (some ⟨lg, 0, none⟩) n lc) n X ag dg t tt A1 A2 B1 B2) (dvI2_up lg ag dg n m lc ac dc t tt A1 A2 B1 B2) ?_
                  intro ys W hR hd K hK
                  go_simp
                  have hK2 := hK (.int .i64 (t : Int)) _ (Below.refl _ _) rfl
                  simp (config := { decide := true }) only [upd, if_true, if_false] at hK2
                  exact hK2
                refine ⟨?_, ?_⟩
                · refine SlotStep.below (DvR_up V (.slice (some ⟨lg, 0, none⟩) n lc) n X ag dg t tt A1 A2 B1 B2) (dvI2_up lg ag dg n m lc ac dc t tt A1 A2 B1 B2) ?_
                  intro ys W hR hd K hK
                  have dd12 : ys 12 = (.slice (some ⟨dg, 0, none⟩) m dc) := hd 12 (by kernel_rfl) (by decide)
                  have dd13 : ys 13 = (.int .i64 (t : Int)) := hd 13 (by kernel_rfl) (by decide)
                  go_simp
                  have hK2 := hK (.pointer (some ⟨dg, t, none⟩)) _ (Below.refl _ _) rfl
                  simp (config := { decide := true }) only [upd, if_true, if_false, dd12, dd13] at hK2
                  exact hK2
                refine ⟨?_, ?_⟩
                · refine SlotStep.below (DvR_up V (.slice (some ⟨lg, 0, none⟩) n lc) n X ag dg t tt A1 A2 B1 B2) (dvI2_up lg ag dg n m lc ac dc t tt A1 A2 B1 B2) ?_
                  intro ys W hR hd K hK
                  have dd14 : ys 14 = (.pointer (some ⟨dg, t, none⟩)) := hd 14 (by kernel_rfl) (by decide)
                  have c4 : W.cell? ⟨dg, t, none⟩ = some (.int .i64 (tt : Int)) := hR.2.2.2
                  go_simp
                  have hK2 := hK (.int .i64 (tt : Int)) _ (Below.refl _ _) rfl
                  simp (config := { decide := true }) only [upd, if_true, if_false, dd14] at hK2
                  exact hK2
                refine ⟨?_, ?_⟩
                · refine SlotStep.below (DvR_up V (.slice (some ⟨lg, 0, none⟩) n lc) n X ag dg t tt A1 A2 B1 B2) (dvI2_up lg ag dg n m lc ac dc t tt A1 A2 B1 B2) ?_
                  intro ys W hR hd K hK
                  have dd11 : ys 11 = (.slice (some ⟨lg, 0, none⟩) n lc) := hd 11 (by kernel_rfl) (by decide)
                  have dd15 : ys 15 = (.int .i64 (tt : Int)) := hd 15 (by kernel_rfl) (by decide)
                  go_simp
                  have hK2 := hK (.slice (some ⟨lg, tt, none⟩) (n - tt) (lc - tt)) _ (Below.refl _ _) rfl
                  simp (config := { decide := true }) only [upd, if_true, if_false, dd11, dd15] at hK2
                  exact hK2
                refine ⟨?_, ?_⟩
                · refine SlotStep.below (DvR_up V (.slice (some ⟨lg, 0, none⟩) n lc) n X ag dg t tt A1 A2 B1 B2) (dvI2_up lg ag dg n m lc ac dc t tt A1 A2 B1 B2) ?_
                  intro ys W hR hd K hK
                  have dd16 : ys 16 = (.slice (some ⟨lg, tt, none⟩) (n - tt) (lc - tt)) := hd 16 (by kernel_rfl) (by decide)
                  go_simp
                  refine (OF2.out W hR.2.1).mono ?_
                  rintro e w5 ⟨rfl, hb5⟩
                  have hK2 := hK (.agg #[.int .u64 B1, .int .u64 B2]) _ hb5 rfl
                  simp (config := { decide := true }) only [upd, if_true, if_false, dd16] at hK2
                  exact hK2
                refine ⟨?_, ?_⟩
                · refine SlotStep.below (DvR_up V (.slice (some ⟨lg, 0, none⟩) n lc) n X ag dg t tt A1 A2 B1 B2) (dvI2_up lg ag dg n m lc ac dc t tt A1 A2 B1 B2) ?_
                  intro ys W hR hd K hK
                  have dd10 : ys 10 = (.agg #[.int .u64 A1, .int .u64 A2]) := hd 10 (by kernel_rfl) (by decide)
                  have dd17 : ys 17 = (.agg #[.int .u64 B1, .int .u64 B2]) := hd 17 (by kernel_rfl) (by decide)
                  go_simp
                  have hK2 := hK (.agg #[.int .u64 A1, .int .u64 A2, .int .u64 B1, .int .u64 B2]) _ (Below.refl _ _) rfl
                  simp (config := { decide := true }) only [upd, if_true, if_false, dd10, dd17] at hK2
                  exact hK2
                refine ⟨?_, ?_⟩
                · refine SlotStep.below (DvR_up V (.slice (some ⟨lg, 0, none⟩) n lc) n X ag dg t tt A1 A2 B1 B2) (dvI2_up lg ag dg n m lc ac dc t tt A1 A2 B1 B2) ?_
                  intro ys W hR hd K hK
                  have dd3 : ys 3 = (.agg #[.int .u64 A1, .int .u64 A2, .int .u64 B1, .int .u64 B2]) := hd 3 (by kernel_rfl) (by decide)
                  have dd18 : ys 18 = (.agg #[.int .u64 A1, .int .u64 A2, .int .u64 B1, .int .u64 B2]) := hd 18 (by kernel_rfl) (by decide)
                  have heq := HEQ.out
                  have heq2 := HEQ2.out
                  go_simp
                  have hK2 := hK (.bool false) _ (Below.refl _ _) rfl
                  simp (config := { decide := true }) only [upd, if_true, if_false, dd3, dd18] at hK2
                  exact hK2
                trivial
                · intro L5 ys5 W5 hL5 hI5
                  obtain ⟨hR5, hj5⟩ := hI5
                  have y := hj5 19 (by decide) (hL5 19 (by decide))
                  have y : ys5 19 = .bool false := y
                  have HW := Lib.hid hR5.1
                  clear hR5 hj5 hL5 HR OF1 OF2
                  simp only [y]
                  go_wp2
                  go_roundw
                  case rel => exact ⟨t + 1, by omega, by go_num, HW.out⟩
                  case measure => simp [intOf]; omega
        · obtain rfl : t = m := by omega
          have g0 := haxV 0 hm3
          rw [Nat.zero_mul, hL1, hL2, hR1, hR2] at g0
          simp only [Nat.zero_add] at g0
          have HR := Lib.hid (show DvE V ELz ag L1 L2 R1 R2 wr from ⟨hw, (hw.block _ (Array.getElem?_eq_some_iff.1 hlzV).1).trans hlzV, (hw.block _ (Array.getElem?_eq_some_iff.1 hrzV).1).trans hrzV, cell_up hw g0.1, cell_up hw g0.2.1, cell_up hw g0.2.2.1, cell_up hw g0.2.2.2⟩)
          have HE1 := Lib.hid (fun W => (show (binOp .eql 26 (.agg #[.int .u64 L1, .int .u64 L2]) (.agg #[.int .u64 L1, .int .u64 L2])).run Tryd.prog W = .ok (.bool true) W from by simp [go_sem]))
          have HE2 := Lib.hid (fun W => (show (binOp .eql 26 (.agg #[.int .u64 R1, .int .u64 R2]) (.agg #[.int .u64 R1, .int .u64 R2])).run Tryd.prog W = .ok (.bool true) W from by simp [go_sem]))
          clear g0 hw haxV hdxV hlzV hrzV hlvV hnX hTn KN CH LI DV AL TW2
          go_wp2_with fail
          refine wp_region_slots_at rfl rfl (fun base ys => ((((((((((((((base.set 97 (ys 0)).set 98 (ys 1)).set 99 (ys 2)).set 100 (ys 3)).set 101 (ys 4)).set 102 (ys 5)).set 103 (ys 6)).set 104 (ys 7)).set 105 (ys 8)).set 106 (ys 9)).set 107 (ys 10)).set 108 (ys 11)).set 109 (ys 12)).set 110 (ys 13)).set 4 (ys 14)) (BelowI _ (DvE V ELz ag L1 L2 R1 R2) (dvE u4 ELz ag t ac L1 L2 R1 R2)) (fun | 14 => u4 | _ => undef) (by kernel_rfl) (below_start (DvE_up V ELz ag L1 L2 R1 R2 wr wr.drew ⟨rfl, rfl, rfl, Nat.le_refl _, fun _ _ => rfl⟩ HR.out)) ?h
          case h =>
            intro FF hFF
            simp only [List.set_cons_succ, List.set_cons_zero] at hFF
            subst hFF
            refine ⟨rfl, ?_, ?_⟩
            refine ⟨?_, ?_⟩
            · refine SlotStep.below (DvE_up V ELz ag L1 L2 R1 R2) (dvE_up u4 ELz ag t ac L1 L2 R1 R2) ?_
              intro ys W hR hd K hK
              have c0 := cell2_0 hR.2.1
              have c1 := cell2_1 hR.2.1
              go_simp
              have hK2 := hK (.agg #[.int .u64 L1, .int .u64 L2]) _ (Below.refl _ _) rfl
              simp (config := { decide := true }) only [upd, if_true, if_false] at hK2
              exact hK2
            refine ⟨?_, ?_⟩
            · refine SlotStep.below (DvE_up V ELz ag L1 L2 R1 R2) (dvE_up u4 ELz ag t ac L1 L2 R1 R2) ?_
              intro ys W hR hd K hK
              go_simp
              have hK2 := hK (.slice (some ⟨ag, 0, none⟩) t ac) _ (Below.refl _ _) rfl
              simp (config := { decide := true }) only [upd, if_true, if_false] at hK2
              exact hK2
            refine ⟨?_, ?_⟩
            · refine SlotStep.below (DvE_up V ELz ag L1 L2 R1 R2) (dvE_up u4 ELz ag t ac L1 L2 R1 R2) ?_
              intro ys W hR hd K hK
              have dd1 : ys 1 = (.slice (some ⟨ag, 0, none⟩) t ac) := hd 1 (by kernel_rfl) (by decide)
              go_simp
              have hK2 := hK (.pointer (some ⟨ag, 0, none⟩)) _ (Below.refl _ _) rfl
              simp (config := { decide := true }) only [upd, if_true, if_false, dd1] at hK2
              exact hK2
            refine ⟨?_, ?_⟩
            · refine SlotStep.below (DvE_up V ELz ag L1 L2 R1 R2) (dvE_up u4 ELz ag t ac L1 L2 R1 R2) ?_
              intro ys W hR hd K hK
              have dd2 : ys 2 = (.pointer (some ⟨ag, 0, none⟩)) := hd 2 (by kernel_rfl) (by decide)
              go_simp
              have hK2 := hK (.pointer (some ⟨ag, 0, none⟩)) _ (Below.refl _ _) rfl
              simp (config := { decide := true }) only [upd, if_true, if_false, dd2] at hK2
              exact hK2
            refine ⟨?_, ?_⟩
            · refine SlotStep.below (DvE_up V ELz ag L1 L2 R1 R2) (dvE_up u4 ELz ag t ac L1 L2 R1 R2) ?_
              intro ys W hR hd K hK
              have dd3 : ys 3 = (.pointer (some ⟨ag, 0, none⟩)) := hd 3 (by kernel_rfl) (by decide)
              have c0 := hR.2.2.2.1
              have c1 := hR.2.2.2.2.1
              go_simp
              have hK2 := hK (.agg #[.int .u64 L1, .int .u64 L2]) _ (Below.refl _ _) rfl
              simp (config := { decide := true }) only [upd, if_true, if_false, dd3] at hK2
              exact hK2
            refine ⟨?_, ?_⟩
            · refine SlotStep.below (DvE_up V ELz ag L1 L2 R1 R2) (dvE_up u4 ELz ag t ac L1 L2 R1 R2) ?_
              intro ys W hR hd K hK
              have dd0 : ys 0 = (.agg #[.int .u64 L1, .int .u64 L2]) := hd 0 (by kernel_rfl) (by decide)
              have dd4 : ys 4 = (.agg #[.int .u64 L1, .int .u64 L2]) := hd 4 (by kernel_rfl) (by decide)
              have heq := HE1.out
              go_simp
              have hK2 := hK (.bool true) _ (Below.refl _ _) rfl
              simp (config := { decide := true }) only [upd, if_true, if_false, dd0, dd4] at hK2
              exact hK2
            refine ⟨?_, ?_⟩
            · refine SlotStep.below (DvE_up V ELz ag L1 L2 R1 R2) (dvE_up u4 ELz ag t ac L1 L2 R1 R2) ?_
              intro ys W hR hd K hK
              have dd5 : ys 5 = (.bool true) := hd 5 (by kernel_rfl) (by decide)
              go_simp
              have hK2 := hK (.bool true) _ (Below.refl _ _) rfl
              simp (config := { decide := true }) only [upd, if_true, if_false, dd5] at hK2
              exact hK2
            refine ⟨?_, ?_⟩
            · refine SlotStep.below (DvE_up V ELz ag L1 L2 R1 R2) (dvE_up u4 ELz ag t ac L1 L2 R1 R2) ?_
              intro ys W hR hd K hK
              have dd6 : ys 6 = (.bool true) := hd 6 (by kernel_rfl) (by decide)
              have c0 := cell2_0 hR.2.2.1
              have c1 := cell2_1 hR.2.2.1
              go_simp
              have hK2 := hK (.agg #[.int .u64 R1, .int .u64 R2]) _ (Below.refl _ _) rfl
              simp (config := { decide := true }) only [upd, if_true, if_false, dd6] at hK2
              exact hK2
            refine ⟨?_, ?_⟩
            · refine SlotStep.below (DvE_up V ELz ag L1 L2 R1 R2) (dvE_up u4 ELz ag t ac L1 L2 R1 R2) ?_
              intro ys W hR hd K hK
              have dd6 : ys 6 = (.bool true) := hd 6 (by kernel_rfl) (by decide)
              go_simp
              have hK2 := hK (.slice (some ⟨ag, 0, none⟩) t ac) _ (Below.refl _ _) rfl
              simp (config := { decide := true }) only [upd, if_true, if_false, dd6] at hK2
              exact hK2
            refine ⟨?_, ?_⟩
            · refine SlotStep.below (DvE_up V ELz ag L1 L2 R1 R2) (dvE_up u4 ELz ag t ac L1 L2 R1 R2) ?_
              intro ys W hR hd K hK
              have dd6 : ys 6 = (.bool true) := hd 6 (by kernel_rfl) (by decide)
              have dd8 : ys 8 = (.slice (some ⟨ag, 0, none⟩) t ac) := hd 8 (by kernel_rfl) (by decide)
              go_simp
              have hK2 := hK (.pointer (some ⟨ag, 0, none⟩)) _ (Below.refl _ _) rfl
              simp (config := { decide := true }) only [upd, if_true, if_false, dd6, dd8] at hK2
              exact hK2
            refine ⟨?_, ?_⟩
            · refine SlotStep.below (DvE_up V ELz ag L1 L2 R1 R2) (dvE_up u4 ELz ag t ac L1 L2 R1 R2) ?_
              intro ys W hR hd K hK
              have dd6 : ys 6 = (.bool true) := hd 6 (by kernel_rfl) (by decide)
              have dd9 : ys 9 = (.pointer (some ⟨ag, 0, none⟩)) := hd 9 (by kernel_rfl) (by decide)
              go_simp
              have hK2 := hK (.pointer (some ⟨ag, 2, none⟩)) _ (Below.refl _ _) rfl
              simp (config := { decide := true }) only [upd, if_true, if_false, dd6, dd9] at hK2
              exact hK2
            refine ⟨?_, ?_⟩
            · refine SlotStep.below (DvE_up V ELz ag L1 L2 R1 R2) (dvE_up u4 ELz ag t ac L1 L2 R1 R2) ?_
              intro ys W hR hd K hK
              have dd6 : ys 6 = (.bool true) := hd 6 (by kernel_rfl) (by decide)
              have dd10 : ys 10 = (.pointer (some ⟨ag, 2, none⟩)) := hd 10 (by kernel_rfl) (by decide)
              have c0 := hR.2.2.2.2.2.1
              have c1 := hR.2.2.2.2.2.2
              go_simp
              have hK2 := hK (.agg #[.int .u64 R1, .int .u64 R2]) _ (Below.refl _ _) rfl
              simp (config := { decide := true }) only [upd, if_true, if_false, dd6, dd10] at hK2
              exact hK2
            refine ⟨?_, ?_⟩
            · refine SlotStep.below (DvE_up V ELz ag L1 L2 R1 R2) (dvE_up u4 ELz ag t ac L1 L2 R1 R2) ?_
              intro ys W hR hd K hK
              have dd6 : ys 6 = (.bool true) := hd 6 (by kernel_rfl) (by decide)
              have dd7 : ys 7 = (.agg #[.int .u64 R1, .int .u64 R2]) := hd 7 (by kernel_rfl) (by decide)
              have dd11 : ys 11 = (.agg #[.int .u64 R1, .int .u64 R2]) := hd 11 (by kernel_rfl) (by decide)
              have heq := HE2.out
              go_simp
              have hK2 := hK (.bool true) _ (Below.refl _ _) rfl
              simp (config := { decide := true }) only [upd, if_true, if_false, dd6, dd7, dd11] at hK2
              exact hK2
            refine ⟨?_, ?_⟩
            · refine SlotStep.below (DvE_up V ELz ag L1 L2 R1 R2) (dvE_up u4 ELz ag t ac L1 L2 R1 R2) ?_
              intro ys W hR hd K hK
              have dd6 : ys 6 = (.bool true) := hd 6 (by kernel_rfl) (by decide)
              have dd12 : ys 12 = (.bool true) := hd 12 (by kernel_rfl) (by decide)
              go_simp
              have hK2 := hK (.bool true) _ (Below.refl _ _) rfl
              simp (config := { decide := true }) only [upd, if_true, if_false, dd6, dd12] at hK2
              exact hK2
            refine ⟨?_, ?_⟩
            · refine SlotStep.below (DvE_up V ELz ag L1 L2 R1 R2) (dvE_up u4 ELz ag t ac L1 L2 R1 R2) ?_
              intro ys W hR hd K hK
              have dd13 : ys 13 = (.bool true) := hd 13 (by kernel_rfl) (by decide)
              go_simp
              have hK2 := hK (.bool true) _ (Below.refl _ _) rfl
              simp (config := { decide := true }) only [upd, if_true, if_false, dd13] at hK2
              exact hK2
            trivial
            · intro L5 ys5 W5 hL5 hI5
              obtain ⟨hR5, hj5⟩ := hI5
              have y := hj5 14 (by decide) (hL5 14 (by decide))
              have y : ys5 14 = .bool true := y
              have HW := Lib.hid hR5.1
              clear hR5 hj5 hL5 HR
              simp only [y]
              go_wp2
              go_ret
              exact ⟨rfl, by rw [hD]; exact hwV.trans (HW.out.mono (by have := hwV.size; omega))⟩
  · rw [chk_ne a b c d hx] at CH
    clear hx al tw tz
    go_enter Tryd.func6, Tryd.ntmps6
    have G1 : Gl ((w.alloc (.cells #[.int .i64 a, .int .i64 b, .int .i64 c, .int .i64 d] 23)).alloc (.cells #[.int .u64 lo, .int .u64 hi] 26)) := G.below (by rw [hD]; exact (((Below.refl _ w).alloc (by first | omega | (simp; omega)) (.cells #[.int .i64 a, .int .i64 b, .int .i64 c, .int .i64 d] 23)).alloc (by first | omega | (simp; omega)) (.cells #[.int .u64 lo, .int .u64 hi] 26)))
    go_wp2_with fail
    refine (KN.out _ G1).mono ?_
    rintro e v1 ⟨rfl, hb_v1⟩
    have cP_v1 : v1.heap[D]? = some (.cells #[.int .i64 a, .int .i64 b, .int .i64 c, .int .i64 d] 23) := (hb_v1.block (D) (Array.getElem?_eq_some_iff.1 (show ((w.alloc (.cells #[.int .i64 a, .int .i64 b, .int .i64 c, .int .i64 d] 23)).alloc (.cells #[.int .u64 lo, .int .u64 hi] 26)).heap[D]? = some (.cells #[.int .i64 a, .int .i64 b, .int .i64 c, .int .i64 d] 23) from (heap_old (o := .cells #[.int .u64 lo, .int .u64 hi] 26) (heap_new (by first | omega | (simp; omega)))))).1).trans (heap_old (o := .cells #[.int .u64 lo, .int .u64 hi] 26) (heap_new (by first | omega | (simp; omega))))
    have cS_v1 : v1.heap[D + 1]? = some (.cells #[.int .u64 lo, .int .u64 hi] 26) := (hb_v1.block (D + 1) (Array.getElem?_eq_some_iff.1 (show ((w.alloc (.cells #[.int .i64 a, .int .i64 b, .int .i64 c, .int .i64 d] 23)).alloc (.cells #[.int .u64 lo, .int .u64 hi] 26)).heap[D + 1]? = some (.cells #[.int .u64 lo, .int .u64 hi] 26) from (heap_new (by first | omega | (simp; omega))))).1).trans (heap_new (by first | omega | (simp; omega)))
    have hw_v1 : Below D w v1 := ((((Below.refl _ w).alloc (by first | omega | (simp; omega)) (.cells #[.int .i64 a, .int .i64 b, .int .i64 c, .int .i64 d] 23)).alloc (by first | omega | (simp; omega)) (.cells #[.int .u64 lo, .int .u64 hi] 26))).trans (hb_v1.mono (by first | omega | (simp; omega)))
    clear hb_v1
    have ld2 : v1.heap[D]? = some (.cells #[.int .i64 a, .int .i64 b, .int .i64 c, .int .i64 d] 23) := cP_v1
    have y2_0 := cell4_0 ld2
    have y2_1 := cell4_1 ld2
    have y2_2 := cell4_2 ld2
    have y2_3 := cell4_3 ld2
    clear ld2
    go_wp2_with fail
    refine (CH.out _).mono ?_
    rintro e v3 ⟨rfl, hb_v3⟩
    have hs_v3 := hw_v1.size
    have cP_v3 : v3.heap[D]? = some (.cells #[.int .i64 a, .int .i64 b, .int .i64 c, .int .i64 d] 23) := (hb_v3.block (D) (Array.getElem?_eq_some_iff.1 (show v1.heap[D]? = some (.cells #[.int .i64 a, .int .i64 b, .int .i64 c, .int .i64 d] 23) from cP_v1)).1).trans cP_v1
    have cS_v3 : v3.heap[D + 1]? = some (.cells #[.int .u64 lo, .int .u64 hi] 26) := (hb_v3.block (D + 1) (Array.getElem?_eq_some_iff.1 (show v1.heap[D + 1]? = some (.cells #[.int .u64 lo, .int .u64 hi] 26) from cS_v1)).1).trans cS_v1
    have hw_v3 : Below D w v3 := (hw_v1).trans (hb_v3.mono (by first | omega | (simp; omega)))
    clear cP_v1 cS_v1 hb_v3 y2_0 y2_1 y2_2 y2_3 hw_v1 hs_v3
    have G2 : Gl v3 := G.below (by rw [hD]; exact hw_v3)
    go_wp2_with fail
    refine (KN.out _ G2).mono ?_
    rintro e v4 ⟨rfl, hb_v4⟩
    have hs_v4 := hw_v3.size
    have cP_v4 : v4.heap[D]? = some (.cells #[.int .i64 a, .int .i64 b, .int .i64 c, .int .i64 d] 23) := (hb_v4.block (D) (Array.getElem?_eq_some_iff.1 (show v3.heap[D]? = some (.cells #[.int .i64 a, .int .i64 b, .int .i64 c, .int .i64 d] 23) from cP_v3)).1).trans cP_v3
    have cS_v4 : v4.heap[D + 1]? = some (.cells #[.int .u64 lo, .int .u64 hi] 26) := (hb_v4.block (D + 1) (Array.getElem?_eq_some_iff.1 (show v3.heap[D + 1]? = some (.cells #[.int .u64 lo, .int .u64 hi] 26) from cS_v3)).1).trans cS_v3
    have hw_v4 : Below D w v4 := (hw_v3).trans (hb_v4.mono (by first | omega | (simp; omega)))
    clear cP_v3 cS_v3 hb_v4 hw_v3 hs_v4
    have HW := Lib.hid (hw_v4)
    clear KN CH
    go_wp2
    go_ret
    exact ⟨rfl, by first | exact HW.out | (rw [hD]; exact HW.out)⟩
end Go.Proofs.YtinopmdefndhoaaDoor
