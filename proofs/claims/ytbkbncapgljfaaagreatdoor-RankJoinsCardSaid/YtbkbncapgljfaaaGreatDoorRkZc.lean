/- The walk of RankJoins. -/
import Derived.Test.YtbkbncapgljfaaaGreatDoorRkZa
import Derived.Test.YtbkbncapgljfaaaGreatDoorRkZb
namespace Go.Proofs.YtbkbncapgljfaaaGreatDoor
open Go Go.RowKit Go.Shelf

theorem wd_news {W : World} {g o n c : Nat} {X : Nat → Int} (h : Wd W (.slice (some ⟨g, o, none⟩) n c) n X) : ∀ j u, (rowL X n)[j]? = some u → W.cell? ((⟨g, o, none⟩ : Addr).add j) = some u := by
  intro j u hj
  have hl : j < n := by have := (List.getElem?_eq_some_iff.1 hj).1; rwa [rowL_len] at this
  rw [rowL_at hl] at hj
  cases hj
  obtain ⟨g', o', c', e, h1, h2, h3⟩ := h.at hl
  cases e
  rw [Go.WideShapes.add_plain]
  exact h3
theorem row_one {X : Nat → Int} {n : Nat} : ∀ u ∈ rowL X n, u.oneCell' = true := by
  intro u hu
  obtain ⟨k, hk, rfl⟩ := List.mem_map.1 hu
  rfl
/-- A slice of ints stays as it is when a box of a rank is written. -/
theorem wd_box {W U : World} {v : Value} {n E : Nat} {X : Nat → Int} {c : Array Value} (h : Wd W v n X ∧ WT W v) (hp : W.heap[E]? = some (.cells c 26)) (hU : ∀ k, k ≠ E → U.heap[k]? = W.heap[k]?) (hs : U.heap.size = W.heap.size) : Wd U v n X ∧ WT U v := by
  have hne : ∀ a m c, v = .slice (some a) m c → a.block ≠ E := by
    intro a m c hv e
    obtain ⟨cur, fz, h1⟩ := h.2 a m c hv
    rw [e, hp] at h1
    simp at h1
  refine ⟨?_, fun a m c hv => ?_⟩
  · rcases h.1 with h0 | ⟨g, o, cap, h1, h2, h3, h4⟩
    · exact .inl h0
    · refine .inr ⟨g, o, cap, h1, h2, by rw [hs]; exact h3, fun k hk => ?_⟩
      rw [← h4 k hk]
      simp only [World.cell?]
      rw [hU g (hne _ _ _ h1)]
  · obtain ⟨cur, fz, h1⟩ := h.2 a m c hv
    exact ⟨cur, fz, (hU a.block (hne a m c hv)).trans h1⟩
theorem wd_box6 {W : World} {v : Value} {n E : Nat} {X : Nat → Int} {c : Array Value} {x0 x1 x2 x3 x4 x5 : Value} (h : Wd W v n X ∧ WT W v) (hp : W.heap[E]? = some (.cells c 26)) : Wd ((((((W.setCell ⟨E, 0, none⟩ x0).setCell ⟨E, 1, none⟩ x1).setCell ⟨E, 2, none⟩ x2).setCell ⟨E, 3, none⟩ x3).setCell ⟨E, 4, none⟩ x4).setCell ⟨E, 5, none⟩ x5) v n X ∧ WT ((((((W.setCell ⟨E, 0, none⟩ x0).setCell ⟨E, 1, none⟩ x1).setCell ⟨E, 2, none⟩ x2).setCell ⟨E, 3, none⟩ x3).setCell ⟨E, 4, none⟩ x4).setCell ⟨E, 5, none⟩ x5) v :=
  wd_box h hp (fun _ hk => other6 hk) (by simp)
theorem wd_box1 {W : World} {v : Value} {n E o : Nat} {X : Nat → Int} {c : Array Value} {x : Value} (h : Wd W v n X ∧ WT W v) (hp : W.heap[E]? = some (.cells c 26)) : Wd (W.setCell ⟨E, o, none⟩ x) v n X ∧ WT (W.setCell ⟨E, o, none⟩ x) v :=
  wd_box h hp (fun _ hk => set_other hk) (by simp)
theorem own_empty (W : World) (B : Nat) (hB : B ≤ W.heap.size) : (W.alloc (.cells #[] 3)).ownsRow B 3 1 (.slice (some ⟨W.heap.size, 0, none⟩) 0 0) 0 [] :=
  ⟨rfl, .inr ⟨W.heap.size, 0, #[], rfl, hB, heap_new rfl, Nat.le_refl _, Nat.zero_le _, rfl, rfl⟩⟩
theorem sum_cat {X Y : Nat → Int} {n : Nat} : ∀ m, sumI (fun k => if k < n then X k else Y (k - n)) (n + m) = sumI X n + sumI Y m
  | 0 => by
    have h : ∀ k, k ≤ n → sumI (fun k => if k < n then X k else Y (k - n)) k = sumI X k := by
      intro k
      induction k with
      | zero => intro _; rfl
      | succ k ih => intro hk; rw [sumI, sumI, ih (by omega), if_pos (by omega)]
    rw [Nat.add_zero, h n (Nat.le_refl _)]; simp [sumI]
  | m + 1 => by
    rw [← Nat.add_assoc, sumI, sum_cat m, sumI, if_neg (by omega), show n + m - n = m by omega]; omega
theorem join_any (nm tn : ByteArray) (a b f : Int) (n : Nat) (X : Nat → Int) (nm2 tn2 : ByteArray) (a2 b2 f2 : Int) (m : Nat) (X2 : Nat → Int) (s1 : nm.size ≤ 1099511627776) (s2 : tn.size ≤ 1099511627776) (hn : n ≤ 25) (t1 : nm2.size ≤ 1099511627776) (t2 : tn2.size ≤ 1099511627776) (hm : m ≤ 25) (h1 : rkE nm tn a b f n X = 0) (h2 : rkE nm2 tn2 a2 b2 f2 m X2 = 0) :
    ∃ (Nm Tn : ByteArray) (A B Fv : Int) (mm : Nat) (Y : Nat → Int) (ev : Int), (∀ (sa : Option Addr) (cp : Nat) (sb : Option Addr) (cq : Nat) (w : World), Wd w (.slice sa n cp) n X → Wd w (.slice sb m cq) m X2 → Calls Tryz.prog 27 #[.agg #[.string nm, .string tn, .int .i64 a, .int .i64 b, .int .i64 f, .slice sa n cp], .agg #[.string nm2, .string tn2, .int .i64 a2, .int .i64 b2, .int .i64 f2, .slice sb m cq]] w fun e w' => (∃ sr cr, e = .returned (.tuple #[.agg #[.string Nm, .string Tn, .int .i64 A, .int .i64 B, .int .i64 Fv, .slice sr mm cr], .int .i64 ev]) ∧ Wd w' (.slice sr mm cr) mm Y) ∧ Below w.heap.size w w') ∧
      ((¬ (tn = tn2 ∧ a = a2 ∧ b = b2) ∧ ev = 14 ∧ Nm = ⟨#[]⟩ ∧ Tn = ⟨#[]⟩ ∧ A = 0 ∧ B = 0 ∧ Fv = 0 ∧ mm = 0 ∧ X = Y) ∨ (¬ f2 = f + n ∧ tn = tn2 ∧ a = a2 ∧ b = b2 ∧ ev = 6 ∧ Nm = ⟨#[]⟩ ∧ Tn = ⟨#[]⟩ ∧ A = 0 ∧ B = 0 ∧ Fv = 0 ∧ mm = 0 ∧ X = Y) ∨ (f2 = f + n ∧ tn = tn2 ∧ a = a2 ∧ b = b2 ∧ ev = 0 ∧ nm = Nm ∧ tn = Tn ∧ a = A ∧ b = B ∧ f = Fv ∧ n + m = mm ∧ (fun k => if k < n then X k else X2 (k - n)) = Y)) := by
  by_cases h3 : tn = tn2 ∧ a = a2 ∧ b = b2
  · obtain ⟨rfl, rfl, rfl⟩ := h3
    by_cases h4 : f2 = f + n
    · exact ⟨_, _, _, _, _, _, _, _, fun sa cp sb cq w hA hB => (join_ok nm tn a b f sa n cp X nm2 f2 sb m cq X2 s1 s2 (by omega) t1 (by omega) h1 h2 h4 (by omega) w hA hB).mono (fun e w' ⟨⟨sr, cr, he, hw, _⟩, hb⟩ => ⟨⟨sr, cr, he, hw⟩, hb⟩), .inr (.inr ⟨h4, rfl, rfl, rfl, rfl, rfl, rfl, rfl, rfl, rfl, rfl, rfl⟩)⟩
    · exact ⟨_, _, _, _, _, _, _, _, fun sa cp sb cq w hA hB => (join_order nm tn a b f sa n cp X nm2 f2 sb m cq X2 s1 s2 (by omega) t1 (by omega) h1 h2 h4 w hA hB).mono (fun e w' ⟨he, hb⟩ => ⟨⟨none, 0, he, wd_nil w' X⟩, hb⟩), .inr (.inl ⟨h4, rfl, rfl, rfl, rfl, rfl, rfl, rfl, rfl, rfl, rfl, rfl⟩)⟩
  · exact ⟨_, _, _, _, _, _, _, _, fun sa cp sb cq w hA hB => (join_conflict nm tn a b f sa n cp X nm2 tn2 a2 b2 f2 sb m cq X2 s1 s2 (by omega) t1 t2 (by omega) h1 h2 h3 w hA hB).mono (fun e w' ⟨he, hb⟩ => ⟨⟨none, 0, he, wd_nil w' X⟩, hb⟩), .inl ⟨h3, rfl, rfl, rfl, rfl, rfl, rfl, rfl, rfl⟩⟩

def jwI (EA EB ET : Nat) (sa sb : Value) : Nat → Value → Prop
  | 1, v => v = .pointer (some ⟨EA, 5, none⟩)
  | 2, v => v = sa
  | 4, v => v = .pointer (some ⟨EB, 5, none⟩)
  | 5, v => v = sb
  | 7, v => v = .pointer (some ⟨ET, 5, none⟩)
  | _, _ => True
def jwS (V : World) (ET n m : Nat) (X Y : Nat → Int) (nm tn : ByteArray) (a b f : Int) : Nat → (Nat → Value) → World → Prop
  | 0, _, A => Below V.heap.size V A
  | 1, ys, A => Below V.heap.size V A ∧ A.ownsRow V.heap.size 3 1 (ys 0) 0 []
  | 2, ys, A => Below V.heap.size V A ∧ A.ownsRow V.heap.size 3 1 (ys 3) n (rowL X n)
  | 3, ys, A => Below V.heap.size V A ∧ A.ownsRow V.heap.size 3 1 (ys 6) (n + m) (rowL X n ++ rowL Y m)
  | _, _, A => ∃ sr cr, Below ET V A ∧ A.heap[ET]? = some (.cells #[.string nm, .string tn, .int .i64 a, .int .i64 b, .int .i64 f, .slice sr (n + m) cr] 26) ∧ A.ownsRow V.heap.size 3 1 (.slice sr (n + m) cr) (n + m) (rowL X n ++ rowL Y m)
theorem jw_read {V : World} {ET n m : Nat} {X Y : Nat → Int} {nm tn : ByteArray} {a b f : Int} (hE : ET ≤ V.heap.size) : ∀ (k : Nat) (ys : Nat → Value) (A : World), jwS V ET n m X Y nm tn a b f k ys A → ∀ i, i < ET → A.heap[i]? = V.heap[i]?
  | 0, _, _, h, i, hi => h.block i (by omega)
  | 1, _, _, h, i, hi => h.1.block i (by omega)
  | 2, _, _, h, i, hi => h.1.block i (by omega)
  | 3, _, _, h, i, hi => h.1.block i (by omega)
  | _ + 4, _, _, ⟨_, _, h, _⟩, i, hi => h.block i hi
def jwC (k : Nat) : Nat := [0, 3, 6, 8].getD k 0
theorem jwC_inj0 : ∀ a, a < 4 → ∀ b, b < 4 → jwC a = jwC b → a = b := by decide
theorem jwC_inj : ∀ a b, a < 4 → b < 4 → jwC a = jwC b → a = b := fun a b ha hb => jwC_inj0 a ha b hb
theorem jwC_lt : ∀ j, j < 4 → jwC j < 9 := by decide
theorem jwS_1 {V : World} {ET n m : Nat} {X Y : Nat → Int} {nm tn : ByteArray} {a b f : Int} : ∀ (k : Nat) (ys : Nat → Value) (v : Value) (A : World), jwS V ET n m X Y nm tn a b f k ys A → jwS V ET n m X Y nm tn a b f k (upd ys 1 v) A
  | 0, _, _, _, h => h
  | 1, _, _, _, h => h
  | 2, _, _, _, h => h
  | 3, _, _, _, h => h
  | _ + 4, _, _, _, h => h
theorem jwC_1 : ∀ j, j < 4 → jwC j ≠ 1 := by decide
theorem jwS_2 {V : World} {ET n m : Nat} {X Y : Nat → Int} {nm tn : ByteArray} {a b f : Int} : ∀ (k : Nat) (ys : Nat → Value) (v : Value) (A : World), jwS V ET n m X Y nm tn a b f k ys A → jwS V ET n m X Y nm tn a b f k (upd ys 2 v) A
  | 0, _, _, _, h => h
  | 1, _, _, _, h => h
  | 2, _, _, _, h => h
  | 3, _, _, _, h => h
  | _ + 4, _, _, _, h => h
theorem jwC_2 : ∀ j, j < 4 → jwC j ≠ 2 := by decide
theorem jwS_4 {V : World} {ET n m : Nat} {X Y : Nat → Int} {nm tn : ByteArray} {a b f : Int} : ∀ (k : Nat) (ys : Nat → Value) (v : Value) (A : World), jwS V ET n m X Y nm tn a b f k ys A → jwS V ET n m X Y nm tn a b f k (upd ys 4 v) A
  | 0, _, _, _, h => h
  | 1, _, _, _, h => h
  | 2, _, _, _, h => h
  | 3, _, _, _, h => h
  | _ + 4, _, _, _, h => h
theorem jwC_4 : ∀ j, j < 4 → jwC j ≠ 4 := by decide
theorem jwS_5 {V : World} {ET n m : Nat} {X Y : Nat → Int} {nm tn : ByteArray} {a b f : Int} : ∀ (k : Nat) (ys : Nat → Value) (v : Value) (A : World), jwS V ET n m X Y nm tn a b f k ys A → jwS V ET n m X Y nm tn a b f k (upd ys 5 v) A
  | 0, _, _, _, h => h
  | 1, _, _, _, h => h
  | 2, _, _, _, h => h
  | 3, _, _, _, h => h
  | _ + 4, _, _, _, h => h
theorem jwC_5 : ∀ j, j < 4 → jwC j ≠ 5 := by decide
theorem jwS_7 {V : World} {ET n m : Nat} {X Y : Nat → Int} {nm tn : ByteArray} {a b f : Int} : ∀ (k : Nat) (ys : Nat → Value) (v : Value) (A : World), jwS V ET n m X Y nm tn a b f k ys A → jwS V ET n m X Y nm tn a b f k (upd ys 7 v) A
  | 0, _, _, _, h => h
  | 1, _, _, _, h => h
  | 2, _, _, _, h => h
  | 3, _, _, _, h => h
  | _ + 4, _, _, _, h => h
theorem jwC_7 : ∀ j, j < 4 → jwC j ≠ 7 := by decide

def jnI (E0 : Nat) (t ft f p w0 w1 w2 w3 w4 t2 ft2 f2 p2 w02 w12 w22 w32 w42 fa fb fa2 fb2 : Int) (tn tn2 : ByteArray) (n n2 : Nat) (X X2 : Nat → Int) : Nat → Value → World → Prop
  | 0, v, _ => v = .agg #[.int .u8 t, .int .u8 ft, .int .i8 f, .int .u8 p, .int .u8 w0, .int .u8 w1, .int .u8 w2, .int .u8 w3, .int .u8 w4]
  | 1, v, W => ∃ ra rc, v = .agg #[.string ⟨#[82, 48]⟩, .string tn, .int .i64 fa, .int .i64 fb, .int .i64 f, .slice ra n rc] ∧ Wd W (.slice ra n rc) n X ∧ WT W (.slice ra n rc)
  | 2, v, _ => v = .agg #[.int .u8 t2, .int .u8 ft2, .int .i8 f2, .int .u8 p2, .int .u8 w02, .int .u8 w12, .int .u8 w22, .int .u8 w32, .int .u8 w42]
  | 3, v, W => ∃ ra2 rc2, v = .agg #[.string ⟨#[82, 49]⟩, .string tn2, .int .i64 fa2, .int .i64 fb2, .int .i64 f2, .slice ra2 n2 rc2] ∧ Wd W (.slice ra2 n2 rc2) n2 X2 ∧ WT W (.slice ra2 n2 rc2)
  | 4, v, W => ∃ E, v = .pointer (some ⟨E, 0, none⟩) ∧ E0 ≤ E ∧ W.heap[E]? = some (.cells #[.string ⟨#[]⟩, .string ⟨#[]⟩, .int .i64 0, .int .i64 0, .int .i64 0, .slice none 0 0] 26)
  | 5, v, W => ∃ E, v = .pointer (some ⟨E, 0, none⟩) ∧ E0 ≤ E ∧ W.heap[E]? = some (.cells #[.string ⟨#[]⟩, .string ⟨#[]⟩, .int .i64 0, .int .i64 0, .int .i64 0, .slice none 0 0] 26)
  | _, _, _ => True

theorem jnI_up (E0 : Nat) (t ft f p w0 w1 w2 w3 w4 t2 ft2 f2 p2 w02 w12 w22 w32 w42 fa fb fa2 fb2 : Int) (tn tn2 : ByteArray) (n n2 : Nat) (X X2 : Nat → Int) : ∀ (j : Nat) (v : Value) (A B : World), Below A.heap.size A B → jnI E0 t ft f p w0 w1 w2 w3 w4 t2 ft2 f2 p2 w02 w12 w22 w32 w42 fa fb fa2 fb2 tn tn2 n n2 X X2 j v A → jnI E0 t ft f p w0 w1 w2 w3 w4 t2 ft2 f2 p2 w02 w12 w22 w32 w42 fa fb fa2 fb2 tn tn2 n n2 X X2 j v B
  | 0, _, _, _, _, h => h
  | 1, _, _, _, hb, h => (by obtain ⟨ra, rc, h1, h2, h3⟩ := h; exact ⟨ra, rc, h1, h2.below hb, h3.below hb⟩)
  | 2, _, _, _, _, h => h
  | 3, _, _, _, hb, h => (by obtain ⟨ra, rc, h1, h2, h3⟩ := h; exact ⟨ra, rc, h1, h2.below hb, h3.below hb⟩)
  | 4, _, _, _, hb, h => (by obtain ⟨E, h1, h2, h3⟩ := h; exact ⟨E, h1, h2, (hb.block E (Array.getElem?_eq_some_iff.1 h3).1).trans h3⟩)
  | 5, _, _, _, hb, h => (by obtain ⟨E, h1, h2, h3⟩ := h; exact ⟨E, h1, h2, (hb.block E (Array.getElem?_eq_some_iff.1 h3).1).trans h3⟩)
  | 6, _, _, _, _, h => h
  | 7, _, _, _, _, h => h
  | _ + 8, _, _, _, _, _ => trivial

theorem jnI_new (E0 : Nat) (t ft f p w0 w1 w2 w3 w4 t2 ft2 f2 p2 w02 w12 w22 w32 w42 fa fb fa2 fb2 : Int) (tn tn2 : ByteArray) (n n2 : Nat) (X X2 : Nat → Int) : ∀ (j : Nat) (v : Value) (w : World), (j = 4 ∨ j = 5) → jnI E0 t ft f p w0 w1 w2 w3 w4 t2 ft2 f2 p2 w02 w12 w22 w32 w42 fa fb fa2 fb2 tn tn2 n n2 X X2 j v w → v ≠ .pointer (some ⟨w.heap.size, 0, none⟩) := by
  rintro j v w (rfl | rfl) ⟨E, h1, _, h3⟩ e
  · rw [h1] at e; cases e; exact Nat.lt_irrefl _ (Array.getElem?_eq_some_iff.1 h3).1
  · rw [h1] at e; cases e; exact Nat.lt_irrefl _ (Array.getElem?_eq_some_iff.1 h3).1


set_option maxRecDepth 100000 in
set_option maxHeartbeats 4000000 in
theorem joins_walk_f (t ft f p w0 w1 w2 w3 w4 : Int) (bt : 0 ≤ t ∧ t ≤ 255) (bft : 0 ≤ ft ∧ ft ≤ 255) (bf : -128 ≤ f ∧ f ≤ 127) (bp : 0 ≤ p ∧ p ≤ 255) (b0 : 0 ≤ w0 ∧ w0 ≤ 255) (b1 : 0 ≤ w1 ∧ w1 ≤ 255) (b2 : 0 ≤ w2 ∧ w2 ≤ 255) (b3 : 0 ≤ w3 ∧ w3 ≤ 255) (b4 : 0 ≤ w4 ∧ w4 ≤ 255) (t2 ft2 f2 p2 w02 w12 w22 w32 w42 : Int) (bt2 : 0 ≤ t2 ∧ t2 ≤ 255) (bft2 : 0 ≤ ft2 ∧ ft2 ≤ 255) (bf2 : -128 ≤ f2 ∧ f2 ≤ 127) (bp2 : 0 ≤ p2 ∧ p2 ≤ 255) (b02 : 0 ≤ w02 ∧ w02 ≤ 255) (b12 : 0 ≤ w12 ∧ w12 ≤ 255) (b22 : 0 ≤ w22 ∧ w22 ≤ 255) (b32 : 0 ≤ w32 ∧ w32 ≤ 255) (b42 : 0 ≤ w42 ∧ w42 ≤ 255) (w : World) (G : Gi w) :
    Calls Tryz.prog 9 #[.agg #[.int .u8 t, .int .u8 ft, .int .i8 f, .int .u8 p, .int .u8 w0, .int .u8 w1, .int .u8 w2, .int .u8 w3, .int .u8 w4], .agg #[.int .u8 t2, .int .u8 ft2, .int .i8 f2, .int .u8 p2, .int .u8 w02, .int .u8 w12, .int .u8 w22, .int .u8 w32, .int .u8 w42], .bool false] w fun e w' => e = .returned (.bool true) ∧ Below w.heap.size w w' := by
  obtain ⟨j, hj, hx⟩ := feet_rem ft bft
  obtain ⟨tm, h3, htm⟩ := plan_tone bt
  obtain ⟨q, hq25, hq⟩ := plan_num bp
  obtain ⟨n, hn⟩ : ∃ n, q + 1 = n := ⟨_, rfl⟩
  obtain ⟨fa, hfa⟩ : ∃ a, (feetF j).1 = a := ⟨_, rfl⟩
  obtain ⟨fb, hfb⟩ : ∃ a, (feetF j).2 = a := ⟨_, rfl⟩
  obtain ⟨tn, htn⟩ : ∃ a, toneB tm = a := ⟨_, rfl⟩
  obtain ⟨X, hX⟩ : ∃ a, xw w0 w1 w2 w3 w4 = a := ⟨_, rfl⟩
  have MK := Lib.hid (fun W => make_t0 t ft f p w0 w1 w2 w3 w4 bt bft bf bp b0 b1 b2 b3 b4 j tm q hj hx h3 htm hq25 hq W)
  have hpk := feetF_pk j hj
  have hnt := tone_name tm h3
  have hXb := fun k => xw_bd b0 b1 b2 b3 b4 k
  have ts := tone_size tm h3
  rw [hfa, hfb, htn, hn, hX] at MK
  rw [hfa, hfb] at hpk
  rw [htn] at hnt ts
  rw [hX] at hXb
  have hn1 : 1 ≤ n ∧ n ≤ 25 := by omega
  have hz : rkE ⟨#[82, 48]⟩ tn fa fb f n X = 0 := rk_of (by decide +kernel) hnt hpk (by omega) (by omega) (by omega) (fun k _ => by have := hXb k; omega)
  have ns : n ≤ 1099511627776 := by omega
  clear hj hx htm hq hfa hfb htn hX h3 hn hnt hq25 bt bft bp b0 b1 b2 b3 b4
  obtain ⟨j2, hj2, hx2⟩ := feet_rem ft2 bft2
  obtain ⟨tm2, h32, htm2⟩ := plan_tone bt2
  obtain ⟨q2, hq252, hq2⟩ := plan_num bp2
  obtain ⟨n2, hn2⟩ : ∃ n, q2 + 1 = n := ⟨_, rfl⟩
  obtain ⟨fa2, hfa2⟩ : ∃ a, (feetF j2).1 = a := ⟨_, rfl⟩
  obtain ⟨fb2, hfb2⟩ : ∃ a, (feetF j2).2 = a := ⟨_, rfl⟩
  obtain ⟨tn2, htn2⟩ : ∃ a, toneB tm2 = a := ⟨_, rfl⟩
  obtain ⟨X2, hX2⟩ : ∃ a, xw w02 w12 w22 w32 w42 = a := ⟨_, rfl⟩
  have MK2 := Lib.hid (fun W => make_t1 t2 ft2 f2 p2 w02 w12 w22 w32 w42 bt2 bft2 bf2 bp2 b02 b12 b22 b32 b42 j2 tm2 q2 hj2 hx2 h32 htm2 hq252 hq2 W)
  have hpk2 := feetF_pk j2 hj2
  have hnt2 := tone_name tm2 h32
  have hXb2 := fun k => xw_bd b02 b12 b22 b32 b42 k
  have ts2 := tone_size tm2 h32
  rw [hfa2, hfb2, htn2, hn2, hX2] at MK2
  rw [hfa2, hfb2] at hpk2
  rw [htn2] at hnt2 ts2
  rw [hX2] at hXb2
  have hn12 : 1 ≤ n2 ∧ n2 ≤ 25 := by omega
  have hz2 : rkE ⟨#[82, 49]⟩ tn2 fa2 fb2 f2 n2 X2 = 0 := rk_of (by decide +kernel) hnt2 hpk2 (by omega) (by omega) (by omega) (fun k _ => by have := hXb2 k; omega)
  have ns2 : n2 ≤ 1099511627776 := by omega
  clear hj2 hx2 htm2 hq2 hfa2 hfb2 htn2 hX2 h32 hn2 hnt2 hq252 bt2 bft2 bp2 b02 b12 b22 b32 b42
  obtain ⟨z1, z2, z3, hf, hn0, hn128, hx⟩ := rk_ok hz
  obtain ⟨y1, y2, y3, hf2, hn02, hn1282, hx2⟩ := rk_ok hz2
  have hzH : rkE ⟨#[82, 49]⟩ tn2 fa2 fb2 f2 n2 X2 = 0 := rk_of y1 y2 y3 (by omega) hn02 hn1282 hx2
  obtain ⟨Nm, Tn, A, B, Fv, mm, Y, ev, hJN, hcase⟩ := join_any ⟨#[82, 48]⟩ tn fa fb f n X ⟨#[82, 49]⟩ tn2 fa2 fb2 f2 n2 X2 (by decide) ts (by omega) (by decide) ts2 (by omega) hz hzH
  have KN := Lib.hid (fun W G => known_c W G)
  have JN := Lib.hid hJN
  have TA := Lib.hid (fun v W h => total_ok ⟨#[82, 48]⟩ tn fa fb f v n X (by decide) ts ns hz W h)
  have TB := Lib.hid (fun v W h => total_ok ⟨#[82, 49]⟩ tn2 fa2 fb2 f2 v n2 X2 (by decide) ts2 ns2 hzH W h)
  have SZ := Lib.hid (fun va vb W h h' => same_wd ⟨#[]⟩ ⟨#[]⟩ 0 0 0 0 X X (by omega) (fun _ _ => rfl) va vb W h h')
  have HT := Lib.hid (And.intro (And.intro z1 (And.intro z2 z3)) (And.intro hx hx2))
  have HC := Lib.hid hcase
  clear hJN hcase hz hz2 hzH ns ns2 hpk hpk2 hXb hXb2 hn0 hn02 z1 z2 z3 y1 y2 y3 hx hx2
  have q1 := wrap_in (q := f + (n : Int)) (by omega) (by omega)
  obtain ⟨D, hD⟩ : ∃ D, w.heap.size = D := ⟨_, rfl⟩
  go_enter Tryz.func9, Tryz.ntmps9
  have G1 : Gi ((w.alloc (.cells #[.int .u8 t, .int .u8 ft, .int .i8 f, .int .u8 p, .int .u8 w0, .int .u8 w1, .int .u8 w2, .int .u8 w3, .int .u8 w4] 47)).alloc (.cells #[.int .u8 t2, .int .u8 ft2, .int .i8 f2, .int .u8 p2, .int .u8 w02, .int .u8 w12, .int .u8 w22, .int .u8 w32, .int .u8 w42] 47)) := G.below (by first | exact (((Below.refl _ w).alloc (by first | omega | (simp; omega)) (.cells #[.int .u8 t, .int .u8 ft, .int .i8 f, .int .u8 p, .int .u8 w0, .int .u8 w1, .int .u8 w2, .int .u8 w3, .int .u8 w4] 47)).alloc (by first | omega | (simp; omega)) (.cells #[.int .u8 t2, .int .u8 ft2, .int .i8 f2, .int .u8 p2, .int .u8 w02, .int .u8 w12, .int .u8 w22, .int .u8 w32, .int .u8 w42] 47)) | (rw [hD]; exact (((Below.refl _ w).alloc (by first | omega | (simp; omega)) (.cells #[.int .u8 t, .int .u8 ft, .int .i8 f, .int .u8 p, .int .u8 w0, .int .u8 w1, .int .u8 w2, .int .u8 w3, .int .u8 w4] 47)).alloc (by first | omega | (simp; omega)) (.cells #[.int .u8 t2, .int .u8 ft2, .int .i8 f2, .int .u8 p2, .int .u8 w02, .int .u8 w12, .int .u8 w22, .int .u8 w32, .int .u8 w42] 47))))
  go_wp2_with fail
  refine (KN.out _ G1).mono ?_
  rintro e v1 ⟨rfl, hb_v1⟩
  have cP_v1 : v1.heap[D]? = some (.cells #[.int .u8 t, .int .u8 ft, .int .i8 f, .int .u8 p, .int .u8 w0, .int .u8 w1, .int .u8 w2, .int .u8 w3, .int .u8 w4] 47) := (hb_v1.block (D) (Array.getElem?_eq_some_iff.1 (show ((w.alloc (.cells #[.int .u8 t, .int .u8 ft, .int .i8 f, .int .u8 p, .int .u8 w0, .int .u8 w1, .int .u8 w2, .int .u8 w3, .int .u8 w4] 47)).alloc (.cells #[.int .u8 t2, .int .u8 ft2, .int .i8 f2, .int .u8 p2, .int .u8 w02, .int .u8 w12, .int .u8 w22, .int .u8 w32, .int .u8 w42] 47)).heap[D]? = some (.cells #[.int .u8 t, .int .u8 ft, .int .i8 f, .int .u8 p, .int .u8 w0, .int .u8 w1, .int .u8 w2, .int .u8 w3, .int .u8 w4] 47) from (heap_old (o := .cells #[.int .u8 t2, .int .u8 ft2, .int .i8 f2, .int .u8 p2, .int .u8 w02, .int .u8 w12, .int .u8 w22, .int .u8 w32, .int .u8 w42] 47) (heap_new (by first | omega | (simp; omega)))))).1).trans (heap_old (o := .cells #[.int .u8 t2, .int .u8 ft2, .int .i8 f2, .int .u8 p2, .int .u8 w02, .int .u8 w12, .int .u8 w22, .int .u8 w32, .int .u8 w42] 47) (heap_new (by first | omega | (simp; omega))))
  have cQ_v1 : v1.heap[D + 1]? = some (.cells #[.int .u8 t2, .int .u8 ft2, .int .i8 f2, .int .u8 p2, .int .u8 w02, .int .u8 w12, .int .u8 w22, .int .u8 w32, .int .u8 w42] 47) := (hb_v1.block (D + 1) (Array.getElem?_eq_some_iff.1 (show ((w.alloc (.cells #[.int .u8 t, .int .u8 ft, .int .i8 f, .int .u8 p, .int .u8 w0, .int .u8 w1, .int .u8 w2, .int .u8 w3, .int .u8 w4] 47)).alloc (.cells #[.int .u8 t2, .int .u8 ft2, .int .i8 f2, .int .u8 p2, .int .u8 w02, .int .u8 w12, .int .u8 w22, .int .u8 w32, .int .u8 w42] 47)).heap[D + 1]? = some (.cells #[.int .u8 t2, .int .u8 ft2, .int .i8 f2, .int .u8 p2, .int .u8 w02, .int .u8 w12, .int .u8 w22, .int .u8 w32, .int .u8 w42] 47) from (heap_new (by first | omega | (simp; omega))))).1).trans (heap_new (by first | omega | (simp; omega)))
  have hw_v1 : Below D w v1 := ((((Below.refl _ w).alloc (by first | omega | (simp; omega)) (.cells #[.int .u8 t, .int .u8 ft, .int .i8 f, .int .u8 p, .int .u8 w0, .int .u8 w1, .int .u8 w2, .int .u8 w3, .int .u8 w4] 47)).alloc (by first | omega | (simp; omega)) (.cells #[.int .u8 t2, .int .u8 ft2, .int .i8 f2, .int .u8 p2, .int .u8 w02, .int .u8 w12, .int .u8 w22, .int .u8 w32, .int .u8 w42] 47))).trans (hb_v1.mono (by first | omega | (simp; omega)))
  clear hb_v1 G1
  obtain ⟨V1, hV1⟩ : ∃ V, v1 = V := ⟨_, rfl⟩
  subst hV1
  have HPV := Lib.hid cP_v1
  have HQV := Lib.hid cQ_v1
  have HBV := Lib.hid hw_v1
  have hDV := hw_v1.size
  have hQV := (Array.getElem?_eq_some_iff.1 cQ_v1).1
  clear cP_v1 cQ_v1 hw_v1
  go_upto_region 3 with fail
  refine wp_region_slots_at rfl rfl (fun base ys => (((((base.set 20 (ys 0)).set 21 (ys 1)).set 22 (ys 2)).set 23 (ys 3)).set 7 (ys 4)).set 8 (ys 5)) (TwoI _ 6 4 5 (Below v1.heap.size v1) (jnI v1.heap.size t ft f p w0 w1 w2 w3 w4 t2 ft2 f2 p2 w02 w12 w22 w32 w42 fa fb fa2 fb2 tn tn2 n n2 X X2) (fun ys A => ∃ EA EB ra rc ra2 rc2, ys 4 = .pointer (some ⟨EA, 0, none⟩) ∧ ys 5 = .pointer (some ⟨EB, 0, none⟩) ∧ ys 3 = .agg #[.string ⟨#[82, 49]⟩, .string tn2, .int .i64 fa2, .int .i64 fb2, .int .i64 f2, .slice ra2 n2 rc2] ∧ EA ≠ EB ∧ v1.heap.size ≤ EA ∧ v1.heap.size ≤ EB ∧ A.heap[EA]? = some (.cells #[.string ⟨#[82, 48]⟩, .string tn, .int .i64 fa, .int .i64 fb, .int .i64 f, .slice ra n rc] 26) ∧ A.heap[EB]? = some (.cells #[.string ⟨#[]⟩, .string ⟨#[]⟩, .int .i64 0, .int .i64 0, .int .i64 0, .slice none 0 0] 26) ∧ (Wd A (.slice ra n rc) n X ∧ WT A (.slice ra n rc)) ∧ (Wd A (.slice ra2 n2 rc2) n2 X2 ∧ WT A (.slice ra2 n2 rc2)) ∧ Below v1.heap.size v1 A) (fun ys A => ∃ EA EB ra rc ra2 rc2, ys 4 = .pointer (some ⟨EA, 0, none⟩) ∧ ys 5 = .pointer (some ⟨EB, 0, none⟩) ∧ EA ≠ EB ∧ v1.heap.size ≤ EA ∧ v1.heap.size ≤ EB ∧ A.heap[EA]? = some (.cells #[.string ⟨#[82, 48]⟩, .string tn, .int .i64 fa, .int .i64 fb, .int .i64 f, .slice ra n rc] 26) ∧ A.heap[EB]? = some (.cells #[.string ⟨#[82, 49]⟩, .string tn2, .int .i64 fa2, .int .i64 fb2, .int .i64 f2, .slice ra2 n2 rc2] 26) ∧ (Wd A (.slice ra n rc) n X ∧ WT A (.slice ra n rc)) ∧ (Wd A (.slice ra2 n2 rc2) n2 X2 ∧ WT A (.slice ra2 n2 rc2)) ∧ Below v1.heap.size v1 A)) (fun _ => undef) (by kernel_rfl) (tw_start (by decide) (by decide) ((Below.refl _ _).trans ⟨rfl, rfl, rfl, Nat.le_refl _, fun _ _ => rfl⟩)) ?h3
  case h3 =>
    intro FF hFF
    simp only [List.set_cons_succ, List.set_cons_zero] at hFF
    subst hFF
    refine ⟨rfl, ?_, ?_⟩
    refine ⟨?_, ?_⟩
    · refine SlotStep.twB rfl (by decide) (by decide) (by decide) (fun L hc h => (clo_at hc 1 0 rfl (by kernel_rfl) (clo_at hc 6 1 rfl (by kernel_rfl) h))) (fun L hc h => clo_at hc 7 6 rfl (by kernel_rfl) h) (fun A B hb h => h.trans (hb.mono h.size)) (jnI_up v1.heap.size t ft f p w0 w1 w2 w3 w4 t2 ft2 f2 p2 w02 w12 w22 w32 w42 fa fb fa2 fb2 tn tn2 n n2 X X2) ?_
      intro ys W hR hd K hK
      have hl := (hR.block (D) (Array.getElem?_eq_some_iff.1 HPV.out).1).trans HPV.out
      obtain ⟨c0, c1, c2, c3, c4, c5, c6, c7, c8⟩ := plan_cells hl
      clear hl
      go_simp
      have hK2 := hK (.agg #[.int .u8 t, .int .u8 ft, .int .i8 f, .int .u8 p, .int .u8 w0, .int .u8 w1, .int .u8 w2, .int .u8 w3, .int .u8 w4]) _ (Below.refl _ _) rfl
      simp (config := { decide := true }) only [upd, if_true, if_false] at hK2
      exact hK2
    refine ⟨?_, ?_⟩
    · refine SlotStep.twB rfl (by decide) (by decide) (by decide) (fun L hc h => (clo_at hc 6 1 rfl (by kernel_rfl) h)) (fun L hc h => clo_at hc 7 6 rfl (by kernel_rfl) h) (fun A B hb h => h.trans (hb.mono h.size)) (jnI_up v1.heap.size t ft f p w0 w1 w2 w3 w4 t2 ft2 f2 p2 w02 w12 w22 w32 w42 fa fb fa2 fb2 tn tn2 n n2 X X2) ?_
      intro ys W hR hd K hK
      have dd0 : ys 0 = (.agg #[.int .u8 t, .int .u8 ft, .int .i8 f, .int .u8 p, .int .u8 w0, .int .u8 w1, .int .u8 w2, .int .u8 w3, .int .u8 w4]) := hd 0 (by kernel_rfl) (by decide)
      go_simp
      refine (MK.out W).mono ?_
      rintro e w5 ⟨⟨v5, rfl, hm5, ht5⟩, hb5⟩; obtain ⟨ra, rc, rfl⟩ := hm5.len
      have hK2 := hK (.agg #[.string ⟨#[82, 48]⟩, .string tn, .int .i64 fa, .int .i64 fb, .int .i64 f, .slice ra n rc]) _ hb5 ⟨ra, rc, rfl, hm5, ht5⟩
      simp (config := { decide := true }) only [upd, if_true, if_false, dd0] at hK2
      exact hK2
    refine ⟨?_, ?_⟩
    · refine SlotStep.twB rfl (by decide) (by decide) (by decide) (fun L hc h => (clo_at hc 3 2 rfl (by kernel_rfl) (clo_at hc 6 3 rfl (by kernel_rfl) h))) (fun L hc h => clo_at hc 7 6 rfl (by kernel_rfl) h) (fun A B hb h => h.trans (hb.mono h.size)) (jnI_up v1.heap.size t ft f p w0 w1 w2 w3 w4 t2 ft2 f2 p2 w02 w12 w22 w32 w42 fa fb fa2 fb2 tn tn2 n n2 X X2) ?_
      intro ys W hR hd K hK
      have hl := (hR.block (D + 1) (Array.getElem?_eq_some_iff.1 HQV.out).1).trans HQV.out
      obtain ⟨c0, c1, c2, c3, c4, c5, c6, c7, c8⟩ := plan_cells hl
      clear hl
      go_simp
      have hK2 := hK (.agg #[.int .u8 t2, .int .u8 ft2, .int .i8 f2, .int .u8 p2, .int .u8 w02, .int .u8 w12, .int .u8 w22, .int .u8 w32, .int .u8 w42]) _ (Below.refl _ _) rfl
      simp (config := { decide := true }) only [upd, if_true, if_false] at hK2
      exact hK2
    refine ⟨?_, ?_⟩
    · refine SlotStep.twB rfl (by decide) (by decide) (by decide) (fun L hc h => (clo_at hc 6 3 rfl (by kernel_rfl) h)) (fun L hc h => clo_at hc 7 6 rfl (by kernel_rfl) h) (fun A B hb h => h.trans (hb.mono h.size)) (jnI_up v1.heap.size t ft f p w0 w1 w2 w3 w4 t2 ft2 f2 p2 w02 w12 w22 w32 w42 fa fb fa2 fb2 tn tn2 n n2 X X2) ?_
      intro ys W hR hd K hK
      have dd2 : ys 2 = (.agg #[.int .u8 t2, .int .u8 ft2, .int .i8 f2, .int .u8 p2, .int .u8 w02, .int .u8 w12, .int .u8 w22, .int .u8 w32, .int .u8 w42]) := hd 2 (by kernel_rfl) (by decide)
      go_simp
      refine (MK2.out W).mono ?_
      rintro e w5 ⟨⟨v5, rfl, hm5, ht5⟩, hb5⟩; obtain ⟨ra2, rc2, rfl⟩ := hm5.len
      have hK2 := hK (.agg #[.string ⟨#[82, 49]⟩, .string tn2, .int .i64 fa2, .int .i64 fb2, .int .i64 f2, .slice ra2 n2 rc2]) _ hb5 ⟨ra2, rc2, rfl, hm5, ht5⟩
      simp (config := { decide := true }) only [upd, if_true, if_false, dd2] at hK2
      exact hK2
    refine ⟨?_, ?_⟩
    · refine SlotStep.twA rfl (by decide) (by decide) (by decide) (by decide) (by decide) (jnI_new v1.heap.size t ft f p w0 w1 w2 w3 w4 t2 ft2 f2 p2 w02 w12 w22 w32 w42 fa fb fa2 fb2 tn tn2 n n2 X X2) (fun L hc h => (clo_at hc 6 4 rfl (by kernel_rfl) h)) (fun L hc h => clo_at hc 7 6 rfl (by kernel_rfl) h) (fun A B hb h => h.trans (hb.mono h.size)) (jnI_up v1.heap.size t ft f p w0 w1 w2 w3 w4 t2 ft2 f2 p2 w02 w12 w22 w32 w42 fa fb fa2 fb2 tn tn2 n n2 X X2) ?_
      intro ys W hR K hK
      go_simp
      have hK2 := hK _ ((Below.refl _ W).alloc (Nat.le_refl _) (.cells #[.string ⟨#[]⟩, .string ⟨#[]⟩, .int .i64 0, .int .i64 0, .int .i64 0, .slice none 0 0] 26)) ⟨_, rfl, hR.size, heap_new rfl⟩
      simp (config := { decide := true }) only [upd, if_true, if_false] at hK2
      exact hK2
    refine ⟨?_, ?_⟩
    · refine SlotStep.twA rfl (by decide) (by decide) (by decide) (by decide) (by decide) (jnI_new v1.heap.size t ft f p w0 w1 w2 w3 w4 t2 ft2 f2 p2 w02 w12 w22 w32 w42 fa fb fa2 fb2 tn tn2 n n2 X X2) (fun L hc h => (clo_at hc 6 5 rfl (by kernel_rfl) h)) (fun L hc h => clo_at hc 7 6 rfl (by kernel_rfl) h) (fun A B hb h => h.trans (hb.mono h.size)) (jnI_up v1.heap.size t ft f p w0 w1 w2 w3 w4 t2 ft2 f2 p2 w02 w12 w22 w32 w42 fa fb fa2 fb2 tn tn2 n n2 X X2) ?_
      intro ys W hR K hK
      go_simp
      have hK2 := hK _ ((Below.refl _ W).alloc (Nat.le_refl _) (.cells #[.string ⟨#[]⟩, .string ⟨#[]⟩, .int .i64 0, .int .i64 0, .int .i64 0, .slice none 0 0] 26)) ⟨_, rfl, hR.size, heap_new rfl⟩
      simp (config := { decide := true }) only [upd, if_true, if_false] at hK2
      exact hK2
    refine ⟨?_, ?_⟩
    · refine SlotStep.twS rfl rfl (by kernel_rfl) (by kernel_rfl) (fun L hc h => clo_at hc 7 6 rfl (by kernel_rfl) h) ?_
      intro ys W hR hd hne K hK
      obtain ⟨ra, rc, dd1, hwA⟩ : ∃ ra rc, ys 1 = .agg #[.string ⟨#[82, 48]⟩, .string tn, .int .i64 fa, .int .i64 fb, .int .i64 f, .slice ra n rc] ∧ Wd W (.slice ra n rc) n X ∧ WT W (.slice ra n rc) := hd 1 (by kernel_rfl) (by decide)
      obtain ⟨ra2, rc2, dd3, hwB⟩ : ∃ ra2 rc2, ys 3 = .agg #[.string ⟨#[82, 49]⟩, .string tn2, .int .i64 fa2, .int .i64 fb2, .int .i64 f2, .slice ra2 n2 rc2] ∧ Wd W (.slice ra2 n2 rc2) n2 X2 ∧ WT W (.slice ra2 n2 rc2) := hd 3 (by kernel_rfl) (by decide)
      obtain ⟨EA, dd4, hEA, hpA⟩ : ∃ E, ys 4 = .pointer (some ⟨E, 0, none⟩) ∧ v1.heap.size ≤ E ∧ W.heap[E]? = some (.cells #[.string ⟨#[]⟩, .string ⟨#[]⟩, .int .i64 0, .int .i64 0, .int .i64 0, .slice none 0 0] 26) := hd 4 (by kernel_rfl) (by decide)
      obtain ⟨EB, dd5, hEB, hpB⟩ : ∃ E, ys 5 = .pointer (some ⟨E, 0, none⟩) ∧ v1.heap.size ≤ E ∧ W.heap[E]? = some (.cells #[.string ⟨#[]⟩, .string ⟨#[]⟩, .int .i64 0, .int .i64 0, .int .i64 0, .slice none 0 0] 26) := hd 5 (by kernel_rfl) (by decide)
      have hEE : EA ≠ EB := fun e => hne (by rw [dd4, dd5, e])
      obtain ⟨c0, c1, c2, c3, c4, c5⟩ := cell6_at hpA
      obtain ⟨r0, r1, r2, r3, r4, r5⟩ := free6_at hpA
      have HP := Lib.hid (And.intro hpA (And.intro hpB (And.intro hwA hwB)))
      clear hpA hpB hwA hwB
      go_simp
      have hK2 := hK undef ((((((W.setCell ⟨EA, 0, none⟩ (.string ⟨#[82, 48]⟩)).setCell ⟨EA, 1, none⟩ (.string tn)).setCell ⟨EA, 2, none⟩ (.int .i64 fa)).setCell ⟨EA, 3, none⟩ (.int .i64 fb)).setCell ⟨EA, 4, none⟩ (.int .i64 f)).setCell ⟨EA, 5, none⟩ (.slice ra n rc)) ⟨EA, EB, ra, rc, ra2, rc2, dd4, dd5, dd3, hEE, hEA, hEB, set6_all HP.out.1, (other6 (Ne.symm hEE)).trans HP.out.2.1, wd_box6 HP.out.2.2.1 HP.out.1, wd_box6 HP.out.2.2.2 HP.out.1, below6 hR hEA _ _ _ _ _ _⟩
      simp (config := { decide := true }) only [upd, if_true, if_false, dd1, dd3, dd4, dd5] at hK2
      exact hK2
    refine ⟨?_, ?_⟩
    · refine SlotStep.twT rfl rfl (by kernel_rfl) ?_
      intro ys W ⟨EA, EB, ra, rc, ra2, rc2, dd4, dd5, dd3, hEE, hEA, hEB, hpA, hpB, hwA, hwB, hbb⟩ K hK
      obtain ⟨c0, c1, c2, c3, c4, c5⟩ := cell6_at hpB
      obtain ⟨r0, r1, r2, r3, r4, r5⟩ := free6_at hpB
      have HP := Lib.hid (And.intro hpA (And.intro hpB (And.intro hwA (And.intro hwB hbb))))
      clear hpA hpB hwA hwB hbb
      go_simp
      have hK2 := hK undef ((((((W.setCell ⟨EB, 0, none⟩ (.string ⟨#[82, 49]⟩)).setCell ⟨EB, 1, none⟩ (.string tn2)).setCell ⟨EB, 2, none⟩ (.int .i64 fa2)).setCell ⟨EB, 3, none⟩ (.int .i64 fb2)).setCell ⟨EB, 4, none⟩ (.int .i64 f2)).setCell ⟨EB, 5, none⟩ (.slice ra2 n2 rc2)) ⟨EA, EB, ra, rc, ra2, rc2, dd4, dd5, hEE, hEA, hEB, (other6 hEE).trans HP.out.1, set6_all HP.out.2.1, wd_box6 HP.out.2.2.1 HP.out.2.1, wd_box6 HP.out.2.2.2.1 HP.out.2.1, below6 HP.out.2.2.2.2 hEB _ _ _ _ _ _⟩
      simp (config := { decide := true }) only [upd, if_true, if_false, dd3, dd4, dd5] at hK2
      exact hK2
    trivial
    · intro L5 ys5 U hL5 hI5
      obtain ⟨EA, EB, ra, rc, ra2, rc2, d4, d5, hEE, hEA, hEB, cA, cB, hwA, hwB, hbU⟩ := tw_end (by decide) hL5 hI5
      simp only [d4, d5]
      generalize ys5 0 = y0 at *
      generalize ys5 1 = y1 at *
      generalize ys5 2 = y2 at *
      generalize ys5 3 = y3 at *
      have cP := (hbU.block D (by omega)).trans HPV.out
      have cQ := (hbU.block (D + 1) (by omega)).trans HQV.out
      have hw_U : Below D w U := HBV.out.trans (hbU.mono (by omega))
      have GU : Gi U := G.below (by rw [hD]; exact hw_U)
      obtain ⟨g, o, cg, e0, hcg, hg, _⟩ := hwA.1.at (show 0 < n by omega)
      cases e0
      obtain ⟨g2, o2, cg2, e0, hcg2, hg2, _⟩ := hwB.1.at (show 0 < n2 by omega)
      cases e0
      have hltA := (Array.getElem?_eq_some_iff.1 cA).1
      have hltB := (Array.getElem?_eq_some_iff.1 cB).1
      have geA : D + 2 ≤ EA := by omega
      have geB : D + 2 ≤ EB := by omega
      clear d4 d5 hL5 hI5 hbU HPV HQV HBV hQV hDV hEA hEB
      clear cP cQ
      have hwA_ := hwA.1
      have hwB_ := hwB.1
      have hAl := (Array.getElem?_eq_some_iff.1 cA).1
      have hBl := (Array.getElem?_eq_some_iff.1 cB).1
      have hA0 := Lib.hid hwA_
      have hB0 := Lib.hid hwB_
      clear hwA_ hwB_
      obtain ⟨D2, hD2⟩ : ∃ D, U.heap.size = D := ⟨_, rfl⟩
      have G2 : Gi U := G.below (by first | exact hw_U | (rw [hD]; exact hw_U))
      have HB2 := Lib.hid (hw_U)
      clear hw_U
      have ltA : EA < D2 := by omega
      have ltB : EB < D2 := by omega
      have ld2 : U.heap[EA]? = some (.cells #[.string ⟨#[82, 48]⟩, .string tn, .int .i64 fa, .int .i64 fb, .int .i64 f, .slice (some ⟨g, o, none⟩) n rc] 26) := cA
      have y2_0 := cell6_0 ld2
      have y2_1 := cell6_1 ld2
      have y2_2 := cell6_2 ld2
      have y2_3 := cell6_3 ld2
      have y2_4 := cell6_4 ld2
      have y2_5 := cell6_5 ld2
      clear ld2
      have ld3 : U.heap[EB]? = some (.cells #[.string ⟨#[82, 49]⟩, .string tn2, .int .i64 fa2, .int .i64 fb2, .int .i64 f2, .slice (some ⟨g2, o2, none⟩) n2 rc2] 26) := cB
      have y3_0 := cell6_0 ld3
      have y3_1 := cell6_1 ld3
      have y3_2 := cell6_2 ld3
      have y3_3 := cell6_3 ld3
      have y3_4 := cell6_4 ld3
      have y3_5 := cell6_5 ld3
      clear ld3
      have W2 : Wd U (.slice (some ⟨g, o, none⟩) n rc) n X := hA0.out.below (by first | exact (Below.refl _ U) | (rw [hD2]; exact (Below.refl _ U)))
      have W3 : Wd U (.slice (some ⟨g2, o2, none⟩) n2 rc2) n2 X2 := hB0.out.below (by first | exact (Below.refl _ U) | (rw [hD2]; exact (Below.refl _ U)))
      go_wp2_with fail
      refine (JN.out _ _ _ _ _ W2 W3).mono ?_
      rintro e v4 ⟨⟨sj, cj, rfl, hwd⟩, hb_v4⟩
      have cA_v4 : v4.heap[EA]? = some (.cells #[.string ⟨#[82, 48]⟩, .string tn, .int .i64 fa, .int .i64 fb, .int .i64 f, .slice (some ⟨g, o, none⟩) n rc] 26) := (hb_v4.block (EA) (Array.getElem?_eq_some_iff.1 (show U.heap[EA]? = some (.cells #[.string ⟨#[82, 48]⟩, .string tn, .int .i64 fa, .int .i64 fb, .int .i64 f, .slice (some ⟨g, o, none⟩) n rc] 26) from cA)).1).trans cA
      have cB_v4 : v4.heap[EB]? = some (.cells #[.string ⟨#[82, 49]⟩, .string tn2, .int .i64 fa2, .int .i64 fb2, .int .i64 f2, .slice (some ⟨g2, o2, none⟩) n2 rc2] 26) := (hb_v4.block (EB) (Array.getElem?_eq_some_iff.1 (show U.heap[EB]? = some (.cells #[.string ⟨#[82, 49]⟩, .string tn2, .int .i64 fa2, .int .i64 fb2, .int .i64 f2, .slice (some ⟨g2, o2, none⟩) n2 rc2] 26) from cB)).1).trans cB
      have hw_v4 : Below D2 U v4 := ((Below.refl _ U)).trans (hb_v4.mono (by first | omega | (simp; omega)))
      clear cA cB hb_v4 y2_0 y2_1 y2_2 y2_3 y2_4 y2_5 y3_0 y3_1 y3_2 y3_3 y3_4 y3_5 W2 W3
      have hJ3 := Lib.hid hwd
      clear hwd
      have hA3 := Lib.hid (hA0.out.below (by first | exact hw_v4 | (rw [hD2]; exact hw_v4)))
      clear hA0
      have hB3 := Lib.hid (hB0.out.below (by first | exact hw_v4 | (rw [hD2]; exact hw_v4)))
      clear hB0
      obtain ⟨D3, hD3⟩ : ∃ D, v4.heap.size = D := ⟨_, rfl⟩
      have G23 : Gi v4 := G2.below (by first | exact hw_v4 | (rw [hD2]; exact hw_v4))
      have HB3 := Lib.hid (hw_v4)
      clear hw_v4
      clear G2
      rcases HC.out with ⟨g1, rfl, rfl, rfl, rfl, rfl, rfl, rfl, rfl⟩ | ⟨g1, rfl, rfl, rfl, rfl, rfl, rfl, rfl, rfl, rfl, rfl, rfl⟩ | ⟨g1, rfl, rfl, rfl, rfl, rfl, rfl, rfl, rfl, rfl, rfl, rfl⟩
      · by_cases e1 : tn = tn2
        · subst e1
          have fr := fr_ne0 fa fb fa2 fb2 (fun h => g1 ⟨rfl, h⟩)
          have ld5 : (v4.alloc (.cells #[.string ⟨#[]⟩, .string ⟨#[]⟩, .int .i64 0, .int .i64 0, .int .i64 0, .slice sj 0 cj] 26)).heap[EA]? = some (.cells #[.string ⟨#[82, 48]⟩, .string tn, .int .i64 fa, .int .i64 fb, .int .i64 f, .slice (some ⟨g, o, none⟩) n rc] 26) := (heap_old (o := .cells #[.string ⟨#[]⟩, .string ⟨#[]⟩, .int .i64 0, .int .i64 0, .int .i64 0, .slice sj 0 cj] 26) cA_v4)
          have y5_0 := cell6_0 ld5
          have y5_1 := cell6_1 ld5
          have y5_2 := cell6_2 ld5
          have y5_3 := cell6_3 ld5
          have y5_4 := cell6_4 ld5
          have y5_5 := cell6_5 ld5
          clear ld5
          have ld6 : (v4.alloc (.cells #[.string ⟨#[]⟩, .string ⟨#[]⟩, .int .i64 0, .int .i64 0, .int .i64 0, .slice sj 0 cj] 26)).heap[EB]? = some (.cells #[.string ⟨#[82, 49]⟩, .string tn, .int .i64 fa2, .int .i64 fb2, .int .i64 f2, .slice (some ⟨g2, o2, none⟩) n2 rc2] 26) := (heap_old (o := .cells #[.string ⟨#[]⟩, .string ⟨#[]⟩, .int .i64 0, .int .i64 0, .int .i64 0, .slice sj 0 cj] 26) cB_v4)
          have y6_0 := cell6_0 ld6
          have y6_1 := cell6_1 ld6
          have y6_2 := cell6_2 ld6
          have y6_3 := cell6_3 ld6
          have y6_4 := cell6_4 ld6
          have y6_5 := cell6_5 ld6
          clear ld6
          have ld7 : (v4.alloc (.cells #[.string ⟨#[]⟩, .string ⟨#[]⟩, .int .i64 0, .int .i64 0, .int .i64 0, .slice sj 0 cj] 26)).heap[D3]? = some (.cells #[.string ⟨#[]⟩, .string ⟨#[]⟩, .int .i64 0, .int .i64 0, .int .i64 0, .slice sj 0 cj] 26) := (heap_new (by first | omega | (simp; omega)))
          have y7_0 := cell6_0 ld7
          have y7_1 := cell6_1 ld7
          have y7_2 := cell6_2 ld7
          have y7_3 := cell6_3 ld7
          have y7_4 := cell6_4 ld7
          have y7_5 := cell6_5 ld7
          clear ld7
          have W4 : Wd (v4.alloc (.cells #[.string ⟨#[]⟩, .string ⟨#[]⟩, .int .i64 0, .int .i64 0, .int .i64 0, .slice sj 0 cj] 26)) (.slice sj 0 cj) 0 X := hJ3.out.below (by first | exact ((Below.refl _ v4).alloc (by first | omega | (simp; omega)) (.cells #[.string ⟨#[]⟩, .string ⟨#[]⟩, .int .i64 0, .int .i64 0, .int .i64 0, .slice sj 0 cj] 26)) | (rw [hD3]; exact ((Below.refl _ v4).alloc (by first | omega | (simp; omega)) (.cells #[.string ⟨#[]⟩, .string ⟨#[]⟩, .int .i64 0, .int .i64 0, .int .i64 0, .slice sj 0 cj] 26))))
          have Z5 := wd_nil ((v4.alloc (.cells #[.string ⟨#[]⟩, .string ⟨#[]⟩, .int .i64 0, .int .i64 0, .int .i64 0, .slice sj 0 cj] 26))) X
          go_wp2_with fail
          refine (SZ.out _ _ _ W4 Z5).mono ?_
          rintro e v8 ⟨rfl, hb_v8⟩
          have cA_v8 : v8.heap[EA]? = some (.cells #[.string ⟨#[82, 48]⟩, .string tn, .int .i64 fa, .int .i64 fb, .int .i64 f, .slice (some ⟨g, o, none⟩) n rc] 26) := (hb_v8.block (EA) (Array.getElem?_eq_some_iff.1 (show (v4.alloc (.cells #[.string ⟨#[]⟩, .string ⟨#[]⟩, .int .i64 0, .int .i64 0, .int .i64 0, .slice sj 0 cj] 26)).heap[EA]? = some (.cells #[.string ⟨#[82, 48]⟩, .string tn, .int .i64 fa, .int .i64 fb, .int .i64 f, .slice (some ⟨g, o, none⟩) n rc] 26) from (heap_old (o := .cells #[.string ⟨#[]⟩, .string ⟨#[]⟩, .int .i64 0, .int .i64 0, .int .i64 0, .slice sj 0 cj] 26) cA_v4))).1).trans (heap_old (o := .cells #[.string ⟨#[]⟩, .string ⟨#[]⟩, .int .i64 0, .int .i64 0, .int .i64 0, .slice sj 0 cj] 26) cA_v4)
          have cB_v8 : v8.heap[EB]? = some (.cells #[.string ⟨#[82, 49]⟩, .string tn, .int .i64 fa2, .int .i64 fb2, .int .i64 f2, .slice (some ⟨g2, o2, none⟩) n2 rc2] 26) := (hb_v8.block (EB) (Array.getElem?_eq_some_iff.1 (show (v4.alloc (.cells #[.string ⟨#[]⟩, .string ⟨#[]⟩, .int .i64 0, .int .i64 0, .int .i64 0, .slice sj 0 cj] 26)).heap[EB]? = some (.cells #[.string ⟨#[82, 49]⟩, .string tn, .int .i64 fa2, .int .i64 fb2, .int .i64 f2, .slice (some ⟨g2, o2, none⟩) n2 rc2] 26) from (heap_old (o := .cells #[.string ⟨#[]⟩, .string ⟨#[]⟩, .int .i64 0, .int .i64 0, .int .i64 0, .slice sj 0 cj] 26) cB_v4))).1).trans (heap_old (o := .cells #[.string ⟨#[]⟩, .string ⟨#[]⟩, .int .i64 0, .int .i64 0, .int .i64 0, .slice sj 0 cj] 26) cB_v4)
          have cJ_v8 : v8.heap[D3]? = some (.cells #[.string ⟨#[]⟩, .string ⟨#[]⟩, .int .i64 0, .int .i64 0, .int .i64 0, .slice sj 0 cj] 26) := (hb_v8.block (D3) (Array.getElem?_eq_some_iff.1 (show (v4.alloc (.cells #[.string ⟨#[]⟩, .string ⟨#[]⟩, .int .i64 0, .int .i64 0, .int .i64 0, .slice sj 0 cj] 26)).heap[D3]? = some (.cells #[.string ⟨#[]⟩, .string ⟨#[]⟩, .int .i64 0, .int .i64 0, .int .i64 0, .slice sj 0 cj] 26) from (heap_new (by first | omega | (simp; omega))))).1).trans (heap_new (by first | omega | (simp; omega)))
          have hw_v8 : Below D3 v4 v8 := (((Below.refl _ v4).alloc (by first | omega | (simp; omega)) (.cells #[.string ⟨#[]⟩, .string ⟨#[]⟩, .int .i64 0, .int .i64 0, .int .i64 0, .slice sj 0 cj] 26))).trans (hb_v8.mono (by first | omega | (simp; omega)))
          clear cA_v4 cB_v4 hb_v8 y5_0 y5_1 y5_2 y5_3 y5_4 y5_5 y6_0 y6_1 y6_2 y6_3 y6_4 y6_5 y7_0 y7_1 y7_2 y7_3 y7_4 y7_5 W4
          have HW := Lib.hid (show Below D w (v8) from (HB2.out.trans (((HB3.out.trans ((hw_v8).mono (by first | exact HB3.out.size | (have := HB3.out.size; simp only [hD] at *; omega) | (have := HB3.out.size; omega))))).mono (by first | exact HB2.out.size | (have := HB2.out.size; simp only [hD] at *; omega) | (have := HB2.out.size; omega)))))
          go_wp2
          go_ret
          exact ⟨rfl, by first | exact HW.out | (rw [hD]; exact HW.out)⟩
        · have x1 := str_ne e1
          have ld5 : (v4.alloc (.cells #[.string ⟨#[]⟩, .string ⟨#[]⟩, .int .i64 0, .int .i64 0, .int .i64 0, .slice sj 0 cj] 26)).heap[EA]? = some (.cells #[.string ⟨#[82, 48]⟩, .string tn, .int .i64 fa, .int .i64 fb, .int .i64 f, .slice (some ⟨g, o, none⟩) n rc] 26) := (heap_old (o := .cells #[.string ⟨#[]⟩, .string ⟨#[]⟩, .int .i64 0, .int .i64 0, .int .i64 0, .slice sj 0 cj] 26) cA_v4)
          have y5_0 := cell6_0 ld5
          have y5_1 := cell6_1 ld5
          have y5_2 := cell6_2 ld5
          have y5_3 := cell6_3 ld5
          have y5_4 := cell6_4 ld5
          have y5_5 := cell6_5 ld5
          clear ld5
          have ld6 : (v4.alloc (.cells #[.string ⟨#[]⟩, .string ⟨#[]⟩, .int .i64 0, .int .i64 0, .int .i64 0, .slice sj 0 cj] 26)).heap[EB]? = some (.cells #[.string ⟨#[82, 49]⟩, .string tn2, .int .i64 fa2, .int .i64 fb2, .int .i64 f2, .slice (some ⟨g2, o2, none⟩) n2 rc2] 26) := (heap_old (o := .cells #[.string ⟨#[]⟩, .string ⟨#[]⟩, .int .i64 0, .int .i64 0, .int .i64 0, .slice sj 0 cj] 26) cB_v4)
          have y6_0 := cell6_0 ld6
          have y6_1 := cell6_1 ld6
          have y6_2 := cell6_2 ld6
          have y6_3 := cell6_3 ld6
          have y6_4 := cell6_4 ld6
          have y6_5 := cell6_5 ld6
          clear ld6
          have ld7 : (v4.alloc (.cells #[.string ⟨#[]⟩, .string ⟨#[]⟩, .int .i64 0, .int .i64 0, .int .i64 0, .slice sj 0 cj] 26)).heap[D3]? = some (.cells #[.string ⟨#[]⟩, .string ⟨#[]⟩, .int .i64 0, .int .i64 0, .int .i64 0, .slice sj 0 cj] 26) := (heap_new (by first | omega | (simp; omega)))
          have y7_0 := cell6_0 ld7
          have y7_1 := cell6_1 ld7
          have y7_2 := cell6_2 ld7
          have y7_3 := cell6_3 ld7
          have y7_4 := cell6_4 ld7
          have y7_5 := cell6_5 ld7
          clear ld7
          have W6 : Wd (v4.alloc (.cells #[.string ⟨#[]⟩, .string ⟨#[]⟩, .int .i64 0, .int .i64 0, .int .i64 0, .slice sj 0 cj] 26)) (.slice sj 0 cj) 0 X := hJ3.out.below (by first | exact ((Below.refl _ v4).alloc (by first | omega | (simp; omega)) (.cells #[.string ⟨#[]⟩, .string ⟨#[]⟩, .int .i64 0, .int .i64 0, .int .i64 0, .slice sj 0 cj] 26)) | (rw [hD3]; exact ((Below.refl _ v4).alloc (by first | omega | (simp; omega)) (.cells #[.string ⟨#[]⟩, .string ⟨#[]⟩, .int .i64 0, .int .i64 0, .int .i64 0, .slice sj 0 cj] 26))))
          have Z7 := wd_nil ((v4.alloc (.cells #[.string ⟨#[]⟩, .string ⟨#[]⟩, .int .i64 0, .int .i64 0, .int .i64 0, .slice sj 0 cj] 26))) X
          go_wp2_with fail
          refine (SZ.out _ _ _ W6 Z7).mono ?_
          rintro e v8 ⟨rfl, hb_v8⟩
          have cA_v8 : v8.heap[EA]? = some (.cells #[.string ⟨#[82, 48]⟩, .string tn, .int .i64 fa, .int .i64 fb, .int .i64 f, .slice (some ⟨g, o, none⟩) n rc] 26) := (hb_v8.block (EA) (Array.getElem?_eq_some_iff.1 (show (v4.alloc (.cells #[.string ⟨#[]⟩, .string ⟨#[]⟩, .int .i64 0, .int .i64 0, .int .i64 0, .slice sj 0 cj] 26)).heap[EA]? = some (.cells #[.string ⟨#[82, 48]⟩, .string tn, .int .i64 fa, .int .i64 fb, .int .i64 f, .slice (some ⟨g, o, none⟩) n rc] 26) from (heap_old (o := .cells #[.string ⟨#[]⟩, .string ⟨#[]⟩, .int .i64 0, .int .i64 0, .int .i64 0, .slice sj 0 cj] 26) cA_v4))).1).trans (heap_old (o := .cells #[.string ⟨#[]⟩, .string ⟨#[]⟩, .int .i64 0, .int .i64 0, .int .i64 0, .slice sj 0 cj] 26) cA_v4)
          have cB_v8 : v8.heap[EB]? = some (.cells #[.string ⟨#[82, 49]⟩, .string tn2, .int .i64 fa2, .int .i64 fb2, .int .i64 f2, .slice (some ⟨g2, o2, none⟩) n2 rc2] 26) := (hb_v8.block (EB) (Array.getElem?_eq_some_iff.1 (show (v4.alloc (.cells #[.string ⟨#[]⟩, .string ⟨#[]⟩, .int .i64 0, .int .i64 0, .int .i64 0, .slice sj 0 cj] 26)).heap[EB]? = some (.cells #[.string ⟨#[82, 49]⟩, .string tn2, .int .i64 fa2, .int .i64 fb2, .int .i64 f2, .slice (some ⟨g2, o2, none⟩) n2 rc2] 26) from (heap_old (o := .cells #[.string ⟨#[]⟩, .string ⟨#[]⟩, .int .i64 0, .int .i64 0, .int .i64 0, .slice sj 0 cj] 26) cB_v4))).1).trans (heap_old (o := .cells #[.string ⟨#[]⟩, .string ⟨#[]⟩, .int .i64 0, .int .i64 0, .int .i64 0, .slice sj 0 cj] 26) cB_v4)
          have cJ_v8 : v8.heap[D3]? = some (.cells #[.string ⟨#[]⟩, .string ⟨#[]⟩, .int .i64 0, .int .i64 0, .int .i64 0, .slice sj 0 cj] 26) := (hb_v8.block (D3) (Array.getElem?_eq_some_iff.1 (show (v4.alloc (.cells #[.string ⟨#[]⟩, .string ⟨#[]⟩, .int .i64 0, .int .i64 0, .int .i64 0, .slice sj 0 cj] 26)).heap[D3]? = some (.cells #[.string ⟨#[]⟩, .string ⟨#[]⟩, .int .i64 0, .int .i64 0, .int .i64 0, .slice sj 0 cj] 26) from (heap_new (by first | omega | (simp; omega))))).1).trans (heap_new (by first | omega | (simp; omega)))
          have hw_v8 : Below D3 v4 v8 := (((Below.refl _ v4).alloc (by first | omega | (simp; omega)) (.cells #[.string ⟨#[]⟩, .string ⟨#[]⟩, .int .i64 0, .int .i64 0, .int .i64 0, .slice sj 0 cj] 26))).trans (hb_v8.mono (by first | omega | (simp; omega)))
          clear cA_v4 cB_v4 hb_v8 y5_0 y5_1 y5_2 y5_3 y5_4 y5_5 y6_0 y6_1 y6_2 y6_3 y6_4 y6_5 y7_0 y7_1 y7_2 y7_3 y7_4 y7_5 W6
          have HW := Lib.hid (show Below D w (v8) from (HB2.out.trans (((HB3.out.trans ((hw_v8).mono (by first | exact HB3.out.size | (have := HB3.out.size; simp only [hD] at *; omega) | (have := HB3.out.size; omega))))).mono (by first | exact HB2.out.size | (have := HB2.out.size; simp only [hD] at *; omega) | (have := HB2.out.size; omega)))))
          go_wp2
          go_ret
          exact ⟨rfl, by first | exact HW.out | (rw [hD]; exact HW.out)⟩
      · have fr := fr_ne1 fa fb
        have ld5 : (v4.alloc (.cells #[.string ⟨#[]⟩, .string ⟨#[]⟩, .int .i64 0, .int .i64 0, .int .i64 0, .slice sj 0 cj] 26)).heap[EA]? = some (.cells #[.string ⟨#[82, 48]⟩, .string tn, .int .i64 fa, .int .i64 fb, .int .i64 f, .slice (some ⟨g, o, none⟩) n rc] 26) := (heap_old (o := .cells #[.string ⟨#[]⟩, .string ⟨#[]⟩, .int .i64 0, .int .i64 0, .int .i64 0, .slice sj 0 cj] 26) cA_v4)
        have y5_0 := cell6_0 ld5
        have y5_1 := cell6_1 ld5
        have y5_2 := cell6_2 ld5
        have y5_3 := cell6_3 ld5
        have y5_4 := cell6_4 ld5
        have y5_5 := cell6_5 ld5
        clear ld5
        have ld6 : (v4.alloc (.cells #[.string ⟨#[]⟩, .string ⟨#[]⟩, .int .i64 0, .int .i64 0, .int .i64 0, .slice sj 0 cj] 26)).heap[EB]? = some (.cells #[.string ⟨#[82, 49]⟩, .string tn, .int .i64 fa, .int .i64 fb, .int .i64 f2, .slice (some ⟨g2, o2, none⟩) n2 rc2] 26) := (heap_old (o := .cells #[.string ⟨#[]⟩, .string ⟨#[]⟩, .int .i64 0, .int .i64 0, .int .i64 0, .slice sj 0 cj] 26) cB_v4)
        have y6_0 := cell6_0 ld6
        have y6_1 := cell6_1 ld6
        have y6_2 := cell6_2 ld6
        have y6_3 := cell6_3 ld6
        have y6_4 := cell6_4 ld6
        have y6_5 := cell6_5 ld6
        clear ld6
        have ld7 : (v4.alloc (.cells #[.string ⟨#[]⟩, .string ⟨#[]⟩, .int .i64 0, .int .i64 0, .int .i64 0, .slice sj 0 cj] 26)).heap[D3]? = some (.cells #[.string ⟨#[]⟩, .string ⟨#[]⟩, .int .i64 0, .int .i64 0, .int .i64 0, .slice sj 0 cj] 26) := (heap_new (by first | omega | (simp; omega)))
        have y7_0 := cell6_0 ld7
        have y7_1 := cell6_1 ld7
        have y7_2 := cell6_2 ld7
        have y7_3 := cell6_3 ld7
        have y7_4 := cell6_4 ld7
        have y7_5 := cell6_5 ld7
        clear ld7
        have W8 : Wd (v4.alloc (.cells #[.string ⟨#[]⟩, .string ⟨#[]⟩, .int .i64 0, .int .i64 0, .int .i64 0, .slice sj 0 cj] 26)) (.slice sj 0 cj) 0 X := hJ3.out.below (by first | exact ((Below.refl _ v4).alloc (by first | omega | (simp; omega)) (.cells #[.string ⟨#[]⟩, .string ⟨#[]⟩, .int .i64 0, .int .i64 0, .int .i64 0, .slice sj 0 cj] 26)) | (rw [hD3]; exact ((Below.refl _ v4).alloc (by first | omega | (simp; omega)) (.cells #[.string ⟨#[]⟩, .string ⟨#[]⟩, .int .i64 0, .int .i64 0, .int .i64 0, .slice sj 0 cj] 26))))
        have Z9 := wd_nil ((v4.alloc (.cells #[.string ⟨#[]⟩, .string ⟨#[]⟩, .int .i64 0, .int .i64 0, .int .i64 0, .slice sj 0 cj] 26))) X
        go_wp2_with fail
        refine (SZ.out _ _ _ W8 Z9).mono ?_
        rintro e v8 ⟨rfl, hb_v8⟩
        have cA_v8 : v8.heap[EA]? = some (.cells #[.string ⟨#[82, 48]⟩, .string tn, .int .i64 fa, .int .i64 fb, .int .i64 f, .slice (some ⟨g, o, none⟩) n rc] 26) := (hb_v8.block (EA) (Array.getElem?_eq_some_iff.1 (show (v4.alloc (.cells #[.string ⟨#[]⟩, .string ⟨#[]⟩, .int .i64 0, .int .i64 0, .int .i64 0, .slice sj 0 cj] 26)).heap[EA]? = some (.cells #[.string ⟨#[82, 48]⟩, .string tn, .int .i64 fa, .int .i64 fb, .int .i64 f, .slice (some ⟨g, o, none⟩) n rc] 26) from (heap_old (o := .cells #[.string ⟨#[]⟩, .string ⟨#[]⟩, .int .i64 0, .int .i64 0, .int .i64 0, .slice sj 0 cj] 26) cA_v4))).1).trans (heap_old (o := .cells #[.string ⟨#[]⟩, .string ⟨#[]⟩, .int .i64 0, .int .i64 0, .int .i64 0, .slice sj 0 cj] 26) cA_v4)
        have cB_v8 : v8.heap[EB]? = some (.cells #[.string ⟨#[82, 49]⟩, .string tn, .int .i64 fa, .int .i64 fb, .int .i64 f2, .slice (some ⟨g2, o2, none⟩) n2 rc2] 26) := (hb_v8.block (EB) (Array.getElem?_eq_some_iff.1 (show (v4.alloc (.cells #[.string ⟨#[]⟩, .string ⟨#[]⟩, .int .i64 0, .int .i64 0, .int .i64 0, .slice sj 0 cj] 26)).heap[EB]? = some (.cells #[.string ⟨#[82, 49]⟩, .string tn, .int .i64 fa, .int .i64 fb, .int .i64 f2, .slice (some ⟨g2, o2, none⟩) n2 rc2] 26) from (heap_old (o := .cells #[.string ⟨#[]⟩, .string ⟨#[]⟩, .int .i64 0, .int .i64 0, .int .i64 0, .slice sj 0 cj] 26) cB_v4))).1).trans (heap_old (o := .cells #[.string ⟨#[]⟩, .string ⟨#[]⟩, .int .i64 0, .int .i64 0, .int .i64 0, .slice sj 0 cj] 26) cB_v4)
        have cJ_v8 : v8.heap[D3]? = some (.cells #[.string ⟨#[]⟩, .string ⟨#[]⟩, .int .i64 0, .int .i64 0, .int .i64 0, .slice sj 0 cj] 26) := (hb_v8.block (D3) (Array.getElem?_eq_some_iff.1 (show (v4.alloc (.cells #[.string ⟨#[]⟩, .string ⟨#[]⟩, .int .i64 0, .int .i64 0, .int .i64 0, .slice sj 0 cj] 26)).heap[D3]? = some (.cells #[.string ⟨#[]⟩, .string ⟨#[]⟩, .int .i64 0, .int .i64 0, .int .i64 0, .slice sj 0 cj] 26) from (heap_new (by first | omega | (simp; omega))))).1).trans (heap_new (by first | omega | (simp; omega)))
        have hw_v8 : Below D3 v4 v8 := (((Below.refl _ v4).alloc (by first | omega | (simp; omega)) (.cells #[.string ⟨#[]⟩, .string ⟨#[]⟩, .int .i64 0, .int .i64 0, .int .i64 0, .slice sj 0 cj] 26))).trans (hb_v8.mono (by first | omega | (simp; omega)))
        clear cA_v4 cB_v4 hb_v8 y5_0 y5_1 y5_2 y5_3 y5_4 y5_5 y6_0 y6_1 y6_2 y6_3 y6_4 y6_5 y7_0 y7_1 y7_2 y7_3 y7_4 y7_5 W8
        have HW := Lib.hid (show Below D w (v8) from (HB2.out.trans (((HB3.out.trans ((hw_v8).mono (by first | exact HB3.out.size | (have := HB3.out.size; simp only [hD] at *; omega) | (have := HB3.out.size; omega))))).mono (by first | exact HB2.out.size | (have := HB2.out.size; simp only [hD] at *; omega) | (have := HB2.out.size; omega)))))
        go_wp2
        go_ret
        exact ⟨rfl, by first | exact HW.out | (rw [hD]; exact HW.out)⟩
      · have fr := fr_ne1 fa fb
        subst g1
        have hzJ : rkE ⟨#[82, 48]⟩ tn fa fb f (n + n2) (fun k => if k < n then X k else X2 (k - n)) = 0 := rk_of HT.out.1.1 HT.out.1.2.1 HT.out.1.2.2 hf (by omega) (by omega) (fun k hk => by by_cases h : k < n <;> simp only [h, if_true, if_false] <;> first | exact HT.out.2.1 k h | exact HT.out.2.2 (k - n) (by omega))
        have TJ := Lib.hid (fun v W h => total_ok ⟨#[82, 48]⟩ tn fa fb f v (n + n2) (fun k => if k < n then X k else X2 (k - n)) (by decide) ts (by omega) hzJ W h)
        have SJ := Lib.hid (fun va vb W h h' => same_wd ⟨#[82, 48]⟩ tn fa fb f (n + n2) (fun k => if k < n then X k else X2 (k - n)) (fun k => if k < n then X k else X2 (k - n)) (by omega) (fun _ _ => rfl) va vb W h h')
        have bA := sumI_bd HT.out.2.1 n (Nat.le_refl _)
        have bB := sumI_bd HT.out.2.2 n2 (Nat.le_refl _)
        rw [sum_cat] at TJ
        obtain ⟨sA, hsA⟩ : ∃ s, sumI X n = s := ⟨_, rfl⟩
        obtain ⟨sB, hsB⟩ : ∃ s, sumI X2 n2 = s := ⟨_, rfl⟩
        rw [hsA] at TA TJ bA
        rw [hsB] at TB TJ bB
        have q8 := wrap_in (q := sA + sB) (by omega) (by omega)
        clear hzJ hsA hsB
        have ld5 : (v4.alloc (.cells #[.string ⟨#[82, 48]⟩, .string tn, .int .i64 fa, .int .i64 fb, .int .i64 f, .slice sj (n + n2) cj] 26)).heap[EA]? = some (.cells #[.string ⟨#[82, 48]⟩, .string tn, .int .i64 fa, .int .i64 fb, .int .i64 f, .slice (some ⟨g, o, none⟩) n rc] 26) := (heap_old (o := .cells #[.string ⟨#[82, 48]⟩, .string tn, .int .i64 fa, .int .i64 fb, .int .i64 f, .slice sj (n + n2) cj] 26) cA_v4)
        have y5_0 := cell6_0 ld5
        have y5_1 := cell6_1 ld5
        have y5_2 := cell6_2 ld5
        have y5_3 := cell6_3 ld5
        have y5_4 := cell6_4 ld5
        have y5_5 := cell6_5 ld5
        clear ld5
        have ld6 : (v4.alloc (.cells #[.string ⟨#[82, 48]⟩, .string tn, .int .i64 fa, .int .i64 fb, .int .i64 f, .slice sj (n + n2) cj] 26)).heap[EB]? = some (.cells #[.string ⟨#[82, 49]⟩, .string tn, .int .i64 fa, .int .i64 fb, .int .i64 (f + n), .slice (some ⟨g2, o2, none⟩) n2 rc2] 26) := (heap_old (o := .cells #[.string ⟨#[82, 48]⟩, .string tn, .int .i64 fa, .int .i64 fb, .int .i64 f, .slice sj (n + n2) cj] 26) cB_v4)
        have y6_0 := cell6_0 ld6
        have y6_1 := cell6_1 ld6
        have y6_2 := cell6_2 ld6
        have y6_3 := cell6_3 ld6
        have y6_4 := cell6_4 ld6
        have y6_5 := cell6_5 ld6
        clear ld6
        obtain ⟨V, hV⟩ : ∃ V, ((v4.alloc (.cells #[.string ⟨#[82, 48]⟩, .string tn, .int .i64 fa, .int .i64 fb, .int .i64 f, .slice sj (n + n2) cj] 26)).alloc (.cells #[.string ⟨#[82, 48]⟩, .string tn, .int .i64 fa, .int .i64 fb, .int .i64 f, .slice (some ⟨g, o, none⟩) n rc] 26)) = V := ⟨_, rfl⟩
        have lt_A : EA < (D3 + 1) := by have := (Array.getElem?_eq_some_iff.1 cA_v4).1; omega
        have lt_B : EB < (D3 + 1) := by have := (Array.getElem?_eq_some_iff.1 cB_v4).1; omega
        have lt_J : D3 < (D3 + 1) := by omega
        have cAV := Lib.hid (show V.heap[EA]? = some (.cells #[.string ⟨#[82, 48]⟩, .string tn, .int .i64 fa, .int .i64 fb, .int .i64 f, .slice (some ⟨g, o, none⟩) n rc] 26) by rw [← hV]; exact (heap_old (o := .cells #[.string ⟨#[82, 48]⟩, .string tn, .int .i64 fa, .int .i64 fb, .int .i64 f, .slice (some ⟨g, o, none⟩) n rc] 26) (heap_old (o := .cells #[.string ⟨#[82, 48]⟩, .string tn, .int .i64 fa, .int .i64 fb, .int .i64 f, .slice sj (n + n2) cj] 26) cA_v4)))
        have cBV := Lib.hid (show V.heap[EB]? = some (.cells #[.string ⟨#[82, 49]⟩, .string tn, .int .i64 fa, .int .i64 fb, .int .i64 (f + n), .slice (some ⟨g2, o2, none⟩) n2 rc2] 26) by rw [← hV]; exact (heap_old (o := .cells #[.string ⟨#[82, 48]⟩, .string tn, .int .i64 fa, .int .i64 fb, .int .i64 f, .slice (some ⟨g, o, none⟩) n rc] 26) (heap_old (o := .cells #[.string ⟨#[82, 48]⟩, .string tn, .int .i64 fa, .int .i64 fb, .int .i64 f, .slice sj (n + n2) cj] 26) cB_v4)))
        have cJV := Lib.hid (show V.heap[D3]? = some (.cells #[.string ⟨#[82, 48]⟩, .string tn, .int .i64 fa, .int .i64 fb, .int .i64 f, .slice sj (n + n2) cj] 26) by rw [← hV]; exact (heap_old (o := .cells #[.string ⟨#[82, 48]⟩, .string tn, .int .i64 fa, .int .i64 fb, .int .i64 f, .slice (some ⟨g, o, none⟩) n rc] 26) (heap_new (by first | omega | (simp; omega)))))
        have cTV := Lib.hid (show V.heap[D3 + 1]? = some (.cells #[.string ⟨#[82, 48]⟩, .string tn, .int .i64 fa, .int .i64 fb, .int .i64 f, .slice (some ⟨g, o, none⟩) n rc] 26) by rw [← hV]; exact (heap_new (by first | omega | (simp; omega))))
        have HwV := Lib.hid (show Below D3 v4 V by rw [← hV]; exact (((Below.refl _ v4).alloc (by first | omega | (simp; omega)) (.cells #[.string ⟨#[82, 48]⟩, .string tn, .int .i64 fa, .int .i64 fb, .int .i64 f, .slice sj (n + n2) cj] 26)).alloc (by first | omega | (simp; omega)) (.cells #[.string ⟨#[82, 48]⟩, .string tn, .int .i64 fa, .int .i64 fb, .int .i64 f, .slice (some ⟨g, o, none⟩) n rc] 26)))
        have HWA := Lib.hid (hA3.out.below (by rw [hD3]; exact HwV.out))
        have HWB := Lib.hid (hB3.out.below (by rw [hD3]; exact HwV.out))
        have HEV := Lib.hid hV
        clear hV
        go_upto_region 12 with fail
        rw [HEV.out]
        clear cA_v4 cB_v4 y5_0 y5_1 y5_2 y5_3 y5_4 y5_5 y6_0 y6_1 y6_2 y6_3 y6_4 y6_5
        have hEV := (Array.getElem?_eq_some_iff.1 cTV.out).1
        obtain ⟨i0, hi0, hz0, hz1, hz2⟩ := info_parts info_int
        refine wp_region_slots_at rfl rfl (fun base ys => (((((((base.set 76 (ys 0)).set 77 (ys 1)).set 78 (ys 2)).set 79 (ys 3)).set 80 (ys 4)).set 81 (ys 5)).set 82 (ys 6)).set 83 (ys 7)) (ChI _ 4 jwC (jwI EA EB (D3 + 1) (.slice (some ⟨g, o, none⟩) n rc) (.slice (some ⟨g2, o2, none⟩) n2 rc2)) (jwS V (D3 + 1) n n2 X X2 ⟨#[82, 48]⟩ tn fa fb f)) (fun _ => undef) (by kernel_rfl) (ch_start jwC_lt (show Below V.heap.size V _ from (Below.refl _ _).trans ⟨rfl, rfl, rfl, Nat.le_refl _, fun _ _ => rfl⟩)) ?h12
        case h12 =>
          intro FF hFF
          simp only [List.set_cons_succ, List.set_cons_zero] at hFF
          subst hFF
          refine ⟨rfl, ?_, ?_⟩
          refine ⟨?_, ?_⟩
          · refine SlotStep.chC rfl 0 (by decide) rfl jwC_inj (.inl rfl) (fun _ => trivial) ?_
            intro ys W hS hd K hK
            have hS0 : Below V.heap.size V W := hS
            go_simp
            have hK2 := hK (.slice (some ⟨W.heap.size, 0, none⟩) 0 0) _ ⟨hS0.alloc hS0.size (.cells #[] 3), own_empty W _ hS0.size⟩
            simp (config := { decide := true }) only [upd, if_true, if_false] at hK2
            exact hK2
          refine ⟨?_, ?_⟩
          · refine SlotStep.chP rfl jwC_1 jwS_1 ?_
            intro k ys W hS hd K hK
            go_simp
            have hK2 := hK (.pointer (some ⟨EA, 5, none⟩)) rfl
            simp (config := { decide := true }) only [upd, if_true, if_false] at hK2
            exact hK2
          refine ⟨?_, ?_⟩
          · refine SlotStep.chP rfl jwC_2 jwS_2 ?_
            intro k ys W hS hd K hK
            have dd1 : ys 1 = .pointer (some ⟨EA, 5, none⟩) := hd 1 (by kernel_rfl) (by decide)
            have hl := (jw_read (by omega) k ys W hS _ lt_A).trans cAV.out
            have c5 := cell6_5 hl
            clear hl
            go_simp
            have hK2 := hK (.slice (some ⟨g, o, none⟩) n rc) rfl
            simp (config := { decide := true }) only [upd, if_true, if_false, dd1] at hK2
            exact hK2
          refine ⟨?_, ?_⟩
          · refine SlotStep.chC rfl 1 (by decide) rfl jwC_inj (.inr (by kernel_rfl)) (fun _ => trivial) ?_
            intro ys W hS hd K hK
            obtain ⟨hb, hown⟩ : Below V.heap.size V W ∧ W.ownsRow V.heap.size 3 1 (ys 0) 0 ([]) := hS
            have dd2 : ys 2 = (.slice (some ⟨g, o, none⟩) n rc) := hd 2 (by kernel_rfl) (by decide)
            have HN := Lib.hid (HWA.out.below hb)
            refine step_append_own rfl _ _ 24 rfl V.heap.size 3 i0 (.int .i64 0) 1 8 Tryz.underlying24 hi0 hz0 hz1 hz2 rfl (by decide) (ys 0) 0 _ (by simp [Act.eval]) hown ⟨g, o, none⟩ n rc (rowL X n) (by simp [Act.eval, dd2]) (by rw [rowL_len, Nat.mul_one]) (wd_news HN.out) row_one (by unfold maxLen; omega) (by omega) hb.size ?_
            intro v' w6 hown' hgrow _
            have hg6 := grown_below0 hb.size hown hgrow
            have HO := Lib.hid (And.intro (hb.trans hg6) hown')
            clear hown hown' hgrow hg6
            go_simp
            have hK2 := hK v' w6 ⟨HO.out.1, by first | exact HO.out.2 | simpa [upd] using HO.out.2⟩
            simp (config := { decide := true }) only [upd, if_true, if_false, dd2] at hK2
            exact hK2
          refine ⟨?_, ?_⟩
          · refine SlotStep.chP rfl jwC_4 jwS_4 ?_
            intro k ys W hS hd K hK
            go_simp
            have hK2 := hK (.pointer (some ⟨EB, 5, none⟩)) rfl
            simp (config := { decide := true }) only [upd, if_true, if_false] at hK2
            exact hK2
          refine ⟨?_, ?_⟩
          · refine SlotStep.chP rfl jwC_5 jwS_5 ?_
            intro k ys W hS hd K hK
            have dd4 : ys 4 = .pointer (some ⟨EB, 5, none⟩) := hd 4 (by kernel_rfl) (by decide)
            have hl := (jw_read (by omega) k ys W hS _ lt_B).trans cBV.out
            have c5 := cell6_5 hl
            clear hl
            go_simp
            have hK2 := hK (.slice (some ⟨g2, o2, none⟩) n2 rc2) rfl
            simp (config := { decide := true }) only [upd, if_true, if_false, dd4] at hK2
            exact hK2
          refine ⟨?_, ?_⟩
          · refine SlotStep.chC rfl 2 (by decide) rfl jwC_inj (.inr (by kernel_rfl)) (fun _ => trivial) ?_
            intro ys W hS hd K hK
            obtain ⟨hb, hown⟩ : Below V.heap.size V W ∧ W.ownsRow V.heap.size 3 1 (ys 3) n (rowL X n) := hS
            have dd5 : ys 5 = (.slice (some ⟨g2, o2, none⟩) n2 rc2) := hd 5 (by kernel_rfl) (by decide)
            have HN := Lib.hid (HWB.out.below hb)
            refine step_append_own rfl _ _ 24 rfl V.heap.size 3 i0 (.int .i64 0) 1 8 Tryz.underlying24 hi0 hz0 hz1 hz2 rfl (by decide) (ys 3) n _ (by simp [Act.eval]) hown ⟨g2, o2, none⟩ n2 rc2 (rowL X2 n2) (by simp [Act.eval, dd5]) (by rw [rowL_len, Nat.mul_one]) (wd_news HN.out) row_one (by unfold maxLen; omega) (by omega) hb.size ?_
            intro v' w6 hown' hgrow _
            have hg6 := grown_below0 hb.size hown hgrow
            have HO := Lib.hid (And.intro (hb.trans hg6) hown')
            clear hown hown' hgrow hg6
            go_simp
            have hK2 := hK v' w6 ⟨HO.out.1, by first | exact HO.out.2 | simpa [upd] using HO.out.2⟩
            simp (config := { decide := true }) only [upd, if_true, if_false, dd5] at hK2
            exact hK2
          refine ⟨?_, ?_⟩
          · refine SlotStep.chP rfl jwC_7 jwS_7 ?_
            intro k ys W hS hd K hK
            go_simp
            have hK2 := hK (.pointer (some ⟨(D3 + 1), 5, none⟩)) rfl
            simp (config := { decide := true }) only [upd, if_true, if_false] at hK2
            exact hK2
          refine ⟨?_, ?_⟩
          · refine SlotStep.chC rfl 3 (by decide) rfl jwC_inj (.inr (by kernel_rfl)) (fun _ => trivial) ?_
            intro ys W hS hd K hK
            obtain ⟨hb, hown⟩ : Below V.heap.size V W ∧ W.ownsRow V.heap.size 3 1 (ys 6) (n + n2) (rowL X n ++ rowL X2 n2) := hS
            have dd7 : ys 7 = .pointer (some ⟨(D3 + 1), 5, none⟩) := hd 7 (by kernel_rfl) (by decide)
            obtain ⟨sr, sm, cr, dd6, hown2⟩ := owns_open (Nat.le_refl _) hown
            obtain rfl := own_len hown2
            have hl := (hb.block (D3 + 1) hEV).trans cTV.out
            obtain ⟨c0, c1, c2, c3, c4, c5⟩ := cell6_at hl
            obtain ⟨r0, r1, r2, r3, r4, r5⟩ := free6_at hl
            have HO := Lib.hid (And.intro hb (And.intro hown2 hl))
            clear hb hown hown2 hl
            go_simp
            have hK2 := hK undef _ ⟨sr, cr, (HO.out.1.mono (show (D3 + 1) ≤ V.heap.size by omega)).setCell (p := ⟨(D3 + 1), 5, none⟩) (Nat.le_refl _) _, set6_5 HO.out.2.2, owns_set HO.out.2.1 hEV⟩
            simp (config := { decide := true }) only [upd, if_true, if_false, dd6, dd7] at hK2
            exact hK2
          trivial
          · intro L6 ys6 U2 hL6 hI6
            obtain ⟨⟨sr, cr, hbU2, cTU, hownU⟩, _⟩ := ch_end jwC_lt hL6 hI6
            generalize ys6 0 = u0 at *
            generalize ys6 1 = u1 at *
            generalize ys6 2 = u2 at *
            generalize ys6 3 = u3 at *
            generalize ys6 4 = u4 at *
            generalize ys6 5 = u5 at *
            generalize ys6 6 = u6 at *
            generalize ys6 7 = u7 at *
            have hw_U2 : Below D3 v4 U2 := HwV.out.trans (hbU2.mono (by have := HwV.out.size; omega))
            have cAU := (hbU2.block EA lt_A).trans cAV.out
            have cBU := (hbU2.block EB lt_B).trans cBV.out
            have cJU := (hbU2.block D3 lt_J).trans cJV.out
            have hwT : Wd U2 (.slice sr (n + n2) cr) (n + n2) (fun k => if k < n then X k else X2 (k - n)) := wd_of hownU (fun k hk => rowL_two X2 X n n2 k hk)
            clear hL6 hI6 hbU2 hownU cAV cBV cJV cTV HwV HWA HWB HEV hEV
            have hT4 := Lib.hid hwT
            clear hwT
            have hA4 := Lib.hid (hA3.out.below (by first | exact hw_U2 | (rw [hD3]; exact hw_U2)))
            clear hA3
            have hB4 := Lib.hid (hB3.out.below (by first | exact hw_U2 | (rw [hD3]; exact hw_U2)))
            clear hB3
            have hJ4 := Lib.hid (hJ3.out.below (by first | exact hw_U2 | (rw [hD3]; exact hw_U2)))
            clear hJ3
            obtain ⟨D4, hD4⟩ : ∃ D, U2.heap.size = D := ⟨_, rfl⟩
            have G234 : Gi U2 := G23.below (by first | exact hw_U2 | (rw [hD3]; exact hw_U2))
            have HB4 := Lib.hid (hw_U2)
            clear hw_U2
            clear G23
            have ld7 : U2.heap[EA]? = some (.cells #[.string ⟨#[82, 48]⟩, .string tn, .int .i64 fa, .int .i64 fb, .int .i64 f, .slice (some ⟨g, o, none⟩) n rc] 26) := cAU
            have y7_0 := cell6_0 ld7
            have y7_1 := cell6_1 ld7
            have y7_2 := cell6_2 ld7
            have y7_3 := cell6_3 ld7
            have y7_4 := cell6_4 ld7
            have y7_5 := cell6_5 ld7
            clear ld7
            have W10 : Wd U2 (.slice (some ⟨g, o, none⟩) n rc) n X := hA4.out.below (by first | exact (Below.refl _ U2) | (rw [hD4]; exact (Below.refl _ U2)))
            go_wp2_with fail
            refine (TA.out _ _ W10).mono ?_
            rintro e v8 ⟨rfl, hb_v8⟩
            have cA_v8 : v8.heap[EA]? = some (.cells #[.string ⟨#[82, 48]⟩, .string tn, .int .i64 fa, .int .i64 fb, .int .i64 f, .slice (some ⟨g, o, none⟩) n rc] 26) := (hb_v8.block (EA) (Array.getElem?_eq_some_iff.1 (show U2.heap[EA]? = some (.cells #[.string ⟨#[82, 48]⟩, .string tn, .int .i64 fa, .int .i64 fb, .int .i64 f, .slice (some ⟨g, o, none⟩) n rc] 26) from cAU)).1).trans cAU
            have cB_v8 : v8.heap[EB]? = some (.cells #[.string ⟨#[82, 49]⟩, .string tn, .int .i64 fa, .int .i64 fb, .int .i64 (f + n), .slice (some ⟨g2, o2, none⟩) n2 rc2] 26) := (hb_v8.block (EB) (Array.getElem?_eq_some_iff.1 (show U2.heap[EB]? = some (.cells #[.string ⟨#[82, 49]⟩, .string tn, .int .i64 fa, .int .i64 fb, .int .i64 (f + n), .slice (some ⟨g2, o2, none⟩) n2 rc2] 26) from cBU)).1).trans cBU
            have cJ_v8 : v8.heap[D3]? = some (.cells #[.string ⟨#[82, 48]⟩, .string tn, .int .i64 fa, .int .i64 fb, .int .i64 f, .slice sj (n + n2) cj] 26) := (hb_v8.block (D3) (Array.getElem?_eq_some_iff.1 (show U2.heap[D3]? = some (.cells #[.string ⟨#[82, 48]⟩, .string tn, .int .i64 fa, .int .i64 fb, .int .i64 f, .slice sj (n + n2) cj] 26) from cJU)).1).trans cJU
            have cT_v8 : v8.heap[D3 + 1]? = some (.cells #[.string ⟨#[82, 48]⟩, .string tn, .int .i64 fa, .int .i64 fb, .int .i64 f, .slice sr (n + n2) cr] 26) := (hb_v8.block (D3 + 1) (Array.getElem?_eq_some_iff.1 (show U2.heap[D3 + 1]? = some (.cells #[.string ⟨#[82, 48]⟩, .string tn, .int .i64 fa, .int .i64 fb, .int .i64 f, .slice sr (n + n2) cr] 26) from cTU)).1).trans cTU
            have hw_v8 : Below D4 U2 v8 := ((Below.refl _ U2)).trans (hb_v8.mono (by first | omega | (simp; omega)))
            clear cAU cBU cJU cTU hb_v8 y7_0 y7_1 y7_2 y7_3 y7_4 y7_5 W10
            have ld9 : v8.heap[EB]? = some (.cells #[.string ⟨#[82, 49]⟩, .string tn, .int .i64 fa, .int .i64 fb, .int .i64 (f + n), .slice (some ⟨g2, o2, none⟩) n2 rc2] 26) := cB_v8
            have y9_0 := cell6_0 ld9
            have y9_1 := cell6_1 ld9
            have y9_2 := cell6_2 ld9
            have y9_3 := cell6_3 ld9
            have y9_4 := cell6_4 ld9
            have y9_5 := cell6_5 ld9
            clear ld9
            have W11 : Wd v8 (.slice (some ⟨g2, o2, none⟩) n2 rc2) n2 X2 := hB4.out.below (by first | exact hw_v8 | (rw [hD4]; exact hw_v8))
            go_wp2_with fail
            refine (TB.out _ _ W11).mono ?_
            rintro e v10 ⟨rfl, hb_v10⟩
            have hs_v10 := hw_v8.size
            have cA_v10 : v10.heap[EA]? = some (.cells #[.string ⟨#[82, 48]⟩, .string tn, .int .i64 fa, .int .i64 fb, .int .i64 f, .slice (some ⟨g, o, none⟩) n rc] 26) := (hb_v10.block (EA) (Array.getElem?_eq_some_iff.1 (show v8.heap[EA]? = some (.cells #[.string ⟨#[82, 48]⟩, .string tn, .int .i64 fa, .int .i64 fb, .int .i64 f, .slice (some ⟨g, o, none⟩) n rc] 26) from cA_v8)).1).trans cA_v8
            have cB_v10 : v10.heap[EB]? = some (.cells #[.string ⟨#[82, 49]⟩, .string tn, .int .i64 fa, .int .i64 fb, .int .i64 (f + n), .slice (some ⟨g2, o2, none⟩) n2 rc2] 26) := (hb_v10.block (EB) (Array.getElem?_eq_some_iff.1 (show v8.heap[EB]? = some (.cells #[.string ⟨#[82, 49]⟩, .string tn, .int .i64 fa, .int .i64 fb, .int .i64 (f + n), .slice (some ⟨g2, o2, none⟩) n2 rc2] 26) from cB_v8)).1).trans cB_v8
            have cJ_v10 : v10.heap[D3]? = some (.cells #[.string ⟨#[82, 48]⟩, .string tn, .int .i64 fa, .int .i64 fb, .int .i64 f, .slice sj (n + n2) cj] 26) := (hb_v10.block (D3) (Array.getElem?_eq_some_iff.1 (show v8.heap[D3]? = some (.cells #[.string ⟨#[82, 48]⟩, .string tn, .int .i64 fa, .int .i64 fb, .int .i64 f, .slice sj (n + n2) cj] 26) from cJ_v8)).1).trans cJ_v8
            have cT_v10 : v10.heap[D3 + 1]? = some (.cells #[.string ⟨#[82, 48]⟩, .string tn, .int .i64 fa, .int .i64 fb, .int .i64 f, .slice sr (n + n2) cr] 26) := (hb_v10.block (D3 + 1) (Array.getElem?_eq_some_iff.1 (show v8.heap[D3 + 1]? = some (.cells #[.string ⟨#[82, 48]⟩, .string tn, .int .i64 fa, .int .i64 fb, .int .i64 f, .slice sr (n + n2) cr] 26) from cT_v8)).1).trans cT_v8
            have hw_v10 : Below D4 U2 v10 := (hw_v8).trans (hb_v10.mono (by first | omega | (simp; omega)))
            clear cA_v8 cB_v8 cJ_v8 cT_v8 hb_v10 y9_0 y9_1 y9_2 y9_3 y9_4 y9_5 W11 hw_v8 hs_v10
            have ld11 : v10.heap[D3]? = some (.cells #[.string ⟨#[82, 48]⟩, .string tn, .int .i64 fa, .int .i64 fb, .int .i64 f, .slice sj (n + n2) cj] 26) := cJ_v10
            have y11_0 := cell6_0 ld11
            have y11_1 := cell6_1 ld11
            have y11_2 := cell6_2 ld11
            have y11_3 := cell6_3 ld11
            have y11_4 := cell6_4 ld11
            have y11_5 := cell6_5 ld11
            clear ld11
            have W12 : Wd v10 (.slice sj (n + n2) cj) (n + n2) (fun k => if k < n then X k else X2 (k - n)) := hJ4.out.below (by first | exact hw_v10 | (rw [hD4]; exact hw_v10))
            go_wp2_with fail
            refine (TJ.out _ _ W12).mono ?_
            rintro e v12 ⟨rfl, hb_v12⟩
            have hs_v12 := hw_v10.size
            have cA_v12 : v12.heap[EA]? = some (.cells #[.string ⟨#[82, 48]⟩, .string tn, .int .i64 fa, .int .i64 fb, .int .i64 f, .slice (some ⟨g, o, none⟩) n rc] 26) := (hb_v12.block (EA) (Array.getElem?_eq_some_iff.1 (show v10.heap[EA]? = some (.cells #[.string ⟨#[82, 48]⟩, .string tn, .int .i64 fa, .int .i64 fb, .int .i64 f, .slice (some ⟨g, o, none⟩) n rc] 26) from cA_v10)).1).trans cA_v10
            have cB_v12 : v12.heap[EB]? = some (.cells #[.string ⟨#[82, 49]⟩, .string tn, .int .i64 fa, .int .i64 fb, .int .i64 (f + n), .slice (some ⟨g2, o2, none⟩) n2 rc2] 26) := (hb_v12.block (EB) (Array.getElem?_eq_some_iff.1 (show v10.heap[EB]? = some (.cells #[.string ⟨#[82, 49]⟩, .string tn, .int .i64 fa, .int .i64 fb, .int .i64 (f + n), .slice (some ⟨g2, o2, none⟩) n2 rc2] 26) from cB_v10)).1).trans cB_v10
            have cJ_v12 : v12.heap[D3]? = some (.cells #[.string ⟨#[82, 48]⟩, .string tn, .int .i64 fa, .int .i64 fb, .int .i64 f, .slice sj (n + n2) cj] 26) := (hb_v12.block (D3) (Array.getElem?_eq_some_iff.1 (show v10.heap[D3]? = some (.cells #[.string ⟨#[82, 48]⟩, .string tn, .int .i64 fa, .int .i64 fb, .int .i64 f, .slice sj (n + n2) cj] 26) from cJ_v10)).1).trans cJ_v10
            have cT_v12 : v12.heap[D3 + 1]? = some (.cells #[.string ⟨#[82, 48]⟩, .string tn, .int .i64 fa, .int .i64 fb, .int .i64 f, .slice sr (n + n2) cr] 26) := (hb_v12.block (D3 + 1) (Array.getElem?_eq_some_iff.1 (show v10.heap[D3 + 1]? = some (.cells #[.string ⟨#[82, 48]⟩, .string tn, .int .i64 fa, .int .i64 fb, .int .i64 f, .slice sr (n + n2) cr] 26) from cT_v10)).1).trans cT_v10
            have hw_v12 : Below D4 U2 v12 := (hw_v10).trans (hb_v12.mono (by first | omega | (simp; omega)))
            clear cA_v10 cB_v10 cJ_v10 cT_v10 hb_v12 y11_0 y11_1 y11_2 y11_3 y11_4 y11_5 W12 hw_v10 hs_v12
            have ld13 : v12.heap[D3]? = some (.cells #[.string ⟨#[82, 48]⟩, .string tn, .int .i64 fa, .int .i64 fb, .int .i64 f, .slice sj (n + n2) cj] 26) := cJ_v12
            have y13_0 := cell6_0 ld13
            have y13_1 := cell6_1 ld13
            have y13_2 := cell6_2 ld13
            have y13_3 := cell6_3 ld13
            have y13_4 := cell6_4 ld13
            have y13_5 := cell6_5 ld13
            clear ld13
            have ld14 : v12.heap[D3 + 1]? = some (.cells #[.string ⟨#[82, 48]⟩, .string tn, .int .i64 fa, .int .i64 fb, .int .i64 f, .slice sr (n + n2) cr] 26) := cT_v12
            have y14_0 := cell6_0 ld14
            have y14_1 := cell6_1 ld14
            have y14_2 := cell6_2 ld14
            have y14_3 := cell6_3 ld14
            have y14_4 := cell6_4 ld14
            have y14_5 := cell6_5 ld14
            clear ld14
            have W13 : Wd v12 (.slice sj (n + n2) cj) (n + n2) (fun k => if k < n then X k else X2 (k - n)) := hJ4.out.below (by first | exact hw_v12 | (rw [hD4]; exact hw_v12))
            have W14 : Wd v12 (.slice sr (n + n2) cr) (n + n2) (fun k => if k < n then X k else X2 (k - n)) := hT4.out.below (by first | exact hw_v12 | (rw [hD4]; exact hw_v12))
            go_wp2_with fail
            refine (SJ.out _ _ _ W13 W14).mono ?_
            rintro e v15 ⟨rfl, hb_v15⟩
            have hs_v15 := hw_v12.size
            have cA_v15 : v15.heap[EA]? = some (.cells #[.string ⟨#[82, 48]⟩, .string tn, .int .i64 fa, .int .i64 fb, .int .i64 f, .slice (some ⟨g, o, none⟩) n rc] 26) := (hb_v15.block (EA) (Array.getElem?_eq_some_iff.1 (show v12.heap[EA]? = some (.cells #[.string ⟨#[82, 48]⟩, .string tn, .int .i64 fa, .int .i64 fb, .int .i64 f, .slice (some ⟨g, o, none⟩) n rc] 26) from cA_v12)).1).trans cA_v12
            have cB_v15 : v15.heap[EB]? = some (.cells #[.string ⟨#[82, 49]⟩, .string tn, .int .i64 fa, .int .i64 fb, .int .i64 (f + n), .slice (some ⟨g2, o2, none⟩) n2 rc2] 26) := (hb_v15.block (EB) (Array.getElem?_eq_some_iff.1 (show v12.heap[EB]? = some (.cells #[.string ⟨#[82, 49]⟩, .string tn, .int .i64 fa, .int .i64 fb, .int .i64 (f + n), .slice (some ⟨g2, o2, none⟩) n2 rc2] 26) from cB_v12)).1).trans cB_v12
            have cJ_v15 : v15.heap[D3]? = some (.cells #[.string ⟨#[82, 48]⟩, .string tn, .int .i64 fa, .int .i64 fb, .int .i64 f, .slice sj (n + n2) cj] 26) := (hb_v15.block (D3) (Array.getElem?_eq_some_iff.1 (show v12.heap[D3]? = some (.cells #[.string ⟨#[82, 48]⟩, .string tn, .int .i64 fa, .int .i64 fb, .int .i64 f, .slice sj (n + n2) cj] 26) from cJ_v12)).1).trans cJ_v12
            have cT_v15 : v15.heap[D3 + 1]? = some (.cells #[.string ⟨#[82, 48]⟩, .string tn, .int .i64 fa, .int .i64 fb, .int .i64 f, .slice sr (n + n2) cr] 26) := (hb_v15.block (D3 + 1) (Array.getElem?_eq_some_iff.1 (show v12.heap[D3 + 1]? = some (.cells #[.string ⟨#[82, 48]⟩, .string tn, .int .i64 fa, .int .i64 fb, .int .i64 f, .slice sr (n + n2) cr] 26) from cT_v12)).1).trans cT_v12
            have hw_v15 : Below D4 U2 v15 := (hw_v12).trans (hb_v15.mono (by first | omega | (simp; omega)))
            clear cA_v12 cB_v12 cJ_v12 cT_v12 hb_v15 y13_0 y13_1 y13_2 y13_3 y13_4 y13_5 y14_0 y14_1 y14_2 y14_3 y14_4 y14_5 W13 W14 hw_v12 hs_v15
            have HW := Lib.hid (show Below D w (v15) from (HB2.out.trans (((HB3.out.trans (((HB4.out.trans ((hw_v15).mono (by first | exact HB4.out.size | (have := HB4.out.size; simp only [hD] at *; omega) | (have := HB4.out.size; omega))))).mono (by first | exact HB3.out.size | (have := HB3.out.size; simp only [hD] at *; omega) | (have := HB3.out.size; omega))))).mono (by first | exact HB2.out.size | (have := HB2.out.size; simp only [hD] at *; omega) | (have := HB2.out.size; omega)))))
            go_wp2
            go_ret
            exact ⟨rfl, by first | exact HW.out | (rw [hD]; exact HW.out)⟩

set_option maxRecDepth 100000 in
set_option maxHeartbeats 4000000 in
theorem joins_walk_t (t ft f p w0 w1 w2 w3 w4 : Int) (bt : 0 ≤ t ∧ t ≤ 255) (bft : 0 ≤ ft ∧ ft ≤ 255) (bf : -128 ≤ f ∧ f ≤ 127) (bp : 0 ≤ p ∧ p ≤ 255) (b0 : 0 ≤ w0 ∧ w0 ≤ 255) (b1 : 0 ≤ w1 ∧ w1 ≤ 255) (b2 : 0 ≤ w2 ∧ w2 ≤ 255) (b3 : 0 ≤ w3 ∧ w3 ≤ 255) (b4 : 0 ≤ w4 ∧ w4 ≤ 255) (t2 ft2 f2 p2 w02 w12 w22 w32 w42 : Int) (bt2 : 0 ≤ t2 ∧ t2 ≤ 255) (bft2 : 0 ≤ ft2 ∧ ft2 ≤ 255) (bf2 : -128 ≤ f2 ∧ f2 ≤ 127) (bp2 : 0 ≤ p2 ∧ p2 ≤ 255) (b02 : 0 ≤ w02 ∧ w02 ≤ 255) (b12 : 0 ≤ w12 ∧ w12 ≤ 255) (b22 : 0 ≤ w22 ∧ w22 ≤ 255) (b32 : 0 ≤ w32 ∧ w32 ≤ 255) (b42 : 0 ≤ w42 ∧ w42 ≤ 255) (w : World) (G : Gi w) :
    Calls Tryz.prog 9 #[.agg #[.int .u8 t, .int .u8 ft, .int .i8 f, .int .u8 p, .int .u8 w0, .int .u8 w1, .int .u8 w2, .int .u8 w3, .int .u8 w4], .agg #[.int .u8 t2, .int .u8 ft2, .int .i8 f2, .int .u8 p2, .int .u8 w02, .int .u8 w12, .int .u8 w22, .int .u8 w32, .int .u8 w42], .bool true] w fun e w' => e = .returned (.bool true) ∧ Below w.heap.size w w' := by
  obtain ⟨j, hj, hx⟩ := feet_rem ft bft
  obtain ⟨tm, h3, htm⟩ := plan_tone bt
  obtain ⟨q, hq25, hq⟩ := plan_num bp
  obtain ⟨n, hn⟩ : ∃ n, q + 1 = n := ⟨_, rfl⟩
  obtain ⟨fa, hfa⟩ : ∃ a, (feetF j).1 = a := ⟨_, rfl⟩
  obtain ⟨fb, hfb⟩ : ∃ a, (feetF j).2 = a := ⟨_, rfl⟩
  obtain ⟨tn, htn⟩ : ∃ a, toneB tm = a := ⟨_, rfl⟩
  obtain ⟨X, hX⟩ : ∃ a, xw w0 w1 w2 w3 w4 = a := ⟨_, rfl⟩
  have MK := Lib.hid (fun W => make_t0 t ft f p w0 w1 w2 w3 w4 bt bft bf bp b0 b1 b2 b3 b4 j tm q hj hx h3 htm hq25 hq W)
  have hpk := feetF_pk j hj
  have hnt := tone_name tm h3
  have hXb := fun k => xw_bd b0 b1 b2 b3 b4 k
  have ts := tone_size tm h3
  rw [hfa, hfb, htn, hn, hX] at MK
  rw [hfa, hfb] at hpk
  rw [htn] at hnt ts
  rw [hX] at hXb
  have hn1 : 1 ≤ n ∧ n ≤ 25 := by omega
  have hz : rkE ⟨#[82, 48]⟩ tn fa fb f n X = 0 := rk_of (by decide +kernel) hnt hpk (by omega) (by omega) (by omega) (fun k _ => by have := hXb k; omega)
  have ns : n ≤ 1099511627776 := by omega
  clear hj hx htm hq hfa hfb htn hX h3 hn hnt hq25 bt bft bp b0 b1 b2 b3 b4
  obtain ⟨j2, hj2, hx2⟩ := feet_rem ft2 bft2
  obtain ⟨tm2, h32, htm2⟩ := plan_tone bt2
  obtain ⟨q2, hq252, hq2⟩ := plan_num bp2
  obtain ⟨n2, hn2⟩ : ∃ n, q2 + 1 = n := ⟨_, rfl⟩
  obtain ⟨fa2, hfa2⟩ : ∃ a, (feetF j2).1 = a := ⟨_, rfl⟩
  obtain ⟨fb2, hfb2⟩ : ∃ a, (feetF j2).2 = a := ⟨_, rfl⟩
  obtain ⟨tn2, htn2⟩ : ∃ a, toneB tm2 = a := ⟨_, rfl⟩
  obtain ⟨X2, hX2⟩ : ∃ a, xw w02 w12 w22 w32 w42 = a := ⟨_, rfl⟩
  have MK2 := Lib.hid (fun W => make_t1 t2 ft2 f2 p2 w02 w12 w22 w32 w42 bt2 bft2 bf2 bp2 b02 b12 b22 b32 b42 j2 tm2 q2 hj2 hx2 h32 htm2 hq252 hq2 W)
  have hpk2 := feetF_pk j2 hj2
  have hnt2 := tone_name tm2 h32
  have hXb2 := fun k => xw_bd b02 b12 b22 b32 b42 k
  have ts2 := tone_size tm2 h32
  rw [hfa2, hfb2, htn2, hn2, hX2] at MK2
  rw [hfa2, hfb2] at hpk2
  rw [htn2] at hnt2 ts2
  rw [hX2] at hXb2
  have hn12 : 1 ≤ n2 ∧ n2 ≤ 25 := by omega
  have hz2 : rkE ⟨#[82, 49]⟩ tn2 fa2 fb2 f2 n2 X2 = 0 := rk_of (by decide +kernel) hnt2 hpk2 (by omega) (by omega) (by omega) (fun k _ => by have := hXb2 k; omega)
  have ns2 : n2 ≤ 1099511627776 := by omega
  clear hj2 hx2 htm2 hq2 hfa2 hfb2 htn2 hX2 h32 hn2 hnt2 hq252 bt2 bft2 bp2 b02 b12 b22 b32 b42
  obtain ⟨z1, z2, z3, hf, hn0, hn128, hx⟩ := rk_ok hz
  obtain ⟨y1, y2, y3, hf2, hn02, hn1282, hx2⟩ := rk_ok hz2
  have hzH : rkE ⟨#[82, 49]⟩ tn2 fa2 fb2 (f + n) n2 X2 = 0 := rk_of y1 y2 y3 (by omega) hn02 hn1282 hx2
  obtain ⟨Nm, Tn, A, B, Fv, mm, Y, ev, hJN, hcase⟩ := join_any ⟨#[82, 48]⟩ tn fa fb f n X ⟨#[82, 49]⟩ tn2 fa2 fb2 (f + n) n2 X2 (by decide) ts (by omega) (by decide) ts2 (by omega) hz hzH
  have KN := Lib.hid (fun W G => known_c W G)
  have JN := Lib.hid hJN
  have TA := Lib.hid (fun v W h => total_ok ⟨#[82, 48]⟩ tn fa fb f v n X (by decide) ts ns hz W h)
  have TB := Lib.hid (fun v W h => total_ok ⟨#[82, 49]⟩ tn2 fa2 fb2 (f + n) v n2 X2 (by decide) ts2 ns2 hzH W h)
  have SZ := Lib.hid (fun va vb W h h' => same_wd ⟨#[]⟩ ⟨#[]⟩ 0 0 0 0 X X (by omega) (fun _ _ => rfl) va vb W h h')
  have HT := Lib.hid (And.intro (And.intro z1 (And.intro z2 z3)) (And.intro hx hx2))
  have HC := Lib.hid hcase
  clear hJN hcase hz hz2 hzH ns ns2 hpk hpk2 hXb hXb2 hn0 hn02 z1 z2 z3 y1 y2 y3 hx hx2
  have q1 := wrap_in (q := f + (n : Int)) (by omega) (by omega)
  obtain ⟨D, hD⟩ : ∃ D, w.heap.size = D := ⟨_, rfl⟩
  go_enter Tryz.func9, Tryz.ntmps9
  have G15 : Gi ((w.alloc (.cells #[.int .u8 t, .int .u8 ft, .int .i8 f, .int .u8 p, .int .u8 w0, .int .u8 w1, .int .u8 w2, .int .u8 w3, .int .u8 w4] 47)).alloc (.cells #[.int .u8 t2, .int .u8 ft2, .int .i8 f2, .int .u8 p2, .int .u8 w02, .int .u8 w12, .int .u8 w22, .int .u8 w32, .int .u8 w42] 47)) := G.below (by first | exact (((Below.refl _ w).alloc (by first | omega | (simp; omega)) (.cells #[.int .u8 t, .int .u8 ft, .int .i8 f, .int .u8 p, .int .u8 w0, .int .u8 w1, .int .u8 w2, .int .u8 w3, .int .u8 w4] 47)).alloc (by first | omega | (simp; omega)) (.cells #[.int .u8 t2, .int .u8 ft2, .int .i8 f2, .int .u8 p2, .int .u8 w02, .int .u8 w12, .int .u8 w22, .int .u8 w32, .int .u8 w42] 47)) | (rw [hD]; exact (((Below.refl _ w).alloc (by first | omega | (simp; omega)) (.cells #[.int .u8 t, .int .u8 ft, .int .i8 f, .int .u8 p, .int .u8 w0, .int .u8 w1, .int .u8 w2, .int .u8 w3, .int .u8 w4] 47)).alloc (by first | omega | (simp; omega)) (.cells #[.int .u8 t2, .int .u8 ft2, .int .i8 f2, .int .u8 p2, .int .u8 w02, .int .u8 w12, .int .u8 w22, .int .u8 w32, .int .u8 w42] 47))))
  go_wp2_with fail
  refine (KN.out _ G15).mono ?_
  rintro e v1 ⟨rfl, hb_v1⟩
  have cP_v1 : v1.heap[D]? = some (.cells #[.int .u8 t, .int .u8 ft, .int .i8 f, .int .u8 p, .int .u8 w0, .int .u8 w1, .int .u8 w2, .int .u8 w3, .int .u8 w4] 47) := (hb_v1.block (D) (Array.getElem?_eq_some_iff.1 (show ((w.alloc (.cells #[.int .u8 t, .int .u8 ft, .int .i8 f, .int .u8 p, .int .u8 w0, .int .u8 w1, .int .u8 w2, .int .u8 w3, .int .u8 w4] 47)).alloc (.cells #[.int .u8 t2, .int .u8 ft2, .int .i8 f2, .int .u8 p2, .int .u8 w02, .int .u8 w12, .int .u8 w22, .int .u8 w32, .int .u8 w42] 47)).heap[D]? = some (.cells #[.int .u8 t, .int .u8 ft, .int .i8 f, .int .u8 p, .int .u8 w0, .int .u8 w1, .int .u8 w2, .int .u8 w3, .int .u8 w4] 47) from (heap_old (o := .cells #[.int .u8 t2, .int .u8 ft2, .int .i8 f2, .int .u8 p2, .int .u8 w02, .int .u8 w12, .int .u8 w22, .int .u8 w32, .int .u8 w42] 47) (heap_new (by first | omega | (simp; omega)))))).1).trans (heap_old (o := .cells #[.int .u8 t2, .int .u8 ft2, .int .i8 f2, .int .u8 p2, .int .u8 w02, .int .u8 w12, .int .u8 w22, .int .u8 w32, .int .u8 w42] 47) (heap_new (by first | omega | (simp; omega))))
  have cQ_v1 : v1.heap[D + 1]? = some (.cells #[.int .u8 t2, .int .u8 ft2, .int .i8 f2, .int .u8 p2, .int .u8 w02, .int .u8 w12, .int .u8 w22, .int .u8 w32, .int .u8 w42] 47) := (hb_v1.block (D + 1) (Array.getElem?_eq_some_iff.1 (show ((w.alloc (.cells #[.int .u8 t, .int .u8 ft, .int .i8 f, .int .u8 p, .int .u8 w0, .int .u8 w1, .int .u8 w2, .int .u8 w3, .int .u8 w4] 47)).alloc (.cells #[.int .u8 t2, .int .u8 ft2, .int .i8 f2, .int .u8 p2, .int .u8 w02, .int .u8 w12, .int .u8 w22, .int .u8 w32, .int .u8 w42] 47)).heap[D + 1]? = some (.cells #[.int .u8 t2, .int .u8 ft2, .int .i8 f2, .int .u8 p2, .int .u8 w02, .int .u8 w12, .int .u8 w22, .int .u8 w32, .int .u8 w42] 47) from (heap_new (by first | omega | (simp; omega))))).1).trans (heap_new (by first | omega | (simp; omega)))
  have hw_v1 : Below D w v1 := ((((Below.refl _ w).alloc (by first | omega | (simp; omega)) (.cells #[.int .u8 t, .int .u8 ft, .int .i8 f, .int .u8 p, .int .u8 w0, .int .u8 w1, .int .u8 w2, .int .u8 w3, .int .u8 w4] 47)).alloc (by first | omega | (simp; omega)) (.cells #[.int .u8 t2, .int .u8 ft2, .int .i8 f2, .int .u8 p2, .int .u8 w02, .int .u8 w12, .int .u8 w22, .int .u8 w32, .int .u8 w42] 47))).trans (hb_v1.mono (by first | omega | (simp; omega)))
  clear hb_v1 G15
  obtain ⟨V1, hV1⟩ : ∃ V, v1 = V := ⟨_, rfl⟩
  subst hV1
  have HPV := Lib.hid cP_v1
  have HQV := Lib.hid cQ_v1
  have HBV := Lib.hid hw_v1
  have hDV := hw_v1.size
  have hQV := (Array.getElem?_eq_some_iff.1 cQ_v1).1
  clear cP_v1 cQ_v1 hw_v1
  go_upto_region 3 with fail
  refine wp_region_slots_at rfl rfl (fun base ys => (((((base.set 20 (ys 0)).set 21 (ys 1)).set 22 (ys 2)).set 23 (ys 3)).set 7 (ys 4)).set 8 (ys 5)) (TwoI _ 6 4 5 (Below v1.heap.size v1) (jnI v1.heap.size t ft f p w0 w1 w2 w3 w4 t2 ft2 f2 p2 w02 w12 w22 w32 w42 fa fb fa2 fb2 tn tn2 n n2 X X2) (fun ys A => ∃ EA EB ra rc ra2 rc2, ys 4 = .pointer (some ⟨EA, 0, none⟩) ∧ ys 5 = .pointer (some ⟨EB, 0, none⟩) ∧ ys 3 = .agg #[.string ⟨#[82, 49]⟩, .string tn2, .int .i64 fa2, .int .i64 fb2, .int .i64 f2, .slice ra2 n2 rc2] ∧ EA ≠ EB ∧ v1.heap.size ≤ EA ∧ v1.heap.size ≤ EB ∧ A.heap[EA]? = some (.cells #[.string ⟨#[82, 48]⟩, .string tn, .int .i64 fa, .int .i64 fb, .int .i64 f, .slice ra n rc] 26) ∧ A.heap[EB]? = some (.cells #[.string ⟨#[]⟩, .string ⟨#[]⟩, .int .i64 0, .int .i64 0, .int .i64 0, .slice none 0 0] 26) ∧ (Wd A (.slice ra n rc) n X ∧ WT A (.slice ra n rc)) ∧ (Wd A (.slice ra2 n2 rc2) n2 X2 ∧ WT A (.slice ra2 n2 rc2)) ∧ Below v1.heap.size v1 A) (fun ys A => ∃ EA EB ra rc ra2 rc2, ys 4 = .pointer (some ⟨EA, 0, none⟩) ∧ ys 5 = .pointer (some ⟨EB, 0, none⟩) ∧ EA ≠ EB ∧ v1.heap.size ≤ EA ∧ v1.heap.size ≤ EB ∧ A.heap[EA]? = some (.cells #[.string ⟨#[82, 48]⟩, .string tn, .int .i64 fa, .int .i64 fb, .int .i64 f, .slice ra n rc] 26) ∧ A.heap[EB]? = some (.cells #[.string ⟨#[82, 49]⟩, .string tn2, .int .i64 fa2, .int .i64 fb2, .int .i64 f2, .slice ra2 n2 rc2] 26) ∧ (Wd A (.slice ra n rc) n X ∧ WT A (.slice ra n rc)) ∧ (Wd A (.slice ra2 n2 rc2) n2 X2 ∧ WT A (.slice ra2 n2 rc2)) ∧ Below v1.heap.size v1 A)) (fun _ => undef) (by kernel_rfl) (tw_start (by decide) (by decide) ((Below.refl _ _).trans ⟨rfl, rfl, rfl, Nat.le_refl _, fun _ _ => rfl⟩)) ?h3
  case h3 =>
    intro FF hFF
    simp only [List.set_cons_succ, List.set_cons_zero] at hFF
    subst hFF
    refine ⟨rfl, ?_, ?_⟩
    refine ⟨?_, ?_⟩
    · refine SlotStep.twB rfl (by decide) (by decide) (by decide) (fun L hc h => (clo_at hc 1 0 rfl (by kernel_rfl) (clo_at hc 6 1 rfl (by kernel_rfl) h))) (fun L hc h => clo_at hc 7 6 rfl (by kernel_rfl) h) (fun A B hb h => h.trans (hb.mono h.size)) (jnI_up v1.heap.size t ft f p w0 w1 w2 w3 w4 t2 ft2 f2 p2 w02 w12 w22 w32 w42 fa fb fa2 fb2 tn tn2 n n2 X X2) ?_
      intro ys W hR hd K hK
      have hl := (hR.block (D) (Array.getElem?_eq_some_iff.1 HPV.out).1).trans HPV.out
      obtain ⟨c0, c1, c2, c3, c4, c5, c6, c7, c8⟩ := plan_cells hl
      clear hl
      go_simp
      have hK2 := hK (.agg #[.int .u8 t, .int .u8 ft, .int .i8 f, .int .u8 p, .int .u8 w0, .int .u8 w1, .int .u8 w2, .int .u8 w3, .int .u8 w4]) _ (Below.refl _ _) rfl
      simp (config := { decide := true }) only [upd, if_true, if_false] at hK2
      exact hK2
    refine ⟨?_, ?_⟩
    · refine SlotStep.twB rfl (by decide) (by decide) (by decide) (fun L hc h => (clo_at hc 6 1 rfl (by kernel_rfl) h)) (fun L hc h => clo_at hc 7 6 rfl (by kernel_rfl) h) (fun A B hb h => h.trans (hb.mono h.size)) (jnI_up v1.heap.size t ft f p w0 w1 w2 w3 w4 t2 ft2 f2 p2 w02 w12 w22 w32 w42 fa fb fa2 fb2 tn tn2 n n2 X X2) ?_
      intro ys W hR hd K hK
      have dd0 : ys 0 = (.agg #[.int .u8 t, .int .u8 ft, .int .i8 f, .int .u8 p, .int .u8 w0, .int .u8 w1, .int .u8 w2, .int .u8 w3, .int .u8 w4]) := hd 0 (by kernel_rfl) (by decide)
      go_simp
      refine (MK.out W).mono ?_
      rintro e w5 ⟨⟨v5, rfl, hm5, ht5⟩, hb5⟩; obtain ⟨ra, rc, rfl⟩ := hm5.len
      have hK2 := hK (.agg #[.string ⟨#[82, 48]⟩, .string tn, .int .i64 fa, .int .i64 fb, .int .i64 f, .slice ra n rc]) _ hb5 ⟨ra, rc, rfl, hm5, ht5⟩
      simp (config := { decide := true }) only [upd, if_true, if_false, dd0] at hK2
      exact hK2
    refine ⟨?_, ?_⟩
    · refine SlotStep.twB rfl (by decide) (by decide) (by decide) (fun L hc h => (clo_at hc 3 2 rfl (by kernel_rfl) (clo_at hc 6 3 rfl (by kernel_rfl) h))) (fun L hc h => clo_at hc 7 6 rfl (by kernel_rfl) h) (fun A B hb h => h.trans (hb.mono h.size)) (jnI_up v1.heap.size t ft f p w0 w1 w2 w3 w4 t2 ft2 f2 p2 w02 w12 w22 w32 w42 fa fb fa2 fb2 tn tn2 n n2 X X2) ?_
      intro ys W hR hd K hK
      have hl := (hR.block (D + 1) (Array.getElem?_eq_some_iff.1 HQV.out).1).trans HQV.out
      obtain ⟨c0, c1, c2, c3, c4, c5, c6, c7, c8⟩ := plan_cells hl
      clear hl
      go_simp
      have hK2 := hK (.agg #[.int .u8 t2, .int .u8 ft2, .int .i8 f2, .int .u8 p2, .int .u8 w02, .int .u8 w12, .int .u8 w22, .int .u8 w32, .int .u8 w42]) _ (Below.refl _ _) rfl
      simp (config := { decide := true }) only [upd, if_true, if_false] at hK2
      exact hK2
    refine ⟨?_, ?_⟩
    · refine SlotStep.twB rfl (by decide) (by decide) (by decide) (fun L hc h => (clo_at hc 6 3 rfl (by kernel_rfl) h)) (fun L hc h => clo_at hc 7 6 rfl (by kernel_rfl) h) (fun A B hb h => h.trans (hb.mono h.size)) (jnI_up v1.heap.size t ft f p w0 w1 w2 w3 w4 t2 ft2 f2 p2 w02 w12 w22 w32 w42 fa fb fa2 fb2 tn tn2 n n2 X X2) ?_
      intro ys W hR hd K hK
      have dd2 : ys 2 = (.agg #[.int .u8 t2, .int .u8 ft2, .int .i8 f2, .int .u8 p2, .int .u8 w02, .int .u8 w12, .int .u8 w22, .int .u8 w32, .int .u8 w42]) := hd 2 (by kernel_rfl) (by decide)
      go_simp
      refine (MK2.out W).mono ?_
      rintro e w5 ⟨⟨v5, rfl, hm5, ht5⟩, hb5⟩; obtain ⟨ra2, rc2, rfl⟩ := hm5.len
      have hK2 := hK (.agg #[.string ⟨#[82, 49]⟩, .string tn2, .int .i64 fa2, .int .i64 fb2, .int .i64 f2, .slice ra2 n2 rc2]) _ hb5 ⟨ra2, rc2, rfl, hm5, ht5⟩
      simp (config := { decide := true }) only [upd, if_true, if_false, dd2] at hK2
      exact hK2
    refine ⟨?_, ?_⟩
    · refine SlotStep.twA rfl (by decide) (by decide) (by decide) (by decide) (by decide) (jnI_new v1.heap.size t ft f p w0 w1 w2 w3 w4 t2 ft2 f2 p2 w02 w12 w22 w32 w42 fa fb fa2 fb2 tn tn2 n n2 X X2) (fun L hc h => (clo_at hc 6 4 rfl (by kernel_rfl) h)) (fun L hc h => clo_at hc 7 6 rfl (by kernel_rfl) h) (fun A B hb h => h.trans (hb.mono h.size)) (jnI_up v1.heap.size t ft f p w0 w1 w2 w3 w4 t2 ft2 f2 p2 w02 w12 w22 w32 w42 fa fb fa2 fb2 tn tn2 n n2 X X2) ?_
      intro ys W hR K hK
      go_simp
      have hK2 := hK _ ((Below.refl _ W).alloc (Nat.le_refl _) (.cells #[.string ⟨#[]⟩, .string ⟨#[]⟩, .int .i64 0, .int .i64 0, .int .i64 0, .slice none 0 0] 26)) ⟨_, rfl, hR.size, heap_new rfl⟩
      simp (config := { decide := true }) only [upd, if_true, if_false] at hK2
      exact hK2
    refine ⟨?_, ?_⟩
    · refine SlotStep.twA rfl (by decide) (by decide) (by decide) (by decide) (by decide) (jnI_new v1.heap.size t ft f p w0 w1 w2 w3 w4 t2 ft2 f2 p2 w02 w12 w22 w32 w42 fa fb fa2 fb2 tn tn2 n n2 X X2) (fun L hc h => (clo_at hc 6 5 rfl (by kernel_rfl) h)) (fun L hc h => clo_at hc 7 6 rfl (by kernel_rfl) h) (fun A B hb h => h.trans (hb.mono h.size)) (jnI_up v1.heap.size t ft f p w0 w1 w2 w3 w4 t2 ft2 f2 p2 w02 w12 w22 w32 w42 fa fb fa2 fb2 tn tn2 n n2 X X2) ?_
      intro ys W hR K hK
      go_simp
      have hK2 := hK _ ((Below.refl _ W).alloc (Nat.le_refl _) (.cells #[.string ⟨#[]⟩, .string ⟨#[]⟩, .int .i64 0, .int .i64 0, .int .i64 0, .slice none 0 0] 26)) ⟨_, rfl, hR.size, heap_new rfl⟩
      simp (config := { decide := true }) only [upd, if_true, if_false] at hK2
      exact hK2
    refine ⟨?_, ?_⟩
    · refine SlotStep.twS rfl rfl (by kernel_rfl) (by kernel_rfl) (fun L hc h => clo_at hc 7 6 rfl (by kernel_rfl) h) ?_
      intro ys W hR hd hne K hK
      obtain ⟨ra, rc, dd1, hwA⟩ : ∃ ra rc, ys 1 = .agg #[.string ⟨#[82, 48]⟩, .string tn, .int .i64 fa, .int .i64 fb, .int .i64 f, .slice ra n rc] ∧ Wd W (.slice ra n rc) n X ∧ WT W (.slice ra n rc) := hd 1 (by kernel_rfl) (by decide)
      obtain ⟨ra2, rc2, dd3, hwB⟩ : ∃ ra2 rc2, ys 3 = .agg #[.string ⟨#[82, 49]⟩, .string tn2, .int .i64 fa2, .int .i64 fb2, .int .i64 f2, .slice ra2 n2 rc2] ∧ Wd W (.slice ra2 n2 rc2) n2 X2 ∧ WT W (.slice ra2 n2 rc2) := hd 3 (by kernel_rfl) (by decide)
      obtain ⟨EA, dd4, hEA, hpA⟩ : ∃ E, ys 4 = .pointer (some ⟨E, 0, none⟩) ∧ v1.heap.size ≤ E ∧ W.heap[E]? = some (.cells #[.string ⟨#[]⟩, .string ⟨#[]⟩, .int .i64 0, .int .i64 0, .int .i64 0, .slice none 0 0] 26) := hd 4 (by kernel_rfl) (by decide)
      obtain ⟨EB, dd5, hEB, hpB⟩ : ∃ E, ys 5 = .pointer (some ⟨E, 0, none⟩) ∧ v1.heap.size ≤ E ∧ W.heap[E]? = some (.cells #[.string ⟨#[]⟩, .string ⟨#[]⟩, .int .i64 0, .int .i64 0, .int .i64 0, .slice none 0 0] 26) := hd 5 (by kernel_rfl) (by decide)
      have hEE : EA ≠ EB := fun e => hne (by rw [dd4, dd5, e])
      obtain ⟨c0, c1, c2, c3, c4, c5⟩ := cell6_at hpA
      obtain ⟨r0, r1, r2, r3, r4, r5⟩ := free6_at hpA
      have HP := Lib.hid (And.intro hpA (And.intro hpB (And.intro hwA hwB)))
      clear hpA hpB hwA hwB
      go_simp
      have hK2 := hK undef ((((((W.setCell ⟨EA, 0, none⟩ (.string ⟨#[82, 48]⟩)).setCell ⟨EA, 1, none⟩ (.string tn)).setCell ⟨EA, 2, none⟩ (.int .i64 fa)).setCell ⟨EA, 3, none⟩ (.int .i64 fb)).setCell ⟨EA, 4, none⟩ (.int .i64 f)).setCell ⟨EA, 5, none⟩ (.slice ra n rc)) ⟨EA, EB, ra, rc, ra2, rc2, dd4, dd5, dd3, hEE, hEA, hEB, set6_all HP.out.1, (other6 (Ne.symm hEE)).trans HP.out.2.1, wd_box6 HP.out.2.2.1 HP.out.1, wd_box6 HP.out.2.2.2 HP.out.1, below6 hR hEA _ _ _ _ _ _⟩
      simp (config := { decide := true }) only [upd, if_true, if_false, dd1, dd3, dd4, dd5] at hK2
      exact hK2
    refine ⟨?_, ?_⟩
    · refine SlotStep.twT rfl rfl (by kernel_rfl) ?_
      intro ys W ⟨EA, EB, ra, rc, ra2, rc2, dd4, dd5, dd3, hEE, hEA, hEB, hpA, hpB, hwA, hwB, hbb⟩ K hK
      obtain ⟨c0, c1, c2, c3, c4, c5⟩ := cell6_at hpB
      obtain ⟨r0, r1, r2, r3, r4, r5⟩ := free6_at hpB
      have HP := Lib.hid (And.intro hpA (And.intro hpB (And.intro hwA (And.intro hwB hbb))))
      clear hpA hpB hwA hwB hbb
      go_simp
      have hK2 := hK undef ((((((W.setCell ⟨EB, 0, none⟩ (.string ⟨#[82, 49]⟩)).setCell ⟨EB, 1, none⟩ (.string tn2)).setCell ⟨EB, 2, none⟩ (.int .i64 fa2)).setCell ⟨EB, 3, none⟩ (.int .i64 fb2)).setCell ⟨EB, 4, none⟩ (.int .i64 f2)).setCell ⟨EB, 5, none⟩ (.slice ra2 n2 rc2)) ⟨EA, EB, ra, rc, ra2, rc2, dd4, dd5, hEE, hEA, hEB, (other6 hEE).trans HP.out.1, set6_all HP.out.2.1, wd_box6 HP.out.2.2.1 HP.out.2.1, wd_box6 HP.out.2.2.2.1 HP.out.2.1, below6 HP.out.2.2.2.2 hEB _ _ _ _ _ _⟩
      simp (config := { decide := true }) only [upd, if_true, if_false, dd3, dd4, dd5] at hK2
      exact hK2
    trivial
    · intro L5 ys5 U hL5 hI5
      obtain ⟨EA, EB, ra, rc, ra2, rc2, d4, d5, hEE, hEA, hEB, cA, cB, hwA, hwB, hbU⟩ := tw_end (by decide) hL5 hI5
      simp only [d4, d5]
      generalize ys5 0 = y0 at *
      generalize ys5 1 = y1 at *
      generalize ys5 2 = y2 at *
      generalize ys5 3 = y3 at *
      have cP := (hbU.block D (by omega)).trans HPV.out
      have cQ := (hbU.block (D + 1) (by omega)).trans HQV.out
      have hw_U : Below D w U := HBV.out.trans (hbU.mono (by omega))
      have GU : Gi U := G.below (by rw [hD]; exact hw_U)
      obtain ⟨g, o, cg, e0, hcg, hg, _⟩ := hwA.1.at (show 0 < n by omega)
      cases e0
      obtain ⟨g2, o2, cg2, e0, hcg2, hg2, _⟩ := hwB.1.at (show 0 < n2 by omega)
      cases e0
      have hltA := (Array.getElem?_eq_some_iff.1 cA).1
      have hltB := (Array.getElem?_eq_some_iff.1 cB).1
      have geA : D + 2 ≤ EA := by omega
      have geB : D + 2 ≤ EB := by omega
      clear d4 d5 hL5 hI5 hbU HPV HQV HBV hQV hDV hEA hEB
      have ld2 : U.heap[EA]? = some (.cells #[.string ⟨#[82, 48]⟩, .string tn, .int .i64 fa, .int .i64 fb, .int .i64 f, .slice (some ⟨g, o, none⟩) n rc] 26) := cA
      have y2_0 := cell6_0 ld2
      have y2_1 := cell6_1 ld2
      have y2_2 := cell6_2 ld2
      have y2_3 := cell6_3 ld2
      have y2_4 := cell6_4 ld2
      have y2_5 := cell6_5 ld2
      clear ld2
      have ld3 : U.heap[EB]? = some (.cells #[.string ⟨#[82, 49]⟩, .string tn2, .int .i64 fa2, .int .i64 fb2, .int .i64 f2, .slice (some ⟨g2, o2, none⟩) n2 rc2] 26) := cB
      have y3_0 := cell6_0 ld3
      have y3_1 := cell6_1 ld3
      have y3_2 := cell6_2 ld3
      have y3_3 := cell6_3 ld3
      have y3_4 := cell6_4 ld3
      have y3_5 := cell6_5 ld3
      clear ld3
      obtain ⟨f0, f1, f2x, f3, f4, f5⟩ := free6_at cB
      obtain ⟨U9, hU9⟩ : ∃ W, U.setCell ⟨EB, 4, none⟩ (.int .i64 (f + n)) = W := ⟨_, rfl⟩
      have HU9 := Lib.hid hU9
      have hw_U9 : Below D w U9 := by rw [← hU9]; exact hw_U.setCell (p := ⟨EB, 4, none⟩) (by first | (simp; done) | (simp; omega)) _
      have cA9 : U9.heap[EA]? = some (.cells #[.string ⟨#[82, 48]⟩, .string tn, .int .i64 fa, .int .i64 fb, .int .i64 f, .slice (some ⟨g, o, none⟩) n rc] 26) := by rw [← hU9]; exact (set_other hEE).trans cA
      have cB9 : U9.heap[EB]? = some (.cells #[.string ⟨#[82, 49]⟩, .string tn2, .int .i64 fa2, .int .i64 fb2, .int .i64 (f + n), .slice (some ⟨g2, o2, none⟩) n2 rc2] 26) := by rw [← hU9]; exact set6_4 cB
      have hwA9 := wd_box1 (o := 4) (x := .int .i64 (f + n)) hwA cB
      have hwB9 := wd_box1 (o := 4) (x := .int .i64 (f + n)) hwB cB
      rw [hU9] at hwA9 hwB9
      clear hU9
      go_upto_region 6 with fail
      rw [HU9.out]
      clear hwA hwB cA cB cP cQ hw_U y2_0 y2_1 y2_2 y2_3 y2_4 y2_5 y3_0 y3_1 y3_2 y3_3 y3_4 y3_5 f0 f1 f2x f3 f4 f5
      have hwA_ := hwA9.1
      have hwB_ := hwB9.1
      have hAl := (Array.getElem?_eq_some_iff.1 cA9).1
      have hBl := (Array.getElem?_eq_some_iff.1 cB9).1
      have hA0 := Lib.hid hwA_
      have hB0 := Lib.hid hwB_
      clear hwA_ hwB_
      obtain ⟨D2, hD2⟩ : ∃ D, U9.heap.size = D := ⟨_, rfl⟩
      have G2 : Gi U9 := G.below (by first | exact hw_U9 | (rw [hD]; exact hw_U9))
      have HB2 := Lib.hid (hw_U9)
      clear hw_U9
      have ltA : EA < D2 := by omega
      have ltB : EB < D2 := by omega
      have ld4 : U9.heap[EA]? = some (.cells #[.string ⟨#[82, 48]⟩, .string tn, .int .i64 fa, .int .i64 fb, .int .i64 f, .slice (some ⟨g, o, none⟩) n rc] 26) := cA9
      have y4_0 := cell6_0 ld4
      have y4_1 := cell6_1 ld4
      have y4_2 := cell6_2 ld4
      have y4_3 := cell6_3 ld4
      have y4_4 := cell6_4 ld4
      have y4_5 := cell6_5 ld4
      clear ld4
      have ld5 : U9.heap[EB]? = some (.cells #[.string ⟨#[82, 49]⟩, .string tn2, .int .i64 fa2, .int .i64 fb2, .int .i64 (f + n), .slice (some ⟨g2, o2, none⟩) n2 rc2] 26) := cB9
      have y5_0 := cell6_0 ld5
      have y5_1 := cell6_1 ld5
      have y5_2 := cell6_2 ld5
      have y5_3 := cell6_3 ld5
      have y5_4 := cell6_4 ld5
      have y5_5 := cell6_5 ld5
      clear ld5
      have W16 : Wd U9 (.slice (some ⟨g, o, none⟩) n rc) n X := hA0.out.below (by first | exact (Below.refl _ U9) | (rw [hD2]; exact (Below.refl _ U9)))
      have W17 : Wd U9 (.slice (some ⟨g2, o2, none⟩) n2 rc2) n2 X2 := hB0.out.below (by first | exact (Below.refl _ U9) | (rw [hD2]; exact (Below.refl _ U9)))
      go_wp2_with fail
      refine (JN.out _ _ _ _ _ W16 W17).mono ?_
      rintro e v6 ⟨⟨sj, cj, rfl, hwd⟩, hb_v6⟩
      have cA_v6 : v6.heap[EA]? = some (.cells #[.string ⟨#[82, 48]⟩, .string tn, .int .i64 fa, .int .i64 fb, .int .i64 f, .slice (some ⟨g, o, none⟩) n rc] 26) := (hb_v6.block (EA) (Array.getElem?_eq_some_iff.1 (show U9.heap[EA]? = some (.cells #[.string ⟨#[82, 48]⟩, .string tn, .int .i64 fa, .int .i64 fb, .int .i64 f, .slice (some ⟨g, o, none⟩) n rc] 26) from cA9)).1).trans cA9
      have cB_v6 : v6.heap[EB]? = some (.cells #[.string ⟨#[82, 49]⟩, .string tn2, .int .i64 fa2, .int .i64 fb2, .int .i64 (f + n), .slice (some ⟨g2, o2, none⟩) n2 rc2] 26) := (hb_v6.block (EB) (Array.getElem?_eq_some_iff.1 (show U9.heap[EB]? = some (.cells #[.string ⟨#[82, 49]⟩, .string tn2, .int .i64 fa2, .int .i64 fb2, .int .i64 (f + n), .slice (some ⟨g2, o2, none⟩) n2 rc2] 26) from cB9)).1).trans cB9
      have hw_v6 : Below D2 U9 v6 := ((Below.refl _ U9)).trans (hb_v6.mono (by first | omega | (simp; omega)))
      clear cA9 cB9 hb_v6 y4_0 y4_1 y4_2 y4_3 y4_4 y4_5 y5_0 y5_1 y5_2 y5_3 y5_4 y5_5 W16 W17
      have hJ3 := Lib.hid hwd
      clear hwd
      have hA3 := Lib.hid (hA0.out.below (by first | exact hw_v6 | (rw [hD2]; exact hw_v6)))
      clear hA0
      have hB3 := Lib.hid (hB0.out.below (by first | exact hw_v6 | (rw [hD2]; exact hw_v6)))
      clear hB0
      obtain ⟨D3, hD3⟩ : ∃ D, v6.heap.size = D := ⟨_, rfl⟩
      have G23 : Gi v6 := G2.below (by first | exact hw_v6 | (rw [hD2]; exact hw_v6))
      have HB3 := Lib.hid (hw_v6)
      clear hw_v6
      clear G2
      rcases HC.out with ⟨g1, rfl, rfl, rfl, rfl, rfl, rfl, rfl, rfl⟩ | ⟨g1, rfl, rfl, rfl, rfl, rfl, rfl, rfl, rfl, rfl, rfl, rfl⟩ | ⟨g1, rfl, rfl, rfl, rfl, rfl, rfl, rfl, rfl, rfl, rfl, rfl⟩
      · by_cases e1 : tn = tn2
        · subst e1
          have fr := fr_ne0 fa fb fa2 fb2 (fun h => g1 ⟨rfl, h⟩)
          have ld7 : (v6.alloc (.cells #[.string ⟨#[]⟩, .string ⟨#[]⟩, .int .i64 0, .int .i64 0, .int .i64 0, .slice sj 0 cj] 26)).heap[EA]? = some (.cells #[.string ⟨#[82, 48]⟩, .string tn, .int .i64 fa, .int .i64 fb, .int .i64 f, .slice (some ⟨g, o, none⟩) n rc] 26) := (heap_old (o := .cells #[.string ⟨#[]⟩, .string ⟨#[]⟩, .int .i64 0, .int .i64 0, .int .i64 0, .slice sj 0 cj] 26) cA_v6)
          have y7_0 := cell6_0 ld7
          have y7_1 := cell6_1 ld7
          have y7_2 := cell6_2 ld7
          have y7_3 := cell6_3 ld7
          have y7_4 := cell6_4 ld7
          have y7_5 := cell6_5 ld7
          clear ld7
          have ld8 : (v6.alloc (.cells #[.string ⟨#[]⟩, .string ⟨#[]⟩, .int .i64 0, .int .i64 0, .int .i64 0, .slice sj 0 cj] 26)).heap[EB]? = some (.cells #[.string ⟨#[82, 49]⟩, .string tn, .int .i64 fa2, .int .i64 fb2, .int .i64 (f + n), .slice (some ⟨g2, o2, none⟩) n2 rc2] 26) := (heap_old (o := .cells #[.string ⟨#[]⟩, .string ⟨#[]⟩, .int .i64 0, .int .i64 0, .int .i64 0, .slice sj 0 cj] 26) cB_v6)
          have y8_0 := cell6_0 ld8
          have y8_1 := cell6_1 ld8
          have y8_2 := cell6_2 ld8
          have y8_3 := cell6_3 ld8
          have y8_4 := cell6_4 ld8
          have y8_5 := cell6_5 ld8
          clear ld8
          have ld9 : (v6.alloc (.cells #[.string ⟨#[]⟩, .string ⟨#[]⟩, .int .i64 0, .int .i64 0, .int .i64 0, .slice sj 0 cj] 26)).heap[D3]? = some (.cells #[.string ⟨#[]⟩, .string ⟨#[]⟩, .int .i64 0, .int .i64 0, .int .i64 0, .slice sj 0 cj] 26) := (heap_new (by first | omega | (simp; omega)))
          have y9_0 := cell6_0 ld9
          have y9_1 := cell6_1 ld9
          have y9_2 := cell6_2 ld9
          have y9_3 := cell6_3 ld9
          have y9_4 := cell6_4 ld9
          have y9_5 := cell6_5 ld9
          clear ld9
          have W18 : Wd (v6.alloc (.cells #[.string ⟨#[]⟩, .string ⟨#[]⟩, .int .i64 0, .int .i64 0, .int .i64 0, .slice sj 0 cj] 26)) (.slice sj 0 cj) 0 X := hJ3.out.below (by first | exact ((Below.refl _ v6).alloc (by first | omega | (simp; omega)) (.cells #[.string ⟨#[]⟩, .string ⟨#[]⟩, .int .i64 0, .int .i64 0, .int .i64 0, .slice sj 0 cj] 26)) | (rw [hD3]; exact ((Below.refl _ v6).alloc (by first | omega | (simp; omega)) (.cells #[.string ⟨#[]⟩, .string ⟨#[]⟩, .int .i64 0, .int .i64 0, .int .i64 0, .slice sj 0 cj] 26))))
          have Z19 := wd_nil ((v6.alloc (.cells #[.string ⟨#[]⟩, .string ⟨#[]⟩, .int .i64 0, .int .i64 0, .int .i64 0, .slice sj 0 cj] 26))) X
          go_wp2_with fail
          refine (SZ.out _ _ _ W18 Z19).mono ?_
          rintro e v10 ⟨rfl, hb_v10⟩
          have cA_v10 : v10.heap[EA]? = some (.cells #[.string ⟨#[82, 48]⟩, .string tn, .int .i64 fa, .int .i64 fb, .int .i64 f, .slice (some ⟨g, o, none⟩) n rc] 26) := (hb_v10.block (EA) (Array.getElem?_eq_some_iff.1 (show (v6.alloc (.cells #[.string ⟨#[]⟩, .string ⟨#[]⟩, .int .i64 0, .int .i64 0, .int .i64 0, .slice sj 0 cj] 26)).heap[EA]? = some (.cells #[.string ⟨#[82, 48]⟩, .string tn, .int .i64 fa, .int .i64 fb, .int .i64 f, .slice (some ⟨g, o, none⟩) n rc] 26) from (heap_old (o := .cells #[.string ⟨#[]⟩, .string ⟨#[]⟩, .int .i64 0, .int .i64 0, .int .i64 0, .slice sj 0 cj] 26) cA_v6))).1).trans (heap_old (o := .cells #[.string ⟨#[]⟩, .string ⟨#[]⟩, .int .i64 0, .int .i64 0, .int .i64 0, .slice sj 0 cj] 26) cA_v6)
          have cB_v10 : v10.heap[EB]? = some (.cells #[.string ⟨#[82, 49]⟩, .string tn, .int .i64 fa2, .int .i64 fb2, .int .i64 (f + n), .slice (some ⟨g2, o2, none⟩) n2 rc2] 26) := (hb_v10.block (EB) (Array.getElem?_eq_some_iff.1 (show (v6.alloc (.cells #[.string ⟨#[]⟩, .string ⟨#[]⟩, .int .i64 0, .int .i64 0, .int .i64 0, .slice sj 0 cj] 26)).heap[EB]? = some (.cells #[.string ⟨#[82, 49]⟩, .string tn, .int .i64 fa2, .int .i64 fb2, .int .i64 (f + n), .slice (some ⟨g2, o2, none⟩) n2 rc2] 26) from (heap_old (o := .cells #[.string ⟨#[]⟩, .string ⟨#[]⟩, .int .i64 0, .int .i64 0, .int .i64 0, .slice sj 0 cj] 26) cB_v6))).1).trans (heap_old (o := .cells #[.string ⟨#[]⟩, .string ⟨#[]⟩, .int .i64 0, .int .i64 0, .int .i64 0, .slice sj 0 cj] 26) cB_v6)
          have cJ_v10 : v10.heap[D3]? = some (.cells #[.string ⟨#[]⟩, .string ⟨#[]⟩, .int .i64 0, .int .i64 0, .int .i64 0, .slice sj 0 cj] 26) := (hb_v10.block (D3) (Array.getElem?_eq_some_iff.1 (show (v6.alloc (.cells #[.string ⟨#[]⟩, .string ⟨#[]⟩, .int .i64 0, .int .i64 0, .int .i64 0, .slice sj 0 cj] 26)).heap[D3]? = some (.cells #[.string ⟨#[]⟩, .string ⟨#[]⟩, .int .i64 0, .int .i64 0, .int .i64 0, .slice sj 0 cj] 26) from (heap_new (by first | omega | (simp; omega))))).1).trans (heap_new (by first | omega | (simp; omega)))
          have hw_v10 : Below D3 v6 v10 := (((Below.refl _ v6).alloc (by first | omega | (simp; omega)) (.cells #[.string ⟨#[]⟩, .string ⟨#[]⟩, .int .i64 0, .int .i64 0, .int .i64 0, .slice sj 0 cj] 26))).trans (hb_v10.mono (by first | omega | (simp; omega)))
          clear cA_v6 cB_v6 hb_v10 y7_0 y7_1 y7_2 y7_3 y7_4 y7_5 y8_0 y8_1 y8_2 y8_3 y8_4 y8_5 y9_0 y9_1 y9_2 y9_3 y9_4 y9_5 W18
          have HW := Lib.hid (show Below D w (v10) from (HB2.out.trans (((HB3.out.trans ((hw_v10).mono (by first | exact HB3.out.size | (have := HB3.out.size; simp only [hD] at *; omega) | (have := HB3.out.size; omega))))).mono (by first | exact HB2.out.size | (have := HB2.out.size; simp only [hD] at *; omega) | (have := HB2.out.size; omega)))))
          go_wp2
          go_ret
          exact ⟨rfl, by first | exact HW.out | (rw [hD]; exact HW.out)⟩
        · have x1 := str_ne e1
          have ld7 : (v6.alloc (.cells #[.string ⟨#[]⟩, .string ⟨#[]⟩, .int .i64 0, .int .i64 0, .int .i64 0, .slice sj 0 cj] 26)).heap[EA]? = some (.cells #[.string ⟨#[82, 48]⟩, .string tn, .int .i64 fa, .int .i64 fb, .int .i64 f, .slice (some ⟨g, o, none⟩) n rc] 26) := (heap_old (o := .cells #[.string ⟨#[]⟩, .string ⟨#[]⟩, .int .i64 0, .int .i64 0, .int .i64 0, .slice sj 0 cj] 26) cA_v6)
          have y7_0 := cell6_0 ld7
          have y7_1 := cell6_1 ld7
          have y7_2 := cell6_2 ld7
          have y7_3 := cell6_3 ld7
          have y7_4 := cell6_4 ld7
          have y7_5 := cell6_5 ld7
          clear ld7
          have ld8 : (v6.alloc (.cells #[.string ⟨#[]⟩, .string ⟨#[]⟩, .int .i64 0, .int .i64 0, .int .i64 0, .slice sj 0 cj] 26)).heap[EB]? = some (.cells #[.string ⟨#[82, 49]⟩, .string tn2, .int .i64 fa2, .int .i64 fb2, .int .i64 (f + n), .slice (some ⟨g2, o2, none⟩) n2 rc2] 26) := (heap_old (o := .cells #[.string ⟨#[]⟩, .string ⟨#[]⟩, .int .i64 0, .int .i64 0, .int .i64 0, .slice sj 0 cj] 26) cB_v6)
          have y8_0 := cell6_0 ld8
          have y8_1 := cell6_1 ld8
          have y8_2 := cell6_2 ld8
          have y8_3 := cell6_3 ld8
          have y8_4 := cell6_4 ld8
          have y8_5 := cell6_5 ld8
          clear ld8
          have ld9 : (v6.alloc (.cells #[.string ⟨#[]⟩, .string ⟨#[]⟩, .int .i64 0, .int .i64 0, .int .i64 0, .slice sj 0 cj] 26)).heap[D3]? = some (.cells #[.string ⟨#[]⟩, .string ⟨#[]⟩, .int .i64 0, .int .i64 0, .int .i64 0, .slice sj 0 cj] 26) := (heap_new (by first | omega | (simp; omega)))
          have y9_0 := cell6_0 ld9
          have y9_1 := cell6_1 ld9
          have y9_2 := cell6_2 ld9
          have y9_3 := cell6_3 ld9
          have y9_4 := cell6_4 ld9
          have y9_5 := cell6_5 ld9
          clear ld9
          have W20 : Wd (v6.alloc (.cells #[.string ⟨#[]⟩, .string ⟨#[]⟩, .int .i64 0, .int .i64 0, .int .i64 0, .slice sj 0 cj] 26)) (.slice sj 0 cj) 0 X := hJ3.out.below (by first | exact ((Below.refl _ v6).alloc (by first | omega | (simp; omega)) (.cells #[.string ⟨#[]⟩, .string ⟨#[]⟩, .int .i64 0, .int .i64 0, .int .i64 0, .slice sj 0 cj] 26)) | (rw [hD3]; exact ((Below.refl _ v6).alloc (by first | omega | (simp; omega)) (.cells #[.string ⟨#[]⟩, .string ⟨#[]⟩, .int .i64 0, .int .i64 0, .int .i64 0, .slice sj 0 cj] 26))))
          have Z21 := wd_nil ((v6.alloc (.cells #[.string ⟨#[]⟩, .string ⟨#[]⟩, .int .i64 0, .int .i64 0, .int .i64 0, .slice sj 0 cj] 26))) X
          go_wp2_with fail
          refine (SZ.out _ _ _ W20 Z21).mono ?_
          rintro e v10 ⟨rfl, hb_v10⟩
          have cA_v10 : v10.heap[EA]? = some (.cells #[.string ⟨#[82, 48]⟩, .string tn, .int .i64 fa, .int .i64 fb, .int .i64 f, .slice (some ⟨g, o, none⟩) n rc] 26) := (hb_v10.block (EA) (Array.getElem?_eq_some_iff.1 (show (v6.alloc (.cells #[.string ⟨#[]⟩, .string ⟨#[]⟩, .int .i64 0, .int .i64 0, .int .i64 0, .slice sj 0 cj] 26)).heap[EA]? = some (.cells #[.string ⟨#[82, 48]⟩, .string tn, .int .i64 fa, .int .i64 fb, .int .i64 f, .slice (some ⟨g, o, none⟩) n rc] 26) from (heap_old (o := .cells #[.string ⟨#[]⟩, .string ⟨#[]⟩, .int .i64 0, .int .i64 0, .int .i64 0, .slice sj 0 cj] 26) cA_v6))).1).trans (heap_old (o := .cells #[.string ⟨#[]⟩, .string ⟨#[]⟩, .int .i64 0, .int .i64 0, .int .i64 0, .slice sj 0 cj] 26) cA_v6)
          have cB_v10 : v10.heap[EB]? = some (.cells #[.string ⟨#[82, 49]⟩, .string tn2, .int .i64 fa2, .int .i64 fb2, .int .i64 (f + n), .slice (some ⟨g2, o2, none⟩) n2 rc2] 26) := (hb_v10.block (EB) (Array.getElem?_eq_some_iff.1 (show (v6.alloc (.cells #[.string ⟨#[]⟩, .string ⟨#[]⟩, .int .i64 0, .int .i64 0, .int .i64 0, .slice sj 0 cj] 26)).heap[EB]? = some (.cells #[.string ⟨#[82, 49]⟩, .string tn2, .int .i64 fa2, .int .i64 fb2, .int .i64 (f + n), .slice (some ⟨g2, o2, none⟩) n2 rc2] 26) from (heap_old (o := .cells #[.string ⟨#[]⟩, .string ⟨#[]⟩, .int .i64 0, .int .i64 0, .int .i64 0, .slice sj 0 cj] 26) cB_v6))).1).trans (heap_old (o := .cells #[.string ⟨#[]⟩, .string ⟨#[]⟩, .int .i64 0, .int .i64 0, .int .i64 0, .slice sj 0 cj] 26) cB_v6)
          have cJ_v10 : v10.heap[D3]? = some (.cells #[.string ⟨#[]⟩, .string ⟨#[]⟩, .int .i64 0, .int .i64 0, .int .i64 0, .slice sj 0 cj] 26) := (hb_v10.block (D3) (Array.getElem?_eq_some_iff.1 (show (v6.alloc (.cells #[.string ⟨#[]⟩, .string ⟨#[]⟩, .int .i64 0, .int .i64 0, .int .i64 0, .slice sj 0 cj] 26)).heap[D3]? = some (.cells #[.string ⟨#[]⟩, .string ⟨#[]⟩, .int .i64 0, .int .i64 0, .int .i64 0, .slice sj 0 cj] 26) from (heap_new (by first | omega | (simp; omega))))).1).trans (heap_new (by first | omega | (simp; omega)))
          have hw_v10 : Below D3 v6 v10 := (((Below.refl _ v6).alloc (by first | omega | (simp; omega)) (.cells #[.string ⟨#[]⟩, .string ⟨#[]⟩, .int .i64 0, .int .i64 0, .int .i64 0, .slice sj 0 cj] 26))).trans (hb_v10.mono (by first | omega | (simp; omega)))
          clear cA_v6 cB_v6 hb_v10 y7_0 y7_1 y7_2 y7_3 y7_4 y7_5 y8_0 y8_1 y8_2 y8_3 y8_4 y8_5 y9_0 y9_1 y9_2 y9_3 y9_4 y9_5 W20
          have HW := Lib.hid (show Below D w (v10) from (HB2.out.trans (((HB3.out.trans ((hw_v10).mono (by first | exact HB3.out.size | (have := HB3.out.size; simp only [hD] at *; omega) | (have := HB3.out.size; omega))))).mono (by first | exact HB2.out.size | (have := HB2.out.size; simp only [hD] at *; omega) | (have := HB2.out.size; omega)))))
          go_wp2
          go_ret
          exact ⟨rfl, by first | exact HW.out | (rw [hD]; exact HW.out)⟩
      · have fr := fr_ne1 fa fb
        exact absurd trivial g1
      · have fr := fr_ne1 fa fb
        clear g1
        have hzJ : rkE ⟨#[82, 48]⟩ tn fa fb f (n + n2) (fun k => if k < n then X k else X2 (k - n)) = 0 := rk_of HT.out.1.1 HT.out.1.2.1 HT.out.1.2.2 hf (by omega) (by omega) (fun k hk => by by_cases h : k < n <;> simp only [h, if_true, if_false] <;> first | exact HT.out.2.1 k h | exact HT.out.2.2 (k - n) (by omega))
        have TJ := Lib.hid (fun v W h => total_ok ⟨#[82, 48]⟩ tn fa fb f v (n + n2) (fun k => if k < n then X k else X2 (k - n)) (by decide) ts (by omega) hzJ W h)
        have SJ := Lib.hid (fun va vb W h h' => same_wd ⟨#[82, 48]⟩ tn fa fb f (n + n2) (fun k => if k < n then X k else X2 (k - n)) (fun k => if k < n then X k else X2 (k - n)) (by omega) (fun _ _ => rfl) va vb W h h')
        have bA := sumI_bd HT.out.2.1 n (Nat.le_refl _)
        have bB := sumI_bd HT.out.2.2 n2 (Nat.le_refl _)
        rw [sum_cat] at TJ
        obtain ⟨sA, hsA⟩ : ∃ s, sumI X n = s := ⟨_, rfl⟩
        obtain ⟨sB, hsB⟩ : ∃ s, sumI X2 n2 = s := ⟨_, rfl⟩
        rw [hsA] at TA TJ bA
        rw [hsB] at TB TJ bB
        have q8 := wrap_in (q := sA + sB) (by omega) (by omega)
        clear hzJ hsA hsB
        have ld7 : (v6.alloc (.cells #[.string ⟨#[82, 48]⟩, .string tn, .int .i64 fa, .int .i64 fb, .int .i64 f, .slice sj (n + n2) cj] 26)).heap[EA]? = some (.cells #[.string ⟨#[82, 48]⟩, .string tn, .int .i64 fa, .int .i64 fb, .int .i64 f, .slice (some ⟨g, o, none⟩) n rc] 26) := (heap_old (o := .cells #[.string ⟨#[82, 48]⟩, .string tn, .int .i64 fa, .int .i64 fb, .int .i64 f, .slice sj (n + n2) cj] 26) cA_v6)
        have y7_0 := cell6_0 ld7
        have y7_1 := cell6_1 ld7
        have y7_2 := cell6_2 ld7
        have y7_3 := cell6_3 ld7
        have y7_4 := cell6_4 ld7
        have y7_5 := cell6_5 ld7
        clear ld7
        have ld8 : (v6.alloc (.cells #[.string ⟨#[82, 48]⟩, .string tn, .int .i64 fa, .int .i64 fb, .int .i64 f, .slice sj (n + n2) cj] 26)).heap[EB]? = some (.cells #[.string ⟨#[82, 49]⟩, .string tn, .int .i64 fa, .int .i64 fb, .int .i64 (f + n), .slice (some ⟨g2, o2, none⟩) n2 rc2] 26) := (heap_old (o := .cells #[.string ⟨#[82, 48]⟩, .string tn, .int .i64 fa, .int .i64 fb, .int .i64 f, .slice sj (n + n2) cj] 26) cB_v6)
        have y8_0 := cell6_0 ld8
        have y8_1 := cell6_1 ld8
        have y8_2 := cell6_2 ld8
        have y8_3 := cell6_3 ld8
        have y8_4 := cell6_4 ld8
        have y8_5 := cell6_5 ld8
        clear ld8
        obtain ⟨V, hV⟩ : ∃ V, ((v6.alloc (.cells #[.string ⟨#[82, 48]⟩, .string tn, .int .i64 fa, .int .i64 fb, .int .i64 f, .slice sj (n + n2) cj] 26)).alloc (.cells #[.string ⟨#[82, 48]⟩, .string tn, .int .i64 fa, .int .i64 fb, .int .i64 f, .slice (some ⟨g, o, none⟩) n rc] 26)) = V := ⟨_, rfl⟩
        have lt_A : EA < (D3 + 1) := by have := (Array.getElem?_eq_some_iff.1 cA_v6).1; omega
        have lt_B : EB < (D3 + 1) := by have := (Array.getElem?_eq_some_iff.1 cB_v6).1; omega
        have lt_J : D3 < (D3 + 1) := by omega
        have cAV := Lib.hid (show V.heap[EA]? = some (.cells #[.string ⟨#[82, 48]⟩, .string tn, .int .i64 fa, .int .i64 fb, .int .i64 f, .slice (some ⟨g, o, none⟩) n rc] 26) by rw [← hV]; exact (heap_old (o := .cells #[.string ⟨#[82, 48]⟩, .string tn, .int .i64 fa, .int .i64 fb, .int .i64 f, .slice (some ⟨g, o, none⟩) n rc] 26) (heap_old (o := .cells #[.string ⟨#[82, 48]⟩, .string tn, .int .i64 fa, .int .i64 fb, .int .i64 f, .slice sj (n + n2) cj] 26) cA_v6)))
        have cBV := Lib.hid (show V.heap[EB]? = some (.cells #[.string ⟨#[82, 49]⟩, .string tn, .int .i64 fa, .int .i64 fb, .int .i64 (f + n), .slice (some ⟨g2, o2, none⟩) n2 rc2] 26) by rw [← hV]; exact (heap_old (o := .cells #[.string ⟨#[82, 48]⟩, .string tn, .int .i64 fa, .int .i64 fb, .int .i64 f, .slice (some ⟨g, o, none⟩) n rc] 26) (heap_old (o := .cells #[.string ⟨#[82, 48]⟩, .string tn, .int .i64 fa, .int .i64 fb, .int .i64 f, .slice sj (n + n2) cj] 26) cB_v6)))
        have cJV := Lib.hid (show V.heap[D3]? = some (.cells #[.string ⟨#[82, 48]⟩, .string tn, .int .i64 fa, .int .i64 fb, .int .i64 f, .slice sj (n + n2) cj] 26) by rw [← hV]; exact (heap_old (o := .cells #[.string ⟨#[82, 48]⟩, .string tn, .int .i64 fa, .int .i64 fb, .int .i64 f, .slice (some ⟨g, o, none⟩) n rc] 26) (heap_new (by first | omega | (simp; omega)))))
        have cTV := Lib.hid (show V.heap[D3 + 1]? = some (.cells #[.string ⟨#[82, 48]⟩, .string tn, .int .i64 fa, .int .i64 fb, .int .i64 f, .slice (some ⟨g, o, none⟩) n rc] 26) by rw [← hV]; exact (heap_new (by first | omega | (simp; omega))))
        have HwV := Lib.hid (show Below D3 v6 V by rw [← hV]; exact (((Below.refl _ v6).alloc (by first | omega | (simp; omega)) (.cells #[.string ⟨#[82, 48]⟩, .string tn, .int .i64 fa, .int .i64 fb, .int .i64 f, .slice sj (n + n2) cj] 26)).alloc (by first | omega | (simp; omega)) (.cells #[.string ⟨#[82, 48]⟩, .string tn, .int .i64 fa, .int .i64 fb, .int .i64 f, .slice (some ⟨g, o, none⟩) n rc] 26)))
        have HWA := Lib.hid (hA3.out.below (by rw [hD3]; exact HwV.out))
        have HWB := Lib.hid (hB3.out.below (by rw [hD3]; exact HwV.out))
        have HEV := Lib.hid hV
        clear hV
        go_upto_region 12 with fail
        rw [HEV.out]
        clear cA_v6 cB_v6 y7_0 y7_1 y7_2 y7_3 y7_4 y7_5 y8_0 y8_1 y8_2 y8_3 y8_4 y8_5
        have hEV := (Array.getElem?_eq_some_iff.1 cTV.out).1
        obtain ⟨i0, hi0, hz0, hz1, hz2⟩ := info_parts info_int
        refine wp_region_slots_at rfl rfl (fun base ys => (((((((base.set 76 (ys 0)).set 77 (ys 1)).set 78 (ys 2)).set 79 (ys 3)).set 80 (ys 4)).set 81 (ys 5)).set 82 (ys 6)).set 83 (ys 7)) (ChI _ 4 jwC (jwI EA EB (D3 + 1) (.slice (some ⟨g, o, none⟩) n rc) (.slice (some ⟨g2, o2, none⟩) n2 rc2)) (jwS V (D3 + 1) n n2 X X2 ⟨#[82, 48]⟩ tn fa fb f)) (fun _ => undef) (by kernel_rfl) (ch_start jwC_lt (show Below V.heap.size V _ from (Below.refl _ _).trans ⟨rfl, rfl, rfl, Nat.le_refl _, fun _ _ => rfl⟩)) ?h12
        case h12 =>
          intro FF hFF
          simp only [List.set_cons_succ, List.set_cons_zero] at hFF
          subst hFF
          refine ⟨rfl, ?_, ?_⟩
          refine ⟨?_, ?_⟩
          · refine SlotStep.chC rfl 0 (by decide) rfl jwC_inj (.inl rfl) (fun _ => trivial) ?_
            intro ys W hS hd K hK
            have hS0 : Below V.heap.size V W := hS
            go_simp
            have hK2 := hK (.slice (some ⟨W.heap.size, 0, none⟩) 0 0) _ ⟨hS0.alloc hS0.size (.cells #[] 3), own_empty W _ hS0.size⟩
            simp (config := { decide := true }) only [upd, if_true, if_false] at hK2
            exact hK2
          refine ⟨?_, ?_⟩
          · refine SlotStep.chP rfl jwC_1 jwS_1 ?_
            intro k ys W hS hd K hK
            go_simp
            have hK2 := hK (.pointer (some ⟨EA, 5, none⟩)) rfl
            simp (config := { decide := true }) only [upd, if_true, if_false] at hK2
            exact hK2
          refine ⟨?_, ?_⟩
          · refine SlotStep.chP rfl jwC_2 jwS_2 ?_
            intro k ys W hS hd K hK
            have dd1 : ys 1 = .pointer (some ⟨EA, 5, none⟩) := hd 1 (by kernel_rfl) (by decide)
            have hl := (jw_read (by omega) k ys W hS _ lt_A).trans cAV.out
            have c5 := cell6_5 hl
            clear hl
            go_simp
            have hK2 := hK (.slice (some ⟨g, o, none⟩) n rc) rfl
            simp (config := { decide := true }) only [upd, if_true, if_false, dd1] at hK2
            exact hK2
          refine ⟨?_, ?_⟩
          · refine SlotStep.chC rfl 1 (by decide) rfl jwC_inj (.inr (by kernel_rfl)) (fun _ => trivial) ?_
            intro ys W hS hd K hK
            obtain ⟨hb, hown⟩ : Below V.heap.size V W ∧ W.ownsRow V.heap.size 3 1 (ys 0) 0 ([]) := hS
            have dd2 : ys 2 = (.slice (some ⟨g, o, none⟩) n rc) := hd 2 (by kernel_rfl) (by decide)
            have HN := Lib.hid (HWA.out.below hb)
            refine step_append_own rfl _ _ 24 rfl V.heap.size 3 i0 (.int .i64 0) 1 8 Tryz.underlying24 hi0 hz0 hz1 hz2 rfl (by decide) (ys 0) 0 _ (by simp [Act.eval]) hown ⟨g, o, none⟩ n rc (rowL X n) (by simp [Act.eval, dd2]) (by rw [rowL_len, Nat.mul_one]) (wd_news HN.out) row_one (by unfold maxLen; omega) (by omega) hb.size ?_
            intro v' w6 hown' hgrow _
            have hg6 := grown_below0 hb.size hown hgrow
            have HO := Lib.hid (And.intro (hb.trans hg6) hown')
            clear hown hown' hgrow hg6
            go_simp
            have hK2 := hK v' w6 ⟨HO.out.1, by first | exact HO.out.2 | simpa [upd] using HO.out.2⟩
            simp (config := { decide := true }) only [upd, if_true, if_false, dd2] at hK2
            exact hK2
          refine ⟨?_, ?_⟩
          · refine SlotStep.chP rfl jwC_4 jwS_4 ?_
            intro k ys W hS hd K hK
            go_simp
            have hK2 := hK (.pointer (some ⟨EB, 5, none⟩)) rfl
            simp (config := { decide := true }) only [upd, if_true, if_false] at hK2
            exact hK2
          refine ⟨?_, ?_⟩
          · refine SlotStep.chP rfl jwC_5 jwS_5 ?_
            intro k ys W hS hd K hK
            have dd4 : ys 4 = .pointer (some ⟨EB, 5, none⟩) := hd 4 (by kernel_rfl) (by decide)
            have hl := (jw_read (by omega) k ys W hS _ lt_B).trans cBV.out
            have c5 := cell6_5 hl
            clear hl
            go_simp
            have hK2 := hK (.slice (some ⟨g2, o2, none⟩) n2 rc2) rfl
            simp (config := { decide := true }) only [upd, if_true, if_false, dd4] at hK2
            exact hK2
          refine ⟨?_, ?_⟩
          · refine SlotStep.chC rfl 2 (by decide) rfl jwC_inj (.inr (by kernel_rfl)) (fun _ => trivial) ?_
            intro ys W hS hd K hK
            obtain ⟨hb, hown⟩ : Below V.heap.size V W ∧ W.ownsRow V.heap.size 3 1 (ys 3) n (rowL X n) := hS
            have dd5 : ys 5 = (.slice (some ⟨g2, o2, none⟩) n2 rc2) := hd 5 (by kernel_rfl) (by decide)
            have HN := Lib.hid (HWB.out.below hb)
            refine step_append_own rfl _ _ 24 rfl V.heap.size 3 i0 (.int .i64 0) 1 8 Tryz.underlying24 hi0 hz0 hz1 hz2 rfl (by decide) (ys 3) n _ (by simp [Act.eval]) hown ⟨g2, o2, none⟩ n2 rc2 (rowL X2 n2) (by simp [Act.eval, dd5]) (by rw [rowL_len, Nat.mul_one]) (wd_news HN.out) row_one (by unfold maxLen; omega) (by omega) hb.size ?_
            intro v' w6 hown' hgrow _
            have hg6 := grown_below0 hb.size hown hgrow
            have HO := Lib.hid (And.intro (hb.trans hg6) hown')
            clear hown hown' hgrow hg6
            go_simp
            have hK2 := hK v' w6 ⟨HO.out.1, by first | exact HO.out.2 | simpa [upd] using HO.out.2⟩
            simp (config := { decide := true }) only [upd, if_true, if_false, dd5] at hK2
            exact hK2
          refine ⟨?_, ?_⟩
          · refine SlotStep.chP rfl jwC_7 jwS_7 ?_
            intro k ys W hS hd K hK
            go_simp
            have hK2 := hK (.pointer (some ⟨(D3 + 1), 5, none⟩)) rfl
            simp (config := { decide := true }) only [upd, if_true, if_false] at hK2
            exact hK2
          refine ⟨?_, ?_⟩
          · refine SlotStep.chC rfl 3 (by decide) rfl jwC_inj (.inr (by kernel_rfl)) (fun _ => trivial) ?_
            intro ys W hS hd K hK
            obtain ⟨hb, hown⟩ : Below V.heap.size V W ∧ W.ownsRow V.heap.size 3 1 (ys 6) (n + n2) (rowL X n ++ rowL X2 n2) := hS
            have dd7 : ys 7 = .pointer (some ⟨(D3 + 1), 5, none⟩) := hd 7 (by kernel_rfl) (by decide)
            obtain ⟨sr, sm, cr, dd6, hown2⟩ := owns_open (Nat.le_refl _) hown
            obtain rfl := own_len hown2
            have hl := (hb.block (D3 + 1) hEV).trans cTV.out
            obtain ⟨c0, c1, c2, c3, c4, c5⟩ := cell6_at hl
            obtain ⟨r0, r1, r2, r3, r4, r5⟩ := free6_at hl
            have HO := Lib.hid (And.intro hb (And.intro hown2 hl))
            clear hb hown hown2 hl
            go_simp
            have hK2 := hK undef _ ⟨sr, cr, (HO.out.1.mono (show (D3 + 1) ≤ V.heap.size by omega)).setCell (p := ⟨(D3 + 1), 5, none⟩) (Nat.le_refl _) _, set6_5 HO.out.2.2, owns_set HO.out.2.1 hEV⟩
            simp (config := { decide := true }) only [upd, if_true, if_false, dd6, dd7] at hK2
            exact hK2
          trivial
          · intro L6 ys6 U2 hL6 hI6
            obtain ⟨⟨sr, cr, hbU2, cTU, hownU⟩, _⟩ := ch_end jwC_lt hL6 hI6
            generalize ys6 0 = u0 at *
            generalize ys6 1 = u1 at *
            generalize ys6 2 = u2 at *
            generalize ys6 3 = u3 at *
            generalize ys6 4 = u4 at *
            generalize ys6 5 = u5 at *
            generalize ys6 6 = u6 at *
            generalize ys6 7 = u7 at *
            have hw_U2 : Below D3 v6 U2 := HwV.out.trans (hbU2.mono (by have := HwV.out.size; omega))
            have cAU := (hbU2.block EA lt_A).trans cAV.out
            have cBU := (hbU2.block EB lt_B).trans cBV.out
            have cJU := (hbU2.block D3 lt_J).trans cJV.out
            have hwT : Wd U2 (.slice sr (n + n2) cr) (n + n2) (fun k => if k < n then X k else X2 (k - n)) := wd_of hownU (fun k hk => rowL_two X2 X n n2 k hk)
            clear hL6 hI6 hbU2 hownU cAV cBV cJV cTV HwV HWA HWB HEV hEV
            have hT4 := Lib.hid hwT
            clear hwT
            have hA4 := Lib.hid (hA3.out.below (by first | exact hw_U2 | (rw [hD3]; exact hw_U2)))
            clear hA3
            have hB4 := Lib.hid (hB3.out.below (by first | exact hw_U2 | (rw [hD3]; exact hw_U2)))
            clear hB3
            have hJ4 := Lib.hid (hJ3.out.below (by first | exact hw_U2 | (rw [hD3]; exact hw_U2)))
            clear hJ3
            obtain ⟨D4, hD4⟩ : ∃ D, U2.heap.size = D := ⟨_, rfl⟩
            have G234 : Gi U2 := G23.below (by first | exact hw_U2 | (rw [hD3]; exact hw_U2))
            have HB4 := Lib.hid (hw_U2)
            clear hw_U2
            clear G23
            have ld9 : U2.heap[EA]? = some (.cells #[.string ⟨#[82, 48]⟩, .string tn, .int .i64 fa, .int .i64 fb, .int .i64 f, .slice (some ⟨g, o, none⟩) n rc] 26) := cAU
            have y9_0 := cell6_0 ld9
            have y9_1 := cell6_1 ld9
            have y9_2 := cell6_2 ld9
            have y9_3 := cell6_3 ld9
            have y9_4 := cell6_4 ld9
            have y9_5 := cell6_5 ld9
            clear ld9
            have W22 : Wd U2 (.slice (some ⟨g, o, none⟩) n rc) n X := hA4.out.below (by first | exact (Below.refl _ U2) | (rw [hD4]; exact (Below.refl _ U2)))
            go_wp2_with fail
            refine (TA.out _ _ W22).mono ?_
            rintro e v10 ⟨rfl, hb_v10⟩
            have cA_v10 : v10.heap[EA]? = some (.cells #[.string ⟨#[82, 48]⟩, .string tn, .int .i64 fa, .int .i64 fb, .int .i64 f, .slice (some ⟨g, o, none⟩) n rc] 26) := (hb_v10.block (EA) (Array.getElem?_eq_some_iff.1 (show U2.heap[EA]? = some (.cells #[.string ⟨#[82, 48]⟩, .string tn, .int .i64 fa, .int .i64 fb, .int .i64 f, .slice (some ⟨g, o, none⟩) n rc] 26) from cAU)).1).trans cAU
            have cB_v10 : v10.heap[EB]? = some (.cells #[.string ⟨#[82, 49]⟩, .string tn, .int .i64 fa, .int .i64 fb, .int .i64 (f + n), .slice (some ⟨g2, o2, none⟩) n2 rc2] 26) := (hb_v10.block (EB) (Array.getElem?_eq_some_iff.1 (show U2.heap[EB]? = some (.cells #[.string ⟨#[82, 49]⟩, .string tn, .int .i64 fa, .int .i64 fb, .int .i64 (f + n), .slice (some ⟨g2, o2, none⟩) n2 rc2] 26) from cBU)).1).trans cBU
            have cJ_v10 : v10.heap[D3]? = some (.cells #[.string ⟨#[82, 48]⟩, .string tn, .int .i64 fa, .int .i64 fb, .int .i64 f, .slice sj (n + n2) cj] 26) := (hb_v10.block (D3) (Array.getElem?_eq_some_iff.1 (show U2.heap[D3]? = some (.cells #[.string ⟨#[82, 48]⟩, .string tn, .int .i64 fa, .int .i64 fb, .int .i64 f, .slice sj (n + n2) cj] 26) from cJU)).1).trans cJU
            have cT_v10 : v10.heap[D3 + 1]? = some (.cells #[.string ⟨#[82, 48]⟩, .string tn, .int .i64 fa, .int .i64 fb, .int .i64 f, .slice sr (n + n2) cr] 26) := (hb_v10.block (D3 + 1) (Array.getElem?_eq_some_iff.1 (show U2.heap[D3 + 1]? = some (.cells #[.string ⟨#[82, 48]⟩, .string tn, .int .i64 fa, .int .i64 fb, .int .i64 f, .slice sr (n + n2) cr] 26) from cTU)).1).trans cTU
            have hw_v10 : Below D4 U2 v10 := ((Below.refl _ U2)).trans (hb_v10.mono (by first | omega | (simp; omega)))
            clear cAU cBU cJU cTU hb_v10 y9_0 y9_1 y9_2 y9_3 y9_4 y9_5 W22
            have ld11 : v10.heap[EB]? = some (.cells #[.string ⟨#[82, 49]⟩, .string tn, .int .i64 fa, .int .i64 fb, .int .i64 (f + n), .slice (some ⟨g2, o2, none⟩) n2 rc2] 26) := cB_v10
            have y11_0 := cell6_0 ld11
            have y11_1 := cell6_1 ld11
            have y11_2 := cell6_2 ld11
            have y11_3 := cell6_3 ld11
            have y11_4 := cell6_4 ld11
            have y11_5 := cell6_5 ld11
            clear ld11
            have W23 : Wd v10 (.slice (some ⟨g2, o2, none⟩) n2 rc2) n2 X2 := hB4.out.below (by first | exact hw_v10 | (rw [hD4]; exact hw_v10))
            go_wp2_with fail
            refine (TB.out _ _ W23).mono ?_
            rintro e v12 ⟨rfl, hb_v12⟩
            have hs_v12 := hw_v10.size
            have cA_v12 : v12.heap[EA]? = some (.cells #[.string ⟨#[82, 48]⟩, .string tn, .int .i64 fa, .int .i64 fb, .int .i64 f, .slice (some ⟨g, o, none⟩) n rc] 26) := (hb_v12.block (EA) (Array.getElem?_eq_some_iff.1 (show v10.heap[EA]? = some (.cells #[.string ⟨#[82, 48]⟩, .string tn, .int .i64 fa, .int .i64 fb, .int .i64 f, .slice (some ⟨g, o, none⟩) n rc] 26) from cA_v10)).1).trans cA_v10
            have cB_v12 : v12.heap[EB]? = some (.cells #[.string ⟨#[82, 49]⟩, .string tn, .int .i64 fa, .int .i64 fb, .int .i64 (f + n), .slice (some ⟨g2, o2, none⟩) n2 rc2] 26) := (hb_v12.block (EB) (Array.getElem?_eq_some_iff.1 (show v10.heap[EB]? = some (.cells #[.string ⟨#[82, 49]⟩, .string tn, .int .i64 fa, .int .i64 fb, .int .i64 (f + n), .slice (some ⟨g2, o2, none⟩) n2 rc2] 26) from cB_v10)).1).trans cB_v10
            have cJ_v12 : v12.heap[D3]? = some (.cells #[.string ⟨#[82, 48]⟩, .string tn, .int .i64 fa, .int .i64 fb, .int .i64 f, .slice sj (n + n2) cj] 26) := (hb_v12.block (D3) (Array.getElem?_eq_some_iff.1 (show v10.heap[D3]? = some (.cells #[.string ⟨#[82, 48]⟩, .string tn, .int .i64 fa, .int .i64 fb, .int .i64 f, .slice sj (n + n2) cj] 26) from cJ_v10)).1).trans cJ_v10
            have cT_v12 : v12.heap[D3 + 1]? = some (.cells #[.string ⟨#[82, 48]⟩, .string tn, .int .i64 fa, .int .i64 fb, .int .i64 f, .slice sr (n + n2) cr] 26) := (hb_v12.block (D3 + 1) (Array.getElem?_eq_some_iff.1 (show v10.heap[D3 + 1]? = some (.cells #[.string ⟨#[82, 48]⟩, .string tn, .int .i64 fa, .int .i64 fb, .int .i64 f, .slice sr (n + n2) cr] 26) from cT_v10)).1).trans cT_v10
            have hw_v12 : Below D4 U2 v12 := (hw_v10).trans (hb_v12.mono (by first | omega | (simp; omega)))
            clear cA_v10 cB_v10 cJ_v10 cT_v10 hb_v12 y11_0 y11_1 y11_2 y11_3 y11_4 y11_5 W23 hw_v10 hs_v12
            have ld13 : v12.heap[D3]? = some (.cells #[.string ⟨#[82, 48]⟩, .string tn, .int .i64 fa, .int .i64 fb, .int .i64 f, .slice sj (n + n2) cj] 26) := cJ_v12
            have y13_0 := cell6_0 ld13
            have y13_1 := cell6_1 ld13
            have y13_2 := cell6_2 ld13
            have y13_3 := cell6_3 ld13
            have y13_4 := cell6_4 ld13
            have y13_5 := cell6_5 ld13
            clear ld13
            have W24 : Wd v12 (.slice sj (n + n2) cj) (n + n2) (fun k => if k < n then X k else X2 (k - n)) := hJ4.out.below (by first | exact hw_v12 | (rw [hD4]; exact hw_v12))
            go_wp2_with fail
            refine (TJ.out _ _ W24).mono ?_
            rintro e v14 ⟨rfl, hb_v14⟩
            have hs_v14 := hw_v12.size
            have cA_v14 : v14.heap[EA]? = some (.cells #[.string ⟨#[82, 48]⟩, .string tn, .int .i64 fa, .int .i64 fb, .int .i64 f, .slice (some ⟨g, o, none⟩) n rc] 26) := (hb_v14.block (EA) (Array.getElem?_eq_some_iff.1 (show v12.heap[EA]? = some (.cells #[.string ⟨#[82, 48]⟩, .string tn, .int .i64 fa, .int .i64 fb, .int .i64 f, .slice (some ⟨g, o, none⟩) n rc] 26) from cA_v12)).1).trans cA_v12
            have cB_v14 : v14.heap[EB]? = some (.cells #[.string ⟨#[82, 49]⟩, .string tn, .int .i64 fa, .int .i64 fb, .int .i64 (f + n), .slice (some ⟨g2, o2, none⟩) n2 rc2] 26) := (hb_v14.block (EB) (Array.getElem?_eq_some_iff.1 (show v12.heap[EB]? = some (.cells #[.string ⟨#[82, 49]⟩, .string tn, .int .i64 fa, .int .i64 fb, .int .i64 (f + n), .slice (some ⟨g2, o2, none⟩) n2 rc2] 26) from cB_v12)).1).trans cB_v12
            have cJ_v14 : v14.heap[D3]? = some (.cells #[.string ⟨#[82, 48]⟩, .string tn, .int .i64 fa, .int .i64 fb, .int .i64 f, .slice sj (n + n2) cj] 26) := (hb_v14.block (D3) (Array.getElem?_eq_some_iff.1 (show v12.heap[D3]? = some (.cells #[.string ⟨#[82, 48]⟩, .string tn, .int .i64 fa, .int .i64 fb, .int .i64 f, .slice sj (n + n2) cj] 26) from cJ_v12)).1).trans cJ_v12
            have cT_v14 : v14.heap[D3 + 1]? = some (.cells #[.string ⟨#[82, 48]⟩, .string tn, .int .i64 fa, .int .i64 fb, .int .i64 f, .slice sr (n + n2) cr] 26) := (hb_v14.block (D3 + 1) (Array.getElem?_eq_some_iff.1 (show v12.heap[D3 + 1]? = some (.cells #[.string ⟨#[82, 48]⟩, .string tn, .int .i64 fa, .int .i64 fb, .int .i64 f, .slice sr (n + n2) cr] 26) from cT_v12)).1).trans cT_v12
            have hw_v14 : Below D4 U2 v14 := (hw_v12).trans (hb_v14.mono (by first | omega | (simp; omega)))
            clear cA_v12 cB_v12 cJ_v12 cT_v12 hb_v14 y13_0 y13_1 y13_2 y13_3 y13_4 y13_5 W24 hw_v12 hs_v14
            have ld15 : v14.heap[D3]? = some (.cells #[.string ⟨#[82, 48]⟩, .string tn, .int .i64 fa, .int .i64 fb, .int .i64 f, .slice sj (n + n2) cj] 26) := cJ_v14
            have y15_0 := cell6_0 ld15
            have y15_1 := cell6_1 ld15
            have y15_2 := cell6_2 ld15
            have y15_3 := cell6_3 ld15
            have y15_4 := cell6_4 ld15
            have y15_5 := cell6_5 ld15
            clear ld15
            have ld16 : v14.heap[D3 + 1]? = some (.cells #[.string ⟨#[82, 48]⟩, .string tn, .int .i64 fa, .int .i64 fb, .int .i64 f, .slice sr (n + n2) cr] 26) := cT_v14
            have y16_0 := cell6_0 ld16
            have y16_1 := cell6_1 ld16
            have y16_2 := cell6_2 ld16
            have y16_3 := cell6_3 ld16
            have y16_4 := cell6_4 ld16
            have y16_5 := cell6_5 ld16
            clear ld16
            have W25 : Wd v14 (.slice sj (n + n2) cj) (n + n2) (fun k => if k < n then X k else X2 (k - n)) := hJ4.out.below (by first | exact hw_v14 | (rw [hD4]; exact hw_v14))
            have W26 : Wd v14 (.slice sr (n + n2) cr) (n + n2) (fun k => if k < n then X k else X2 (k - n)) := hT4.out.below (by first | exact hw_v14 | (rw [hD4]; exact hw_v14))
            go_wp2_with fail
            refine (SJ.out _ _ _ W25 W26).mono ?_
            rintro e v17 ⟨rfl, hb_v17⟩
            have hs_v17 := hw_v14.size
            have cA_v17 : v17.heap[EA]? = some (.cells #[.string ⟨#[82, 48]⟩, .string tn, .int .i64 fa, .int .i64 fb, .int .i64 f, .slice (some ⟨g, o, none⟩) n rc] 26) := (hb_v17.block (EA) (Array.getElem?_eq_some_iff.1 (show v14.heap[EA]? = some (.cells #[.string ⟨#[82, 48]⟩, .string tn, .int .i64 fa, .int .i64 fb, .int .i64 f, .slice (some ⟨g, o, none⟩) n rc] 26) from cA_v14)).1).trans cA_v14
            have cB_v17 : v17.heap[EB]? = some (.cells #[.string ⟨#[82, 49]⟩, .string tn, .int .i64 fa, .int .i64 fb, .int .i64 (f + n), .slice (some ⟨g2, o2, none⟩) n2 rc2] 26) := (hb_v17.block (EB) (Array.getElem?_eq_some_iff.1 (show v14.heap[EB]? = some (.cells #[.string ⟨#[82, 49]⟩, .string tn, .int .i64 fa, .int .i64 fb, .int .i64 (f + n), .slice (some ⟨g2, o2, none⟩) n2 rc2] 26) from cB_v14)).1).trans cB_v14
            have cJ_v17 : v17.heap[D3]? = some (.cells #[.string ⟨#[82, 48]⟩, .string tn, .int .i64 fa, .int .i64 fb, .int .i64 f, .slice sj (n + n2) cj] 26) := (hb_v17.block (D3) (Array.getElem?_eq_some_iff.1 (show v14.heap[D3]? = some (.cells #[.string ⟨#[82, 48]⟩, .string tn, .int .i64 fa, .int .i64 fb, .int .i64 f, .slice sj (n + n2) cj] 26) from cJ_v14)).1).trans cJ_v14
            have cT_v17 : v17.heap[D3 + 1]? = some (.cells #[.string ⟨#[82, 48]⟩, .string tn, .int .i64 fa, .int .i64 fb, .int .i64 f, .slice sr (n + n2) cr] 26) := (hb_v17.block (D3 + 1) (Array.getElem?_eq_some_iff.1 (show v14.heap[D3 + 1]? = some (.cells #[.string ⟨#[82, 48]⟩, .string tn, .int .i64 fa, .int .i64 fb, .int .i64 f, .slice sr (n + n2) cr] 26) from cT_v14)).1).trans cT_v14
            have hw_v17 : Below D4 U2 v17 := (hw_v14).trans (hb_v17.mono (by first | omega | (simp; omega)))
            clear cA_v14 cB_v14 cJ_v14 cT_v14 hb_v17 y15_0 y15_1 y15_2 y15_3 y15_4 y15_5 y16_0 y16_1 y16_2 y16_3 y16_4 y16_5 W25 W26 hw_v14 hs_v17
            have HW := Lib.hid (show Below D w (v17) from (HB2.out.trans (((HB3.out.trans (((HB4.out.trans ((hw_v17).mono (by first | exact HB4.out.size | (have := HB4.out.size; simp only [hD] at *; omega) | (have := HB4.out.size; omega))))).mono (by first | exact HB3.out.size | (have := HB3.out.size; simp only [hD] at *; omega) | (have := HB3.out.size; omega))))).mono (by first | exact HB2.out.size | (have := HB2.out.size; simp only [hD] at *; omega) | (have := HB2.out.size; omega)))))
            go_wp2
            go_ret
            exact ⟨rfl, by first | exact HW.out | (rw [hD]; exact HW.out)⟩
theorem joins_walk (t ft f p w0 w1 w2 w3 w4 : Int) (bt : 0 ≤ t ∧ t ≤ 255) (bft : 0 ≤ ft ∧ ft ≤ 255) (bf : -128 ≤ f ∧ f ≤ 127) (bp : 0 ≤ p ∧ p ≤ 255) (b0 : 0 ≤ w0 ∧ w0 ≤ 255) (b1 : 0 ≤ w1 ∧ w1 ≤ 255) (b2 : 0 ≤ w2 ∧ w2 ≤ 255) (b3 : 0 ≤ w3 ∧ w3 ≤ 255) (b4 : 0 ≤ w4 ∧ w4 ≤ 255) (t2 ft2 f2 p2 w02 w12 w22 w32 w42 : Int) (bt2 : 0 ≤ t2 ∧ t2 ≤ 255) (bft2 : 0 ≤ ft2 ∧ ft2 ≤ 255) (bf2 : -128 ≤ f2 ∧ f2 ≤ 127) (bp2 : 0 ≤ p2 ∧ p2 ≤ 255) (b02 : 0 ≤ w02 ∧ w02 ≤ 255) (b12 : 0 ≤ w12 ∧ w12 ≤ 255) (b22 : 0 ≤ w22 ∧ w22 ≤ 255) (b32 : 0 ≤ w32 ∧ w32 ≤ 255) (b42 : 0 ≤ w42 ∧ w42 ≤ 255) (follows : Bool) (w : World) (G : Gi w) :
    Calls Tryz.prog 9 #[.agg #[.int .u8 t, .int .u8 ft, .int .i8 f, .int .u8 p, .int .u8 w0, .int .u8 w1, .int .u8 w2, .int .u8 w3, .int .u8 w4], .agg #[.int .u8 t2, .int .u8 ft2, .int .i8 f2, .int .u8 p2, .int .u8 w02, .int .u8 w12, .int .u8 w22, .int .u8 w32, .int .u8 w42], .bool follows] w fun e w' => e = .returned (.bool true) ∧ Below w.heap.size w w' := by
  cases follows
  · exact joins_walk_f t ft f p w0 w1 w2 w3 w4 bt bft bf bp b0 b1 b2 b3 b4 t2 ft2 f2 p2 w02 w12 w22 w32 w42 bt2 bft2 bf2 bp2 b02 b12 b22 b32 b42 w G
  · exact joins_walk_t t ft f p w0 w1 w2 w3 w4 bt bft bf bp b0 b1 b2 b3 b4 t2 ft2 f2 p2 w02 w12 w22 w32 w42 bt2 bft2 bf2 bp2 b02 b12 b22 b32 b42 w G

end Go.Proofs.YtbkbncapgljfaaaGreatDoor
