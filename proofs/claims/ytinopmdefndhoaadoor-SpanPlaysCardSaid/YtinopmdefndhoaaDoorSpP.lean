/- The law's Plays: the loop over the divisions. -/
import Derived.Test.YtinopmdefndhoaaDoorSpX
namespace Go.Proofs.YtinopmdefndhoaaDoor
open Go Go.RowKit Go.Shelf

theorem info_notes : (Tryd.prog.info? 26).map (fun i => (i.zero, i.size, i.bytes)) = some (some (.agg #[.int .u64 0, .int .u64 0]), 2, 16) := by kernel_rfl
/-- What Plays has counted: the feet's notes, the lowest, the highest, the hands' sets. -/
structure PlS where
  feet : Nat
  low : Nat
  high : Nat
  hands : List (Nat × Nat)
def setN (s : Nat × Nat) : List Nat := Ns.notes s.1 s.2
def PlS.step (Q : PlS) (ped : Bool) (s : Nat × Nat) : PlS :=
  if (setN s).length = 0 then Q else if ped then { Q with feet := Q.feet + (setN s).length, low := min Q.low ((setN s).getD 0 0), high := max Q.high ((setN s).getD ((setN s).length - 1) 0) }
  else { Q with hands := Q.hands ++ [s] }
def plU (P : Nat → Bool) (S : Nat → Nat × Nat) : Nat → PlS
  | 0 => ⟨0, 127, 0, []⟩
  | k + 1 => (plU P S k).step (P k) (S k)
def pairs (l : List (Nat × Nat)) : List Value := l.flatMap fun s => [.int .u64 (s.1 : Nat), .int .u64 (s.2 : Nat)]
theorem pairs_snoc (l : List (Nat × Nat)) (s : Nat × Nat) : pairs (l ++ [s]) = pairs l ++ [.int .u64 (s.1 : Nat), .int .u64 (s.2 : Nat)] := by simp [pairs]
theorem cell_two_new (w : World) (x y : Value) (t : TypeId) : ∀ j u, [x, y][j]? = some u → (w.alloc (.cells #[x, y] t)).cell? ((⟨w.heap.size, 0, none⟩ : Addr).add j) = some u := by
  intro j u hj
  match j, hj with
  | 0, hj => simp at hj; subst hj; simp [Addr.add]
  | 1, hj => simp at hj; subst hj; simp [Addr.add]
theorem setN_at (s : Nat × Nat) (j : Nat) (h : j < (setN s).length) : (setN s).getD j 0 ≤ 127 := by
  have := Ns.notes_lt (List.getElem_mem h)
  rw [List.getD_eq_getElem?_getD, List.getElem?_eq_getElem h]
  simp
  omega
theorem plU_bd (P : Nat → Bool) (S : Nat → Nat × Nat) (k : Nat) : (plU P S k).feet ≤ 128 * k ∧ (plU P S k).low ≤ 127 ∧ (plU P S k).high ≤ 127 ∧ (plU P S k).hands.length ≤ k := by
  induction k with
  | zero => simp [plU]
  | succ k ih =>
    obtain ⟨h1, h2, h3, h4⟩ := ih
    have e : plU P S (k + 1) = (plU P S k).step (P k) (S k) := rfl
    rw [e]
    unfold PlS.step
    have hl : (setN (S k)).length ≤ 128 := Ns.notes_length _ _
    split
    · exact ⟨by omega, h2, h3, by omega⟩
    · rename_i h0
      have g := setN_at (S k) ((setN (S k)).length - 1) (by omega)
      split
      · refine ⟨by show _ + _ ≤ _; omega, by show min _ _ ≤ _; omega, by show max _ _ ≤ _; omega, by show (plU P S k).hands.length ≤ _; omega⟩
      · refine ⟨by show (plU P S k).feet ≤ _; omega, h2, h3, by simp; omega⟩
theorem plU_hands (P : Nat → Bool) (S : Nat → Nat × Nat) (k : Nat) (h : ∀ i, i < k → (S i).1 < 18446744073709551616 ∧ (S i).2 < 18446744073709551616) :
    ∀ s, s ∈ (plU P S k).hands → s.1 < 18446744073709551616 ∧ s.2 < 18446744073709551616 := by
  induction k with
  | zero => intro s hs; simp [plU] at hs
  | succ k ih =>
    intro s hs
    have e : plU P S (k + 1) = (plU P S k).step (P k) (S k) := rfl
    rw [e] at hs
    unfold PlS.step at hs
    have ih2 := ih fun i hi => h i (by omega)
    split at hs
    · exact ih2 s hs
    · split at hs
      · exact ih2 s hs
      · rcases List.mem_append.1 hs with k1 | k1
        · exact ih2 s k1
        · rw [List.mem_singleton.1 k1]; exact h k (by omega)
/-- Divisions: their pedals. -/
def DivsAt (W : World) (v : Value) (n : Nat) (P : Nat → Bool) : Prop :=
  ∃ a c, v = .slice a n c ∧ (0 < n → ∃ g off, a = some ⟨g, off, none⟩ ∧ g < W.heap.size ∧ ∀ i, i < n → W.cell? ⟨g, off + i * 5 + 1, none⟩ = some (.bool (P i)))
/-- Sets one behind the other. -/
def SetsAt (W : World) (v : Value) (n : Nat) (S : Nat → Nat × Nat) : Prop :=
  ∃ a c, v = .slice a n c ∧ (0 < n → ∃ g off, a = some ⟨g, off, none⟩ ∧ g < W.heap.size ∧ ∀ i, i < n → W.cell? ⟨g, off + i * 2, none⟩ = some (.int .u64 ((S i).1 : Nat)) ∧ W.cell? ⟨g, off + i * 2 + 1, none⟩ = some (.int .u64 ((S i).2 : Nat)))
theorem min_c (x y : Nat) : Value.int .i64 (min (x : Int) y) = .int .i64 ((min x y : Nat) : Int) := by congr 1; omega
theorem max_c (x y : Nat) : Value.int .i64 (max (x : Int) y) = .int .i64 ((max x y : Nat) : Int) := by congr 1; omega
theorem row_form {W : World} {B n : Nat} {v : Value} {xs : List Value} (h : W.ownsRow B 26 2 v n xs) : ∃ a c, v = .slice a n c ∧ (0 < n → ∃ g, a = some ⟨g, 0, none⟩ ∧ g < W.heap.size ∧ ∀ j u, xs[j]? = some u → W.cell? ⟨g, j, none⟩ = some u) := by
  rcases h.2 with ⟨rfl, hn⟩ | ⟨g, cap, cur, rfl, hgb, hg, hnc, hcm, hcs, htk⟩
  · exact ⟨_, _, by rw [hn], fun h0 => by omega⟩
  · refine ⟨_, _, rfl, fun _ => ⟨g, rfl, (Array.getElem?_eq_some_iff.1 hg).1, fun j u hu => ?_⟩⟩
    have h2 := h.cells (g := g) rfl j u hu
    by_cases hj : j = 0 <;> simpa [Addr.add, hj] using h2
/-- Whether the player can play. -/
def footB (c d : Int) (Q : PlS) : Bool := decide (c < Q.feet) || (decide (0 < Q.feet) && decide (d < (Q.high : Int) - Q.low))
def handB (a b : Int) : List (Nat × Nat) → Bool
  | [] => true
  | [s] => heldX (nth (setN s)) (setN s).length a b
  | [s, t] => holdX (nth (setN s)) (setN s).length a b && holdX (nth (setN t)) (setN t).length a b
  | _ => false
theorem ownsRow_below {A B : World} {base k size : Nat} {e : TypeId} {v : Value} {xs : List Value} (h : A.ownsRow base e size v k xs) (hb : Below A.heap.size A B) : B.ownsRow base e size v k xs :=
  ⟨h.1, h.2.imp id fun ⟨g, cap, cur, h1, h2, h3, h4⟩ => ⟨g, cap, cur, h1, h2, (hb.block g (Array.getElem?_eq_some_iff.1 h3).1).trans h3, h4⟩⟩
def PlW (V : World) (g : Nat) (s t : Nat × Nat) (A : World) : Prop := Below V.heap.size V A ∧ A.cell? ⟨g, 0, none⟩ = some (.int .u64 (s.1 : Nat)) ∧ A.cell? ⟨g, 1, none⟩ = some (.int .u64 (s.2 : Nat)) ∧ A.cell? ⟨g, 2, none⟩ = some (.int .u64 (t.1 : Nat)) ∧ A.cell? ⟨g, 3, none⟩ = some (.int .u64 (t.2 : Nat))
theorem cell_lt2 {A : World} {g o : Nat} {v : Value} (h : A.cell? ⟨g, o, none⟩ = some v) : g < A.heap.size := by
  rcases Nat.lt_or_ge g A.heap.size with k | k
  · exact k
  · exfalso
    have : A.heap[g]? = none := Array.getElem?_eq_none k
    simp [World.cell?, this] at h
theorem cell_up2 {A B : World} {g o : Nat} {v : Value} (hb : Below A.heap.size A B) (h : A.cell? ⟨g, o, none⟩ = some v) : B.cell? ⟨g, o, none⟩ = some v := (hb.cell (p := ⟨g, o, none⟩) (cell_lt2 h)).trans h
theorem PlW_up (V : World) (g : Nat) (s t : Nat × Nat) (A B : World) (hb : Below A.heap.size A B) (h : PlW V g s t A) : PlW V g s t B :=
  ⟨h.1.trans (hb.mono h.1.size), cell_up2 hb h.2.1, cell_up2 hb h.2.2.1, cell_up2 hb h.2.2.2.1, cell_up2 hb h.2.2.2.2⟩
theorem holds_l (v : Value) (l : List Nat) (k wd : Int) (w : World) (h : Lst w v l.length (nth l)) (hn : l.length ≤ 1000) (hX : ∀ j, j < l.length → 0 ≤ nth l j ∧ nth l j ≤ 127) :
    Calls Tryd.prog 22 #[v, .int .i64 k, .int .i64 wd] w fun e w' => e = .returned (.bool (holdX (nth l) l.length k wd)) ∧ Below w.heap.size w w' :=
  (holds_any v l.length (nth l) k wd w h.row hn hX).mono fun _ _ ⟨k1, nn, k2⟩ => ⟨k1, by rw [k2]; exact drew_below' w nn⟩

def plI (g hcp : Nat) (s t : Nat × Nat) : Nat → Value → World → Prop
  | 0, v, _ => v = .slice (some ⟨g, 0, none⟩) 2 hcp
  | 1, v, _ => v = .pointer (some ⟨g, 0, none⟩)
  | 2, v, _ => v = .agg #[.int .u64 (s.1 : Nat), .int .u64 (s.2 : Nat)]
  | 3, v, W => Lst W v (setN s).length (nth (setN s))
  | 4, v, _ => v = .slice (some ⟨g, 0, none⟩) 2 hcp
  | 5, v, _ => v = .pointer (some ⟨g, 2, none⟩)
  | 6, v, _ => v = .agg #[.int .u64 (t.1 : Nat), .int .u64 (t.2 : Nat)]
  | 7, v, W => Lst W v (setN t).length (nth (setN t))
  | 8, v, W => Lst W v (setN s).length (nth (setN s))
  | 9, v, W => Lst W v (setN t).length (nth (setN t))
  | _, _, _ => True

theorem plI_up (g hcp : Nat) (s t : Nat × Nat) : ∀ (j : Nat) (v : Value) (A B : World), Below A.heap.size A B → plI g hcp s t j v A → plI g hcp s t j v B
  | 0, _, _, _, _, h => h
  | 1, _, _, _, _, h => h
  | 2, _, _, _, _, h => h
  | 3, _, _, _, hb, h => Lst.below h hb
  | 4, _, _, _, _, h => h
  | 5, _, _, _, _, h => h
  | 6, _, _, _, _, h => h
  | 7, _, _, _, hb, h => Lst.below h hb
  | 8, _, _, _, hb, h => Lst.below h hb
  | 9, _, _, _, hb, h => Lst.below h hb
  | _ + 10, _, _, _, _, _ => trivial
set_option maxRecDepth 100000 in
set_option maxHeartbeats 2000000 in
theorem plays_loop (a b c d : Int) (lv kv : Value) (nl nk m : Nat) (P : Nat → Bool) (S : Nat → Nat × Nat) (w : World) (hl : DivsAt w lv nl P) (hk : SetsAt w kv nk S) (hm : min nl nk = m) (hm4 : m ≤ 4)
    (hS : ∀ i, i < m → (S i).1 < 18446744073709551616 ∧ (S i).2 < 18446744073709551616) :
    Calls Tryd.prog 24 #[.agg #[.int .i64 a, .int .i64 b, .int .i64 c, .int .i64 d], lv, kv] w fun e w' => e = .returned (.bool (!footB c d (plU P S m) && handB a b (plU P S m).hands)) ∧ Below w.heap.size w w' := by
  obtain ⟨la, lc, rfl, hl⟩ := hl
  obtain ⟨ka, kc, rfl, hk⟩ := hk
  obtain ⟨i0, hi0, hz0, hz1, hz2⟩ := info_parts info_notes
  obtain ⟨D, hD⟩ : ∃ D, w.heap.size = D := ⟨_, rfl⟩
  have HL := Lib.hid hl
  have HK := Lib.hid hk
  clear hl hk
  go_enter Tryd.func24, Tryd.ntmps24
  go_wp2_with fail
  go_loopw [7, 8, 9, 10, 11] (fun fv lo hi hv i wr => ∃ k : Nat, k ≤ m ∧ i = .int .i64 (k : Int) ∧ fv = .int .i64 ((plU P S k).feet : Nat) ∧ lo = .int .i64 ((plU P S k).low : Nat) ∧ hi = .int .i64 ((plU P S k).high : Nat) ∧ wr.ownsRow (D + 1) 26 2 hv (plU P S k).hands.length (pairs (plU P S k).hands) ∧ Below (D + 1) (w.alloc (.cells #[.int .i64 a, .int .i64 b, .int .i64 c, .int .i64 d] 23)) wr) (fun _ _ _ _ i _ => m - (intOf i).toNat)
  case atStart => exact ⟨0, Nat.zero_le _, rfl, rfl, rfl, rfl, World.ownsRow_nil _ _ _ _, by rw [← hD]; exact Below.refl _ _⟩
  case round =>
    obtain ⟨k, hk, rfl, rfl, rfl, rfl, hrow, hw⟩ := hrel
    have hsz := hw.size
    simp at hsz
    obtain ⟨bd1, bd2, bd3, bd4⟩ := plU_bd P S k
    have HST := Lib.hid (show plU P S (k + 1) = (plU P S k).step (P k) (S k) from rfl)
    obtain ⟨Q, hQ⟩ : ∃ Q, plU P S k = Q := ⟨_, rfl⟩
    rw [hQ] at HST hrow bd1 bd2 bd3 bd4
    rw [hQ]
    have HRW := Lib.hid hrow
    have HWW := Lib.hid hw
    clear hrow hw
    by_cases h1 : k < m
    · have h1a : (k : Int) < nl := by omega
      have h1b : (k : Int) < nk := by omega
      obtain ⟨lg, lo, rfl, hlg, hlx⟩ := HL.out (by omega)
      obtain ⟨kg, ko, rfl, hkg, hkx⟩ := HK.out (by omega)
      have up : ∀ g o, g < w.heap.size → wr.cell? ⟨g, o, none⟩ = w.cell? ⟨g, o, none⟩ := fun g o hg => (HWW.out.cell (p := ⟨g, o, none⟩) (show g < D + 1 by omega)).trans (((Below.refl w.heap.size w).alloc (Nat.le_refl _) _).cell (p := ⟨g, o, none⟩) hg)
      have x0 := (up lg _ hlg).trans (hlx k (by omega))
      have x1 := (up kg _ hkg).trans (hkx k (by omega)).1
      have x2 := (up kg _ hkg).trans (hkx k (by omega)).2
      clear up hlx hkx
      obtain ⟨s, hs⟩ : ∃ s, S k = s := ⟨_, rfl⟩
      have hsl := hS k h1
      rw [hs] at x1 x2 HST hsl
      have LI := Lib.hid (list_c s.1 s.2 hsl.1 hsl.2 wr)
      rw [show Ns.notes s.1 s.2 = setN s from rfl] at LI
      have hnl : (setN s).length ≤ 128 := Ns.notes_length _ _
      have l1 : k < nl := by omega
      have l2 : k < nk := by omega
      go_wp2_with fail
      refine LI.out.mono ?_
      rintro e w5 ⟨⟨nv, rfl, hnv⟩, hb5⟩
      have hz5 := hb5.size
      have y0 := (hb5.cell (p := ⟨lg, _, none⟩) (show lg < wr.heap.size by omega)).trans x0
      have y1 := (hb5.cell (p := ⟨kg, _, none⟩) (show kg < wr.heap.size by omega)).trans x1
      have y2 := (hb5.cell (p := ⟨kg, _, none⟩) (show kg < wr.heap.size by omega)).trans x2
      clear x0 x1 x2 LI
      have hrow5 : w5.ownsRow (D + 1) 26 2 _ _ _ := ownsRow_below HRW.out hb5
      obtain ⟨q, hq⟩ : ∃ q, (setN s).length = q := ⟨_, rfl⟩
      rw [hq] at hnv hnl
      by_cases h0 : q = 0
      · have hst := HST.out
        unfold PlS.step at hst
        rw [if_pos (hq.trans h0)] at hst
        have HS2 := Lib.hid hst
        clear hst HST hq
        subst h0
        obtain ⟨na, nc, rfl⟩ := hnv.len
        clear hnv y0 y1 y2
        go_wp2_with fail
        go_roundw
        case rel => exact ⟨k + 1, by omega, by go_num, by rw [HS2.out], by rw [HS2.out], by rw [HS2.out], by rw [HS2.out]; exact hrow5, HWW.out.trans (hb5.mono (by omega))⟩
        case measure => simp [intOf]; omega
      · obtain ⟨ng, nc, rfl, hnc, hng, hnx⟩ := hnv.resolve_left (fun h => h0 h.1)
        cases hp : P k with
        | false =>
          rw [hp] at HST y0
          have hst := HST.out
          unfold PlS.step at hst
          rw [if_neg (by omega), if_neg (by simp)] at hst
          have HS2 := Lib.hid hst
          clear hst HST hnx hp
          have h0i : ¬ (q : Int) = 0 := by omega
          have hll : (Q.hands ++ [s]).length = Q.hands.length + 1 := by simp
          go_wp2_with (at_builtin; refine wpList_append_own _ rfl _ _ 33 rfl (D + 1) 26 i0 (.agg #[.int .u64 0, .int .u64 0]) 2 16 Tryd.underlying33 hi0 hz0 hz1 hz2 rfl (by decide) _ _ _ rfl (hrow5.alloc _) ⟨w5.heap.size, 0, none⟩ 1 1 [.int .u64 (s.1 : Nat), .int .u64 (s.2 : Nat)] rfl rfl (cell_two_new _ _ _ _) (by simp [Value.oneCell']) (by unfold maxLen; omega) (by omega) (by simp; omega) ?_; intro v' w6 hown' hgrow _)
          have hb6 := grown_below (by omega) hrow5 hgrow
          go_roundw
          case rel => exact ⟨k + 1, by omega, by go_num, by rw [HS2.out], by rw [HS2.out], by rw [HS2.out], by rw [HS2.out]; show World.ownsRow _ _ _ _ _ (Q.hands ++ [s]).length (pairs (Q.hands ++ [s])); rw [pairs_snoc, hll]; exact hown', (HWW.out.trans (hb5.mono (by omega))).trans hb6⟩
          case measure => simp [intOf]; omega
        | true =>
          rw [hp] at HST y0
          have hst := HST.out
          unfold PlS.step at hst
          rw [if_neg (by omega), if_pos rfl] at hst
          have HS2 := Lib.hid hst
          clear hst HST hp
          have h0i : ¬ (q : Int) = 0 := by omega
          have n0 := hnx 0 (by omega)
          have n1 := hnx (q - 1) (by omega)
          rw [Nat.zero_add] at n0 n1
          have e1 : nth (setN s) 0 = (((setN s).getD 0 0 : Nat) : Int) := rfl
          have e2 : nth (setN s) (q - 1) = (((setN s).getD (q - 1) 0 : Nat) : Int) := rfl
          rw [e1] at n0
          rw [e2] at n1
          rw [hq] at HS2
          obtain ⟨f0, hf0⟩ : ∃ x, (setN s).getD 0 0 = x := ⟨_, rfl⟩
          obtain ⟨f1, hf1⟩ : ∃ x, (setN s).getD (q - 1) 0 = x := ⟨_, rfl⟩
          rw [hf0] at n0 HS2
          rw [hf1] at n1 HS2
          clear hnx e1 e2 hf0 hf1 hq
          have h0j : 0 < q := by omega
          have h0k : (0 : Int) < q := by omega
          go_wp2_with fail
          go_region
          have hbd : Below w5.heap.size w5 w5.drew := (Below.refl _ _).drew
          have hrow6 := ownsRow_below hrow5 hbd
          go_wp2_with fail
          go_roundw
          case rel =>
            exact ⟨k + 1, by omega, by go_num, by rw [HS2.out]; go_num, by rw [HS2.out]; exact min_c _ _, by rw [HS2.out]; exact max_c _ _, by rw [HS2.out]; exact hrow6, (HWW.out.trans (hb5.mono (by omega))).trans (hbd.mono (by omega))⟩
          case measure => simp [intOf]; omega
    · obtain rfl : k = m := by omega
      have h1a : ¬ ((k : Int) < nl ∧ (k : Int) < nk) := by omega
      have hp := (HWW.out.block D (by omega)).trans (heap_new (o := .cells #[.int .i64 a, .int .i64 b, .int .i64 c, .int .i64 d] 23) hD.symm)
      have p0 := cell4_0 hp
      have p1 := cell4_1 hp
      have p2 := cell4_2 hp
      have p3 := cell4_3 hp
      have hwb : Below D w wr := ((Below.refl D w).alloc (by omega) _).trans (HWW.out.mono (by omega))
      have HB := Lib.hid hwb
      have hS2 := hS
      have HP := Lib.hid hp
      clear hp hwb HST hS
      obtain ⟨ha, hcp, rfl, hce⟩ := row_form HRW.out
      have HCE := Lib.hid hce
      clear hce HRW HWW
      have fin : ∀ (V : World) (r : Bool), (!footB c d Q && handB a b Q.hands) = r → Below wr.heap.size wr V → (Ending.returned (.bool r) = .returned (.bool (!footB c d Q && handB a b Q.hands))) ∧ Below D w V := fun V r hr hb => ⟨by rw [hr], HB.out.trans (hb.mono (by have := HB.out.size; omega))⟩
      have FIN := Lib.hid fin
      have fin2 : ∀ (V : World) (r : Bool), (!footB c d Q && handB a b Q.hands) = r → Below wr.heap.size wr V → (Ending.returned (.bool r) = .returned (.bool (!footB c d (plU P S k) && handB a b (plU P S k).hands))) ∧ Below w.heap.size w V := fun V r hr hb => by rw [hQ, hD]; exact fin V r hr hb
      have FIN2 := Lib.hid fin2
      clear fin fin2
      have hgo : (¬ (k : Int) < nl) ∨ ((k : Int) < nl ∧ ¬ (k : Int) < nk) := by omega
      have hov : ¬ ((k : Int) < nl ∧ (k : Int) < nk) := h1a
      clear h1a h1
      cases hf : footB c d Q with
      | true =>
        have HF := Lib.hid hf
        simp only [footB, Bool.or_eq_true, Bool.and_eq_true, decide_eq_true_eq] at hf
        have hf2 : c < Q.feet ∨ (¬ c < Q.feet ∧ 0 < Q.feet ∧ d < (Q.high : Int) - Q.low) := by omega
        clear hf
        rcases hgo with g1 | ⟨g1, g2⟩ <;> rcases hf2 with f1 | ⟨f1, f2, f3⟩
        all_goals
          clear hov
          go_wp2_with fail
          go_ret
          exact FIN.out _ false (by rw [HF.out]; rfl) (Below.refl _ _)
      | false =>
        have HF := Lib.hid hf
        simp only [footB, Bool.or_eq_false_iff, Bool.and_eq_false_iff, decide_eq_false_iff_not] at hf
        have hf2 : ¬ c < Q.feet ∧ (Q.feet = 0 ∨ (0 < Q.feet ∧ ¬ d < (Q.high : Int) - Q.low)) := by omega
        clear hf
        obtain ⟨f1, hf3⟩ := hf2
        obtain ⟨hl, hhl⟩ : ∃ l, Q.hands = l := ⟨_, rfl⟩
        have HHL := Lib.hid hhl
        rw [hhl] at HCE
        rw [hhl]
        clear hhl
        match hl, HHL with
        | [], HHL =>
          rcases hgo with g1 | ⟨g1, g2⟩ <;> rcases hf3 with f2 | ⟨f2, f3⟩
          all_goals
            clear hov HCE
            try rw [f2] at *
            go_wp2_with fail
            go_ret
            exact FIN.out _ true (by rw [HF.out, HHL.out]; rfl) (Below.refl _ _)
        | [s], HHL =>
          obtain ⟨g, rfl, hgs, hgc⟩ := HCE.out (by simp)
          have x0 := hgc 0 (.int .u64 (s.1 : Nat)) rfl
          have x1 := hgc 1 (.int .u64 (s.2 : Nat)) rfl
          have hsb := plU_hands P S k hS2 s (by rw [hQ, HHL.out]; simp)
          have HE := Lib.hid (fun W => held_any a b c d s.1 s.2 hsb.1 hsb.2 W)
          rw [show Ns.notes s.1 s.2 = setN s from rfl] at HE
          rw [show [s].length = 1 from rfl]
          clear hgc hQ hsb
          rcases hgo with g1 | ⟨g1, g2⟩ <;> rcases hf3 with f2 | ⟨f2, f3⟩
          all_goals
            clear hov HCE
            try rw [f2] at *
            go_wp2_with fail
            go_region_with (go_at_call 28; refine (HE.out _).mono ?_; rintro e w5 ⟨rfl, hb5⟩)
            all_goals
              go_wp2_with fail
              go_ret
              have hh : (!footB c d Q && handB a b Q.hands) = heldX (nth (setN s)) (setN s).length a b := by rw [HF.out, HHL.out]; rfl
              first | exact FIN2.out _ _ hh (((Below.refl _ _).drew).trans hb5) | exact FIN.out _ _ hh (((Below.refl _ _).drew).trans hb5)
        | [s, t], HHL =>
          obtain ⟨g, rfl, hgs, hgc⟩ := HCE.out (by simp)
          have x0 := hgc 0 (.int .u64 (s.1 : Nat)) rfl
          have x1 := hgc 1 (.int .u64 (s.2 : Nat)) rfl
          have x2 := hgc 2 (.int .u64 (t.1 : Nat)) rfl
          have x3 := hgc 3 (.int .u64 (t.2 : Nat)) rfl
          have hsb := plU_hands P S k hS2 s (by rw [hQ, HHL.out]; simp)
          have htb := plU_hands P S k hS2 t (by rw [hQ, HHL.out]; simp)
          have HLs := Lib.hid (fun W => list_c s.1 s.2 hsb.1 hsb.2 W)
          have HLt := Lib.hid (fun W => list_c t.1 t.2 htb.1 htb.2 W)
          rw [show Ns.notes s.1 s.2 = setN s from rfl] at HLs
          rw [show Ns.notes t.1 t.2 = setN t from rfl] at HLt
          have HP2 := HP
          rw [show [s, t].length = 2 from rfl]
          have HR := Lib.hid (show PlW wr g s t wr from ⟨Below.refl _ _, x0, x1, x2, x3⟩)
          clear hgc hQ hsb htb x0 x1 x2 x3 p0 p1
          rcases hgo with g1 | ⟨g1, g2⟩ <;> rcases hf3 with f2 | ⟨f2, f3⟩
          all_goals
            clear hov HCE
            try rw [f2] at *
            go_wp2_with fail
            refine wp_region_slots_at rfl rfl (fun base ys => (((((((((base.set 94 (ys 0)).set 95 (ys 1)).set 96 (ys 2)).set 97 (ys 3)).set 98 (ys 4)).set 99 (ys 5)).set 100 (ys 6)).set 101 (ys 7)).set 13 (ys 8)).set 14 (ys 9)) (BelowI _ (PlW wr g s t) (plI g hcp s t)) (fun _ => undef) (by kernel_rfl) (below_start (PlW_up wr g s t wr wr.drew ⟨rfl, rfl, rfl, Nat.le_refl _, fun _ _ => rfl⟩ HR.out)) ?h
            case h =>
              intro FF hFF
              simp only [List.set_cons_succ, List.set_cons_zero] at hFF
              subst hFF
              refine ⟨rfl, ?_, ?_⟩
              refine ⟨?_, ?_⟩
              · refine SlotStep.below (PlW_up wr g s t) (plI_up g hcp s t) ?_
                intro ys W hR hd K hK
                go_simp
                have hK2 := hK (.slice (some ⟨g, 0, none⟩) 2 hcp) _ (Below.refl _ _) rfl
                simp (config := { decide := true }) only [upd, if_true, if_false] at hK2
                exact hK2
              refine ⟨?_, ?_⟩
              · refine SlotStep.below (PlW_up wr g s t) (plI_up g hcp s t) ?_
                intro ys W hR hd K hK
                have dd0 : ys 0 = (.slice (some ⟨g, 0, none⟩) 2 hcp) := hd 0 (by kernel_rfl) (by decide)
                go_simp
                have hK2 := hK (.pointer (some ⟨g, 0, none⟩)) _ (Below.refl _ _) rfl
                simp (config := { decide := true }) only [upd, if_true, if_false, dd0] at hK2
                exact hK2
              refine ⟨?_, ?_⟩
              · refine SlotStep.below (PlW_up wr g s t) (plI_up g hcp s t) ?_
                intro ys W hR hd K hK
                have dd1 : ys 1 = (.pointer (some ⟨g, 0, none⟩)) := hd 1 (by kernel_rfl) (by decide)
                have c0 := hR.2.1
                have c1 := hR.2.2.1
                go_simp
                have hK2 := hK (.agg #[.int .u64 (s.1 : Nat), .int .u64 (s.2 : Nat)]) _ (Below.refl _ _) rfl
                simp (config := { decide := true }) only [upd, if_true, if_false, dd1] at hK2
                exact hK2
              refine ⟨?_, ?_⟩
              · refine SlotStep.below (PlW_up wr g s t) (plI_up g hcp s t) ?_
                intro ys W hR hd K hK
                have dd2 : ys 2 = (.agg #[.int .u64 (s.1 : Nat), .int .u64 (s.2 : Nat)]) := hd 2 (by kernel_rfl) (by decide)
                go_simp
                refine (HLs.out W).mono ?_
                rintro e w5 ⟨⟨v5, rfl, hv5⟩, hb5⟩
                have hK2 := hK (v5) _ hb5 hv5
                simp (config := { decide := true }) only [upd, if_true, if_false, dd2] at hK2
                exact hK2
              refine ⟨?_, ?_⟩
              · refine SlotStep.below (PlW_up wr g s t) (plI_up g hcp s t) ?_
                intro ys W hR hd K hK
                go_simp
                have hK2 := hK (.slice (some ⟨g, 0, none⟩) 2 hcp) _ (Below.refl _ _) rfl
                simp (config := { decide := true }) only [upd, if_true, if_false] at hK2
                exact hK2
              refine ⟨?_, ?_⟩
              · refine SlotStep.below (PlW_up wr g s t) (plI_up g hcp s t) ?_
                intro ys W hR hd K hK
                have dd4 : ys 4 = (.slice (some ⟨g, 0, none⟩) 2 hcp) := hd 4 (by kernel_rfl) (by decide)
                go_simp
                have hK2 := hK (.pointer (some ⟨g, 2, none⟩)) _ (Below.refl _ _) rfl
                simp (config := { decide := true }) only [upd, if_true, if_false, dd4] at hK2
                exact hK2
              refine ⟨?_, ?_⟩
              · refine SlotStep.below (PlW_up wr g s t) (plI_up g hcp s t) ?_
                intro ys W hR hd K hK
                have dd5 : ys 5 = (.pointer (some ⟨g, 2, none⟩)) := hd 5 (by kernel_rfl) (by decide)
                have c0 := hR.2.2.2.1
                have c1 := hR.2.2.2.2
                go_simp
                have hK2 := hK (.agg #[.int .u64 (t.1 : Nat), .int .u64 (t.2 : Nat)]) _ (Below.refl _ _) rfl
                simp (config := { decide := true }) only [upd, if_true, if_false, dd5] at hK2
                exact hK2
              refine ⟨?_, ?_⟩
              · refine SlotStep.below (PlW_up wr g s t) (plI_up g hcp s t) ?_
                intro ys W hR hd K hK
                have dd6 : ys 6 = (.agg #[.int .u64 (t.1 : Nat), .int .u64 (t.2 : Nat)]) := hd 6 (by kernel_rfl) (by decide)
                go_simp
                refine (HLt.out W).mono ?_
                rintro e w5 ⟨⟨v5, rfl, hv5⟩, hb5⟩
                have hK2 := hK (v5) _ hb5 hv5
                simp (config := { decide := true }) only [upd, if_true, if_false, dd6] at hK2
                exact hK2
              refine ⟨?_, ?_⟩
              · refine SlotStep.below (PlW_up wr g s t) (plI_up g hcp s t) ?_
                intro ys W hR hd K hK
                go_simp
                have d3 : Lst W (ys 3) (setN s).length (nth (setN s)) := hd 3 (by kernel_rfl) (by decide)
                have hK2 := hK (ys 3) _ (Below.refl _ _) d3
                simp (config := { decide := true }) only [upd, if_true, if_false] at hK2
                exact hK2
              refine ⟨?_, ?_⟩
              · refine SlotStep.below (PlW_up wr g s t) (plI_up g hcp s t) ?_
                intro ys W hR hd K hK
                go_simp
                have d7 : Lst W (ys 7) (setN t).length (nth (setN t)) := hd 7 (by kernel_rfl) (by decide)
                have hK2 := hK (ys 7) _ (Below.refl _ _) d7
                simp (config := { decide := true }) only [upd, if_true, if_false] at hK2
                exact hK2
              trivial
              · intro L5 ys5 W5 hL5 hI5
                obtain ⟨hR5, hj5⟩ := hI5
                have d8 : Lst W5 (ys5 8) (setN s).length (nth (setN s)) := hj5 8 (by decide) (hL5 8 (by decide))
                have d9 : Lst W5 (ys5 9) (setN t).length (nth (setN t)) := hj5 9 (by decide) (hL5 9 (by decide))
                have hz5 := hR5.1.size
                have hp5 := (hR5.1.block D (by have := (Array.getElem?_eq_some_iff.1 HP2.out).1; omega)).trans HP2.out
                have HW5 := Lib.hid hR5.1
                clear hR5 hj5 hL5
                obtain ⟨v8, hv8⟩ : ∃ x, ys5 8 = x := ⟨_, rfl⟩
                obtain ⟨v9, hv9⟩ : ∃ x, ys5 9 = x := ⟨_, rfl⟩
                rw [hv8] at d8
                rw [hv9] at d9
                simp only [hv8, hv9]
                have HA := Lib.hid (holds_l v8 (setN s) a b W5 d8 (Nat.le_trans (Ns.notes_length _ _) (by omega)) (notes_bd s.1 s.2).2)
                have HB := Lib.hid (fun W (h : Below W5.heap.size W5 W) => holds_l v9 (setN t) a b W (d9.below h) (Nat.le_trans (Ns.notes_length _ _) (by omega)) (notes_bd t.1 t.2).2)
                clear d8 d9 hv8 hv9
                have p0 := cell4_0 hp5
                have p1 := cell4_1 hp5
                cases hsa : holdX (nth (setN s)) (setN s).length a b with
                | false =>
                  rw [hsa] at HA
                  go_wp2_with fail
                  refine HA.out.mono ?_
                  rintro e w7 ⟨rfl, hb7⟩
                  go_wp2_with fail
                  go_ret
                  have hh : (!footB c d Q && handB a b Q.hands) = false := by rw [HF.out, HHL.out]; simp [handB, hsa]
                  first | exact FIN2.out _ _ hh (HW5.out.trans (hb7.mono hz5)) | exact FIN.out _ _ hh (HW5.out.trans (hb7.mono hz5))
                | true =>
                  rw [hsa] at HA
                  go_wp2_with fail
                  refine HA.out.mono ?_
                  rintro e w7 ⟨rfl, hb7⟩
                  clear p0 p1
                  have hz7 := hb7.size
                  have hp7 := (hb7.block D (by have := (Array.getElem?_eq_some_iff.1 HP2.out).1; omega)).trans hp5
                  have p0 := cell4_0 hp7
                  have p1 := cell4_1 hp7
                  go_wp2_with fail
                  refine (HB.out _ hb7).mono ?_
                  rintro e w8 ⟨rfl, hb8⟩
                  go_wp2_with fail
                  go_ret
                  have hh : (!footB c d Q && handB a b Q.hands) = holdX (nth (setN t)) (setN t).length a b := by rw [HF.out, HHL.out]; simp [handB, hsa]
                  first | exact FIN2.out _ _ hh ((HW5.out.trans (hb7.mono hz5)).trans (hb8.mono (by omega))) | exact FIN.out _ _ hh ((HW5.out.trans (hb7.mono hz5)).trans (hb8.mono (by omega)))
        | s :: t :: u :: r, HHL =>
          obtain ⟨q, hq⟩ : ∃ q, (s :: t :: u :: r).length = q := ⟨_, rfl⟩
          have hq3 : 3 ≤ q := by rw [← hq]; simp
          rw [hq]
          have q0 : ¬ (q : Int) = 0 := by omega
          have q1 : ¬ (q : Int) = 1 := by omega
          have q2 : ¬ (q : Int) = 2 := by omega
          clear hq
          rcases hgo with g1 | ⟨g1, g2⟩ <;> rcases hf3 with f2 | ⟨f2, f3⟩
          all_goals
            clear hov HCE
            try rw [f2] at *
            go_wp2_with fail
            go_ret
            exact FIN.out _ false (by rw [HF.out, HHL.out]; rfl) (Below.refl _ _)
end Go.Proofs.YtinopmdefndhoaaDoor
