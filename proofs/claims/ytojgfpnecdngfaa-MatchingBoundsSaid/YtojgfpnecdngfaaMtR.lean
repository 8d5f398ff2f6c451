/- The law's known. -/
import Derived.Test.YtojgfpnecdngfaaMtQ
namespace Go.Proofs.Ytojgfpnecdngfaa
open Go Go.RowKit Go.Shelf

theorem below_drewN {B : Nat} {a w : World} (h : Below B a w) (n : Nat) : Below B a (w.drewN n) := ⟨h.os, h.tape, h.output, h.size, h.block⟩
def rk (i : Nat) : Int := ([3, 2, 2] : List Int).getD i 0
def ck (i : Nat) : Int := ([0, -2, 0] : List Int).getD i 0
theorem ex_bound {v x : Int} (h : BdRes 3 3 3 3 exf rk ck 1000000000000 v x) : v = 5 ∧ x = 0 := by
  have hs : szE 3 3 3 3 rk ck = 0 := sz_0 (by simp) ⟨fun i hi => by
    obtain rfl | rfl | rfl : i = 0 ∨ i = 1 ∨ i = 2 := by omega
    all_goals decide, fun i hi => by
    obtain rfl | rfl | rfl : i = 0 ∨ i = 1 ∨ i = 2 := by omega
    all_goals decide⟩
  have hv : Vd 3 3 exf rk ck 1000000000000 := ⟨fun k hk => by
    obtain rfl | rfl | rfl : k = 0 ∨ k = 1 ∨ k = 2 := by omega
    all_goals decide, fun i hi => by
    obtain rfl | rfl | rfl : i = 0 ∨ i = 1 ∨ i = 2 := by omega
    all_goals
      refine ⟨by decide, fun k hk => ?_⟩
      obtain rfl | rfl | rfl : k = 0 ∨ k = 1 ∨ k = 2 := by omega
      all_goals decide⟩
  rcases h with h | h | h
  · exact absurd hs h.1
  · exact absurd hv h.2.1
  · exact ⟨by rw [h.2.2.1]; decide, h.2.2.2⟩

set_option maxRecDepth 100000 in
set_option maxHeartbeats 4000000 in
theorem known_c (w : World) : Calls Try.prog 12 #[] w fun e w' => e = .returned (.bool true) ∧ Below w.heap.size w w' := by
  have EX := Lib.hid (fun W => example_c W)
  go_enter Try.func12, Try.ntmps12
  go_wp2_with fail
  refine (EX.out _).mono ?_
  rintro e w1 ⟨⟨g1, rfl, hT1⟩, hb1⟩
  have BE := Lib.hid (best_ok w1.heap.size 3 (some ⟨g1, 0, none⟩) 3 (fun _ => 3) exf w1 (by omega) (fun _ _ => by omega) hT1 (Nat.le_refl _) 3 rfl (exf_ch true))
  have H1 := Lib.hid hb1
  clear hT1 hb1
  go_wp2_with fail
  refine BE.out.mono ?_
  rintro e w2 ⟨⟨v, rfl, gX, gR, gC, col, r, c, tot, rfl, hX, _, _, _, hs⟩, hb2⟩
  obtain ⟨rfl, hc0⟩ := ex_best hs
  have x0 := hX.cell (i := 0) (by omega)
  rw [hc0] at x0
  have zX := hX.lt
  clear hs hX hc0
  obtain ⟨W3, hW3⟩ : ∃ W3, w2.alloc (.cells #[.slice (some ⟨gX, 0, none⟩) 3 3, .int .i64 5, .slice (some ⟨gR, 0, none⟩) 3 3, .slice (some ⟨gC, 0, none⟩) 3 3] 29) = W3 := ⟨_, rfl⟩
  have hb3 : Below w2.heap.size w2 W3 := by rw [← hW3]; exact (Below.refl _ _).alloc (Nat.le_refl _) _
  have h3 : W3.heap[w2.heap.size]? = some (.cells #[.slice (some ⟨gX, 0, none⟩) 3 3, .int .i64 5, .slice (some ⟨gR, 0, none⟩) 3 3, .slice (some ⟨gC, 0, none⟩) 3 3] 29) := by rw [← hW3]; exact heap_newM _ _
  have z3 : w2.heap.size < W3.heap.size := by rw [← hW3]; simp
  have x3 := (hb3.cell (p := ⟨gX, 0, none⟩) zX).trans x0
  have z2 := hb2.size
  have z1 := H1.out.size
  have H3 := Lib.hid (And.intro ((H1.out.trans (hb2.mono z1)).trans (hb3.mono (by omega))) (And.intro h3 x3))
  clear hb2 hb3 h3 x0 x3
  go_wp2_with fail
  try rw [hW3]
  refine (EX.out _).mono ?_
  rintro e w4 ⟨⟨g4, rfl, hT4⟩, hb4⟩
  have PA := Lib.hid (partial_ok w4.heap.size 3 (some ⟨g4, 0, none⟩) 3 (fun _ => 3) exf 1 w4 (by omega) (fun _ _ => by omega) hT4 (Nat.le_refl _) 3 rfl (by unfold chP; rw [exf_ch]; decide))
  have H4 := Lib.hid hb4
  clear hT4 hb4
  go_wp2_with fail
  refine PA.out.mono ?_
  rintro e w5 ⟨⟨v, rfl, gX5, gR5, pa5, pc5, col5, r5, c5, tot5, rfl, _, _, _, _, hs⟩, hb5⟩
  have ht5 := ex_partial hs
  subst ht5
  clear hs
  obtain ⟨W6, hW6⟩ : ∃ W6, w5.alloc (.cells #[.slice (some ⟨gX5, 0, none⟩) 3 3, .int .i64 2, .slice (some ⟨gR5, 0, none⟩) 3 3, .slice pa5 3 pc5] 29) = W6 := ⟨_, rfl⟩
  have hb6 : Below w5.heap.size w5 W6 := by rw [← hW6]; exact (Below.refl _ _).alloc (Nat.le_refl _) _
  have h6 : W6.heap[w5.heap.size]? = some (.cells #[.slice (some ⟨gX5, 0, none⟩) 3 3, .int .i64 2, .slice (some ⟨gR5, 0, none⟩) 3 3, .slice pa5 3 pc5] 29) := by rw [← hW6]; exact heap_newM _ _
  have z6 : w5.heap.size < W6.heap.size := by rw [← hW6]; simp
  have z4 := H4.out.size
  have z5 := hb5.size
  have hb36 : Below W3.heap.size W3 W6 := (H4.out.trans (hb5.mono z4)).trans (hb6.mono (by omega))
  have H6 := Lib.hid (And.intro hb36 h6)
  clear hb5 hb6 h6 hb36
  go_wp2_with fail
  try rw [hW6]
  refine (EX.out _).mono ?_
  rintro e w7 ⟨⟨g7, rfl, hT7⟩, hb7⟩
  obtain ⟨W9, hW9⟩ : ∃ W9, (w7.alloc (.cells #[.int .i64 3, .int .i64 2, .int .i64 2] 3)).alloc (.cells #[.int .i64 0, .int .i64 (-2), .int .i64 0] 3) = W9 := ⟨_, rfl⟩
  have hb9 : Below w7.heap.size w7 W9 := by rw [← hW9]; exact ((Below.refl _ _).alloc (Nat.le_refl _) _).alloc (by simp) _
  have ha : W9.heap[w7.heap.size]? = some (.cells #[.int .i64 3, .int .i64 2, .int .i64 2] 3) := by rw [← hW9]; exact heap_old (heap_at rfl)
  have hbb : W9.heap[w7.heap.size + 1]? = some (.cells #[.int .i64 0, .int .i64 (-2), .int .i64 0] 3) := by rw [← hW9]; exact heap_at (by simp)
  have z9 := hb9.size
  have BO := Lib.hid (boundE_c W9.heap.size 3 3 3 3 (some ⟨g7, 0, none⟩) (some ⟨w7.heap.size, 0, none⟩) (some ⟨w7.heap.size + 1, 0, none⟩) 3 3 3 (fun _ => 3) exf rk ck W9 (by omega) (fun _ _ => by omega) rfl (by omega) (by omega) ((hT7.below hb9 (Nat.le_refl _)).mono z9) (row3 ha rk rfl rfl rfl (Array.getElem?_eq_some_iff.1 ha).1) (row3 hbb ck rfl rfl rfl (Array.getElem?_eq_some_iff.1 hbb).1))
  have z7 := hb7.size
  have hb69 : Below W6.heap.size W6 W9 := hb7.trans (hb9.mono z7)
  have H9 := Lib.hid hb69
  clear hT7 hb7 hb9 ha hbb hb69
  go_wp2_with fail
  try rw [hW9]
  refine BO.out.mono ?_
  rintro e w10 hpost
  obtain ⟨d, rfl, rfl⟩ : ∃ d, e = .returned (.tuple #[.int .i64 5, .int .i64 0]) ∧ w10 = W9.drewN d := by
    rcases hpost with ⟨h, _⟩ | ⟨_, ⟨v, x, rfl, hb⟩, d, rfl⟩
    · exact absurd (exf_ch true) h
    · obtain ⟨rfl, rfl⟩ := ex_bound hb
      exact ⟨d, rfl, rfl⟩
  clear hpost
  have hA := (H9.out.block w2.heap.size (by have := H6.out.1.size; omega)).trans ((H6.out.1.block w2.heap.size z3).trans H3.out.2.1)
  have hB := (H9.out.block w5.heap.size z6).trans H6.out.2
  have c0 : W9.cell? ⟨w2.heap.size, 0, none⟩ = some (.slice (some ⟨gX, 0, none⟩) 3 3) := by simp [World.cell?, hA]
  have c1 : W9.cell? ⟨w2.heap.size, 1, none⟩ = some (.int .i64 5) := by simp [World.cell?, hA]
  have c2 : W9.cell? ⟨w5.heap.size, 1, none⟩ = some (.int .i64 2) := by simp [World.cell?, hB]
  have c3 : W9.cell? ⟨gX, 0, none⟩ = some (.int .i64 1) := (H9.out.cell (p := ⟨gX, 0, none⟩) (show gX < W6.heap.size by have := H6.out.1.size; omega)).trans ((H6.out.1.cell (p := ⟨gX, 0, none⟩) (show gX < W3.heap.size by omega)).trans H3.out.2.2)
  have HZ := Lib.hid ((H3.out.1.trans (H6.out.1.mono (by omega))).trans (H9.out.mono (by have := H6.out.1.size; omega)))
  clear hA hB
  go_wp2_with fail
  go_ret
  exact ⟨rfl, below_drewN HZ.out d⟩
end Go.Proofs.Ytojgfpnecdngfaa
