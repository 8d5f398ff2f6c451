/- Contract of the reference's Make over fractions: for all ints the quotient in lowest terms, or its error, as FracMath.mk says. -/
import Derived.Test.YtoeacbmlodfciaaDoorFracB
namespace Go.Proofs.YtoeacbmlodfciaaDoor
open Go.RowKit

set_option maxHeartbeats 400000 in
theorem ref_make_zero (n : Int) (w : World) :
    Calls Tryd.prog 31 #[.int .i64 n, .int .i64 0] w fun e w' => e = .returned (.tuple #[.agg #[.int .i64 0, .int .i64 0], .int .i64 17]) ∧ Below w.heap.size w w' := by
  go_enter Tryd.func31, Tryd.ntmps31
  go_wp2
  exact bodyPost_ret (v := .tuple #[.agg #[.int .i64 0, .int .i64 0], .int .i64 17]) (by simp [results, Tryd.results31, go_sem]) rfl ⟨rfl, by go_grown⟩

set_option maxHeartbeats 1000000 in
theorem ref_make_pos (n d : Int) (w : World) (h1 : -9223372036854775808 ≤ n) (h2 : n ≤ 9223372036854775807) (h3 : 1 ≤ d) (h4 : d ≤ 9223372036854775807) :
    Calls Tryd.prog 31 #[.int .i64 n, .int .i64 d] w fun e w' => e = .returned (.tuple #[.agg #[.int .i64 (FracMath.mk n d).1, .int .i64 (FracMath.mk n d).2.1], .int .i64 (FracMath.mk n d).2.2]) ∧ Below w.heap.size w w' := by
  have c := fun W => ref_divisor_any n d W h1 h2 (by omega) (by omega)
  have g1 := FracMath.gg_pos (n := n) (d := d) (by omega)
  have g2 := FracMath.gg_le (n := n) (d := d) (by omega)
  have g3 : wrap64 (FracMath.gg n d : Nat) = (FracMath.gg n d : Nat) := by unfold wrap64; omega
  rw [g3] at c
  have hd : d ≠ 0 := by omega
  have hr := FracMath.right_pos (n := n) h3
  have hx := FracMath.quot_pos (n := n) h3
  cases ho : FracMath.overB n d
  · rw [FracMath.mk_ok hd ho]
    obtain ⟨x1, x2⟩ := hx ho
    rw [← x1, ← x2]
    have r := fun W => ref_right_any (n.tdiv (FracMath.gg n d : Nat)) (d / (FracMath.gg n d : Nat)) W
    rw [hr, ho, Bool.not_false] at r
    generalize FracMath.gg n d = g at c g1 g2 r x1 x2 ⊢
    have C := Lib.hid c
    have R := Lib.hid r
    clear c r hr hx x1 x2 g3 ho hd
    have z1 : ((g : Int) == 0) = false := by simp; omega
    go_enter Tryd.func31, Tryd.ntmps31
    go_wp2_with (first | (go_at_call 39; refine (C.out _).mono ?_; rintro e w' ⟨rfl, nn, rfl⟩) | fail)
    go_region
    go_wp2_with fail
    refine (R.out _).mono ?_
    rintro e w1 ⟨rfl, hb⟩
    obtain ⟨hc, hf⟩ := bcell hb
    have hz : w.heap.size + 1 < w1.heap.size := by have := hb.size; simp at this; omega
    have hc0 := fun o => hc w.heap.size o (by simp; omega)
    go_wp2
    refine bodyPost_ret (v := .tuple #[.agg #[.int .i64 (n.tdiv (g : Nat)), .int .i64 (d / (g : Nat))], .int .i64 0]) (by simp [results, Tryd.results31, go_sem, hc0]) rfl ⟨rfl, ?_⟩
    exact (((((below_drewN ((Below.refl _ _).alloc (Nat.le_refl _) _) _).alloc (by simp) _).trans (hb.mono (by simp; omega))).setCell (by simp) _).setCell (by simp) _)

  · rw [FracMath.mk_over hd ho]
    have r := fun W => ref_right_any (n.tdiv (FracMath.gg n d : Nat)) (d / (FracMath.gg n d : Nat)) W
    rw [hr, ho, Bool.not_true] at r
    generalize FracMath.gg n d = g at c g1 g2 r
    have C := Lib.hid c
    have R := Lib.hid r
    clear c r hr hx g3 ho hd
    have z1 : ((g : Int) == 0) = false := by simp; omega
    go_enter Tryd.func31, Tryd.ntmps31
    go_wp2_with (first | (go_at_call 39; refine (C.out _).mono ?_; rintro e w' ⟨rfl, nn, rfl⟩) | fail)
    go_region
    go_wp2_with fail
    refine (R.out _).mono ?_
    rintro e w1 ⟨rfl, hb⟩
    obtain ⟨hc, hf⟩ := bcell hb
    have hz : w.heap.size + 1 < w1.heap.size := by have := hb.size; simp at this; omega
    have hc0 := fun o => hc w.heap.size o (by simp; omega)
    go_wp2
    refine bodyPost_ret (v := .tuple #[.agg #[.int .i64 0, .int .i64 0], .int .i64 4]) (by simp [results, Tryd.results31, go_sem, hc0]) rfl ⟨rfl, ?_⟩
    exact (((((below_drewN ((Below.refl _ _).alloc (Nat.le_refl _) _) _).alloc (by simp) _).trans (hb.mono (by simp; omega))).setCell (by simp) _).setCell (by simp) _)

set_option maxHeartbeats 1000000 in
theorem ref_make_neg (n d : Int) (w : World) (h1 : -9223372036854775808 ≤ n) (h2 : n ≤ 9223372036854775807) (h3 : d < 0) (h4 : -9223372036854775808 ≤ d) (hg : FracMath.gg n d ≤ 9223372036854775807) :
    Calls Tryd.prog 31 #[.int .i64 n, .int .i64 d] w fun e w' => e = .returned (.tuple #[.agg #[.int .i64 (FracMath.mk n d).1, .int .i64 (FracMath.mk n d).2.1], .int .i64 (FracMath.mk n d).2.2]) ∧ Below w.heap.size w w' := by
  have c := fun W => ref_divisor_any n d W h1 h2 (by omega) (by omega)
  have g1 := FracMath.gg_pos (n := n) (d := d) (by omega)
  have g2 := FracMath.gg_le (n := n) (d := d) (by omega)
  have g3 : wrap64 (FracMath.gg n d : Nat) = (FracMath.gg n d : Nat) := by unfold wrap64; omega
  rw [g3] at c
  have hd : d ≠ 0 := by omega
  have hr := FracMath.right_neg (n := n) h1 h2 h3 h4
  have hx := FracMath.quot_neg (n := n) h3
  cases ho : FracMath.overB n d
  · rw [FracMath.mk_ok hd ho]
    obtain ⟨x1, x2⟩ := hx ho
    rw [← x1, ← x2]
    have r := fun W => ref_right_any (wrap64 (-(n.tdiv (FracMath.gg n d : Nat)))) (wrap64 (-(d.tdiv (FracMath.gg n d : Nat)))) W
    rw [hr, ho, Bool.not_false] at r
    generalize FracMath.gg n d = g at c g1 g2 r x1 x2 hg ⊢
    have C := Lib.hid c
    have R := Lib.hid r
    clear c r hr hx x1 x2 g3 ho hd
    have z1 : ((-(g : Int)) == 0) = false := by simp; omega
    go_enter Tryd.func31, Tryd.ntmps31
    go_wp2_with (first | (go_at_call 39; refine (C.out _).mono ?_; rintro e w' ⟨rfl, nn, rfl⟩) | fail)
    go_region
    go_wp2_with fail
    refine (R.out _).mono ?_
    rintro e w1 ⟨rfl, hb⟩
    obtain ⟨hc, hf⟩ := bcell hb
    have hz : w.heap.size + 1 < w1.heap.size := by have := hb.size; simp at this; omega
    have hc0 := fun o => hc w.heap.size o (by simp; omega)
    go_wp2
    refine bodyPost_ret (v := .tuple #[.agg #[.int .i64 (wrap64 (-(n.tdiv (g : Nat)))), .int .i64 (wrap64 (-(d.tdiv (g : Nat))))], .int .i64 0]) (by simp [results, Tryd.results31, go_sem, hc0]) rfl ⟨rfl, ?_⟩
    exact (((((below_drewN ((Below.refl _ _).alloc (Nat.le_refl _) _) _).alloc (by simp) _).trans (hb.mono (by simp; omega))).setCell (by simp) _).setCell (by simp) _)

  · rw [FracMath.mk_over hd ho]
    have r := fun W => ref_right_any (wrap64 (-(n.tdiv (FracMath.gg n d : Nat)))) (wrap64 (-(d.tdiv (FracMath.gg n d : Nat)))) W
    rw [hr, ho, Bool.not_true] at r
    generalize FracMath.gg n d = g at c g1 g2 r hg
    have C := Lib.hid c
    have R := Lib.hid r
    clear c r hr hx g3 ho hd
    have z1 : ((-(g : Int)) == 0) = false := by simp; omega
    go_enter Tryd.func31, Tryd.ntmps31
    go_wp2_with (first | (go_at_call 39; refine (C.out _).mono ?_; rintro e w' ⟨rfl, nn, rfl⟩) | fail)
    go_region
    go_wp2_with fail
    refine (R.out _).mono ?_
    rintro e w1 ⟨rfl, hb⟩
    obtain ⟨hc, hf⟩ := bcell hb
    have hz : w.heap.size + 1 < w1.heap.size := by have := hb.size; simp at this; omega
    have hc0 := fun o => hc w.heap.size o (by simp; omega)
    go_wp2
    refine bodyPost_ret (v := .tuple #[.agg #[.int .i64 0, .int .i64 0], .int .i64 4]) (by simp [results, Tryd.results31, go_sem, hc0]) rfl ⟨rfl, ?_⟩
    exact (((((below_drewN ((Below.refl _ _).alloc (Nat.le_refl _) _) _).alloc (by simp) _).trans (hb.mono (by simp; omega))).setCell (by simp) _).setCell (by simp) _)


set_option maxHeartbeats 1000000 in
theorem ref_make_big0 (w : World) :
    Calls Tryd.prog 31 #[.int .i64 (0), .int .i64 (-9223372036854775808)] w fun e w' => e = .returned (.tuple #[.agg #[.int .i64 0, .int .i64 1], .int .i64 0]) ∧ Below w.heap.size w w' := by
  have c := fun W => ref_divisor_any (0) (-9223372036854775808) W (by decide) (by decide) (by decide) (by decide)
  rw [show wrap64 (FracMath.gg (0) (-9223372036854775808) : Nat) = -9223372036854775808 from by decide +kernel] at c
  have r := fun W => ref_right_any 0 1 W
  rw [show FracMath.rightB 0 1 = true from by decide +kernel] at r
  have C := Lib.hid c
  have R := Lib.hid r
  clear c r
  have hw : wrap64 9223372036854775808 = -9223372036854775808 := by unfold wrap64; omega
  go_enter Tryd.func31, Tryd.ntmps31
  go_wp2_with (first | (go_at_call 39; refine (C.out _).mono ?_; rintro e w' ⟨rfl, nn, rfl⟩) | fail)
  go_region
  go_wp2_with fail
  refine (R.out _).mono ?_
  rintro e w1 ⟨rfl, hb⟩
  obtain ⟨hc, hf⟩ := bcell hb
  have hz : w.heap.size + 1 < w1.heap.size := by have := hb.size; simp at this; omega
  have hc0 := fun o => hc w.heap.size o (by simp; omega)
  go_wp2
  refine bodyPost_ret (v := .tuple #[.agg #[.int .i64 (0), .int .i64 (1)], .int .i64 0]) (by simp [results, Tryd.results31, go_sem, hc0]) rfl ⟨rfl, ?_⟩
  exact (((((below_drewN ((Below.refl _ _).alloc (Nat.le_refl _) _) _).alloc (by simp) _).trans (hb.mono (by simp; omega))).setCell (by simp) _).setCell (by simp) _)


set_option maxHeartbeats 1000000 in
theorem ref_make_big1 (w : World) :
    Calls Tryd.prog 31 #[.int .i64 (-9223372036854775808), .int .i64 (-9223372036854775808)] w fun e w' => e = .returned (.tuple #[.agg #[.int .i64 1, .int .i64 1], .int .i64 0]) ∧ Below w.heap.size w w' := by
  have c := fun W => ref_divisor_any (-9223372036854775808) (-9223372036854775808) W (by decide) (by decide) (by decide) (by decide)
  rw [show wrap64 (FracMath.gg (-9223372036854775808) (-9223372036854775808) : Nat) = -9223372036854775808 from by decide +kernel] at c
  have r := fun W => ref_right_any 1 1 W
  rw [show FracMath.rightB 1 1 = true from by decide +kernel] at r
  have C := Lib.hid c
  have R := Lib.hid r
  clear c r
  have hw : wrap64 9223372036854775808 = -9223372036854775808 := by unfold wrap64; omega
  go_enter Tryd.func31, Tryd.ntmps31
  go_wp2_with (first | (go_at_call 39; refine (C.out _).mono ?_; rintro e w' ⟨rfl, nn, rfl⟩) | fail)
  go_region
  go_wp2_with fail
  refine (R.out _).mono ?_
  rintro e w1 ⟨rfl, hb⟩
  obtain ⟨hc, hf⟩ := bcell hb
  have hz : w.heap.size + 1 < w1.heap.size := by have := hb.size; simp at this; omega
  have hc0 := fun o => hc w.heap.size o (by simp; omega)
  go_wp2
  refine bodyPost_ret (v := .tuple #[.agg #[.int .i64 (1), .int .i64 (1)], .int .i64 0]) (by simp [results, Tryd.results31, go_sem, hc0]) rfl ⟨rfl, ?_⟩
  exact (((((below_drewN ((Below.refl _ _).alloc (Nat.le_refl _) _) _).alloc (by simp) _).trans (hb.mono (by simp; omega))).setCell (by simp) _).setCell (by simp) _)


theorem ref_make_any (n d : Int) (w : World) (h1 : -9223372036854775808 ≤ n) (h2 : n ≤ 9223372036854775807) (h3 : -9223372036854775808 ≤ d) (h4 : d ≤ 9223372036854775807) :
    Calls Tryd.prog 31 #[.int .i64 n, .int .i64 d] w fun e w' => e = .returned (.tuple #[.agg #[.int .i64 (FracMath.mk n d).1, .int .i64 (FracMath.mk n d).2.1], .int .i64 (FracMath.mk n d).2.2]) ∧ Below w.heap.size w w' := by
  by_cases hz : d = 0
  · subst hz; exact ref_make_zero n w
  by_cases hp : 1 ≤ d
  · exact ref_make_pos n d w h1 h2 hp h4
  by_cases hg : FracMath.gg n d ≤ 9223372036854775807
  · exact ref_make_neg n d w h1 h2 (by omega) h3 hg
  have hgb := FracMath.gg_bound (n := n) hz h3 h4
  obtain ⟨rfl, rfl | rfl⟩ := FracMath.big_gg hz h1 h2 h3 h4 (by omega)
  · rw [show FracMath.mk 0 (-9223372036854775808) = (0, 1, 0) from by decide +kernel]; exact ref_make_big0 w
  · rw [show FracMath.mk (-9223372036854775808) (-9223372036854775808) = (1, 1, 0) from by decide +kernel]; exact ref_make_big1 w
end Go.Proofs.YtoeacbmlodfciaaDoor
