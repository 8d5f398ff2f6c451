/- Contracts of the four calculations over fractions: the quotient in lowest terms that FracMath.mk says, or ErrNumber where one of both is not right; no condition. -/
import Derived.Test.YtoeacbmlodfciaaDoorFracE
namespace Go.Proofs.YtoeacbmlodfciaaDoor
open Go.RowKit

set_option maxHeartbeats 1000000 in
theorem ref_add_wrong (a b c d : Int) (w : World) (h : (FracMath.rightB a b && FracMath.rightB c d) = false) :
    Calls Tryd.prog 38 #[.agg #[.int .i64 a, .int .i64 b], .agg #[.int .i64 c, .int .i64 d]] w fun e w' => e = .returned (.tuple #[.agg #[.int .i64 0, .int .i64 0], .int .i64 2]) ∧ Below w.heap.size w w' := by
  have c := fun (W : World) => ref_both_any a b c d W
  rw [h, if_neg (by decide)] at c
  have C0 := Lib.hid c
  clear c h
  go_enter Tryd.func38, Tryd.ntmps38
  go_wp2_with fail
  refine (C0.out _).mono ?_
  rintro e w1 ⟨rfl, hb1⟩
  obtain ⟨a0, a1, al, _⟩ := ((((Two.new w (.int .i64 a) (.int .i64 b) 27).alloc _).alloc _)).below hb1
  obtain ⟨c0, c1, cl, _⟩ := ((((Two.new (w.alloc _) (.int .i64 c) (.int .i64 d) 27).alloc _))).below hb1
  have R1 := ((Two.new ((w.alloc _).alloc _) (.int .i64 0) (.int .i64 0) 27)).below hb1
  have HR1 := Lib.hid R1
  obtain ⟨r0, r1, rl, rf⟩ := R1
  simp at c0 c1 cl r0 r1 rl rf
  have hz1 := hb1.size
  simp at hz1
  go_wp2
  exact bodyPost_ret (v := .tuple #[.agg #[.int .i64 0, .int .i64 0], .int .i64 2]) (by simp [results, Tryd.results38, go_sem, r0, r1]) rfl ⟨rfl, ((((((Below.refl _ _).alloc (Nat.le_refl _) _).alloc (by go_size) _).alloc (by go_size) _).trans (hb1.mono (by go_size))).setCell (by go_size) _).setCell (by go_size) _⟩

set_option maxHeartbeats 1000000 in
theorem ref_add_right (a b c d : Int) (w : World) (h1 : FracMath.rightB a b = true) (h2 : FracMath.rightB c d = true) :
    Calls Tryd.prog 38 #[.agg #[.int .i64 a, .int .i64 b], .agg #[.int .i64 c, .int .i64 d]] w fun e w' => e = .returned (.tuple #[.agg #[.int .i64 (FracMath.mk (a * d + c * b) (b * d)).1, .int .i64 (FracMath.mk (a * d + c * b) (b * d)).2.1], .int .i64 (FracMath.mk (a * d + c * b) (b * d)).2.2]) ∧ Below w.heap.size w w' := by
  have c := fun (W : World) => ref_both_any a b c d W
  rw [h1, h2, if_pos (by decide)] at c
  have C0 := Lib.hid c
  obtain ⟨k1, k2, k3, k4, _⟩ := FracMath.right_of h1
  obtain ⟨l1, l2, l3, l4, _⟩ := FracMath.right_of h2
  clear c h1 h2
  have fad := FracMath.prod_bd (x := a) (y := d) ⟨by omega, by omega⟩ ⟨by omega, by omega⟩
  have fcb := FracMath.prod_bd (x := c) (y := b) ⟨by omega, by omega⟩ ⟨by omega, by omega⟩
  have fbd := FracMath.den_bd (x := b) (y := d) ⟨by omega, by omega⟩ ⟨by omega, by omega⟩
  have m := fun W => ref_make_any (a * d + c * b) (b * d) W (by omega) (by omega) (by omega) (by omega)
  generalize FracMath.mk (a * d + c * b) (b * d) = v at m ⊢
  have M := Lib.hid m
  clear m
  go_enter Tryd.func38, Tryd.ntmps38
  go_wp2_with fail
  refine (C0.out _).mono ?_
  rintro e w1 ⟨rfl, hb1⟩
  obtain ⟨a0, a1, al, _⟩ := ((((Two.new w (.int .i64 a) (.int .i64 b) 27).alloc _).alloc _)).below hb1
  obtain ⟨c0, c1, cl, _⟩ := ((((Two.new (w.alloc _) (.int .i64 c) (.int .i64 d) 27).alloc _))).below hb1
  have R1 := ((Two.new ((w.alloc _).alloc _) (.int .i64 0) (.int .i64 0) 27)).below hb1
  have HR1 := Lib.hid R1
  obtain ⟨r0, r1, rl, rf⟩ := R1
  simp at c0 c1 cl r0 r1 rl rf
  have hz1 := hb1.size
  simp at hz1
  go_wp2_with fail
  refine (M.out _).mono ?_
  rintro e w2 ⟨rfl, hb2⟩
  obtain ⟨s0, s1, sl, sf⟩ := HR1.out.below hb2
  simp at s0 s1 sl sf
  go_wp2
  exact bodyPost_ret (v := .tuple #[.agg #[.int .i64 v.1, .int .i64 v.2.1], .int .i64 v.2.2]) (by simp [results, Tryd.results38, go_sem, s0, s1]) rfl ⟨rfl, (((((((Below.refl _ _).alloc (Nat.le_refl _) _).alloc (by go_size) _).alloc (by go_size) _).trans (hb1.mono (by go_size))).trans (hb2.mono (by omega))).setCell (by go_size) _).setCell (by go_size) _⟩

end Go.Proofs.YtoeacbmlodfciaaDoor
