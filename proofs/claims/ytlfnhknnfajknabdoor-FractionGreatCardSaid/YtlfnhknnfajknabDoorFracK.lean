/- FractionGreat: for every two fractions of any parts the law returns true; no condition. -/
import Derived.Test.YtlfnhknnfajknabDoorFracH
import Derived.Test.YtlfnhknnfajknabDoorFracJ
namespace Go.Proofs.YtlfnhknnfajknabDoor
open Go.RowKit

set_option maxHeartbeats 1000000 in
theorem great_wrong_x (a b c d : Int) (w : World) (h : FracMath.rightB a b = false) :
    Calls Tryd.prog 4 #[.agg #[.int .i64 a, .int .i64 b], .agg #[.int .i64 c, .int .i64 d]] w fun e w' => e = .returned (.bool true) ∧ Below w.heap.size w w' := by
  have r := fun W => ref_right_any a b W
  rw [h] at r
  have R := Lib.hid r
  clear r h
  go_enter Tryd.func4, Tryd.ntmps4
  go_wp2_with fail
  refine (known_any _).mono ?_
  rintro e w1 ⟨rfl, hb1⟩
  have x1 := ((Two.new w (.int .i64 a) (.int .i64 b) 28).alloc _).below hb1
  have y1 := (Two.new (w.alloc _) (.int .i64 c) (.int .i64 d) 28).below hb1
  simp at y1
  have xa := x1.fst
  have xb := x1.snd
  have xl := x1.lt
  have ya := y1.fst
  have yb := y1.snd
  have yl := y1.lt
  have hz1 := hb1.size
  simp only [World.size_alloc] at hz1
  go_wp2_with fail
  refine (R.out _).mono ?_
  rintro e w2 ⟨rfl, hb2⟩
  have hz2 := hb2.size
  have x2 := x1.below hb2
  have y2 := y1.below hb2
  clear x1 y1 xa xb xl ya yb yl
  have xa := x2.fst
  have xb := x2.snd
  have xl := x2.lt
  have ya := y2.fst
  have yb := y2.snd
  have yl := y2.lt
  go_wp2_with fail
  refine (known_any _).mono ?_
  rintro e w3 ⟨rfl, hb3⟩
  have hz3 := hb3.size
  go_wp2
  go_ret
  exact ⟨rfl, ((((((Below.refl _ _).alloc (Nat.le_refl _) _).alloc (by go_size) _).trans (hb1.mono (by go_size))).trans (hb2.mono (by omega))).trans (hb3.mono (by omega)))⟩

set_option maxHeartbeats 1000000 in
theorem great_wrong_y (a b c d : Int) (w : World) (h : FracMath.rightB a b = true) (h' : FracMath.rightB c d = false) :
    Calls Tryd.prog 4 #[.agg #[.int .i64 a, .int .i64 b], .agg #[.int .i64 c, .int .i64 d]] w fun e w' => e = .returned (.bool true) ∧ Below w.heap.size w w' := by
  have r := fun W => ref_right_any a b W
  have s := fun W => ref_right_any c d W
  rw [h] at r
  rw [h'] at s
  have R := Lib.hid r
  have S := Lib.hid s
  clear r s h h'
  go_enter Tryd.func4, Tryd.ntmps4
  go_wp2_with fail
  refine (known_any _).mono ?_
  rintro e w1 ⟨rfl, hb1⟩
  have x1 := ((Two.new w (.int .i64 a) (.int .i64 b) 28).alloc _).below hb1
  have y1 := (Two.new (w.alloc _) (.int .i64 c) (.int .i64 d) 28).below hb1
  simp at y1
  have xa := x1.fst
  have xb := x1.snd
  have xl := x1.lt
  have ya := y1.fst
  have yb := y1.snd
  have yl := y1.lt
  have hz1 := hb1.size
  simp only [World.size_alloc] at hz1
  go_wp2_with fail
  refine (R.out _).mono ?_
  rintro e w2 ⟨rfl, hb2⟩
  have hz2 := hb2.size
  have x2 := x1.below hb2
  have y2 := y1.below hb2
  clear x1 y1 xa xb xl ya yb yl
  have xa := x2.fst
  have xb := x2.snd
  have xl := x2.lt
  have ya := y2.fst
  have yb := y2.snd
  have yl := y2.lt
  go_wp2_with fail
  refine (S.out _).mono ?_
  rintro e w3 ⟨rfl, hb3⟩
  have hz3 := hb3.size
  have x3 := x2.below hb3
  have y3 := y2.below hb3
  clear x2 y2 xa xb xl ya yb yl
  have xa := x3.fst
  have xb := x3.snd
  have xl := x3.lt
  have ya := y3.fst
  have yb := y3.snd
  have yl := y3.lt
  go_wp2_with fail
  refine (known_any _).mono ?_
  rintro e w4 ⟨rfl, hb4⟩
  have hz4 := hb4.size
  go_wp2
  go_ret
  exact ⟨rfl, (((((((Below.refl _ _).alloc (Nat.le_refl _) _).alloc (by go_size) _).trans (hb1.mono (by go_size))).trans (hb2.mono (by omega))).trans (hb3.mono (by omega))).trans (hb4.mono (by omega)))⟩

set_option maxHeartbeats 2000000 in
theorem great_right (a b c d : Int) (w : World) (h : FracMath.rightB a b = true) (h' : FracMath.rightB c d = true) :
    Calls Tryd.prog 4 #[.agg #[.int .i64 a, .int .i64 b], .agg #[.int .i64 c, .int .i64 d]] w fun e w' => e = .returned (.bool true) ∧ Below w.heap.size w w' := by
  have r := fun W => ref_right_any a b W
  have s := fun W => ref_right_any c d W
  rw [h] at r
  rw [h'] at s
  have R := Lib.hid r
  have S := Lib.hid s
  obtain ⟨k1, k2, k3, k4, _⟩ := FracMath.right_of h
  obtain ⟨l1, l2, l3, l4, _⟩ := FracMath.right_of h'
  have fad := FracMath.prod_bd (x := a) (y := d) ⟨by omega, by omega⟩ ⟨by omega, by omega⟩
  have fcb := FracMath.prod_bd (x := c) (y := b) ⟨by omega, by omega⟩ ⟨by omega, by omega⟩
  have C := Lib.hid fun W => compare_right a b c d W h h'
  have RC := Lib.hid fun W => ref_compare_any a b c d W fad.1 fad.2 fcb.1 fcb.2
  have F := Lib.hid fun W => Floor_right a b W h
  have RF := Lib.hid fun W => ref_Floor_any a b W k1 k2 k3 k4
  have M := Lib.hid fun W => nearest_right a b W h
  have RM := Lib.hid fun W => ref_nearest_any a b W k1 k2 k3 k4
  have L := Lib.hid fun W => calculates_right a b c d W h h'
  clear r s h h' fad fcb k1 k2 k3 k4 l1 l2 l3 l4
  generalize FracMath.cmpI (a * d) (c * b) = v1 at C RC
  generalize a / b = v2 at F RF
  generalize (2 * a + b) / (2 * b) = v3 at M RM
  go_enter Tryd.func4, Tryd.ntmps4
  go_wp2_with fail
  refine (known_any _).mono ?_
  rintro e w1 ⟨rfl, hb1⟩
  have x1 := ((Two.new w (.int .i64 a) (.int .i64 b) 28).alloc _).below hb1
  have y1 := (Two.new (w.alloc _) (.int .i64 c) (.int .i64 d) 28).below hb1
  simp at y1
  have xa := x1.fst
  have xb := x1.snd
  have xl := x1.lt
  have ya := y1.fst
  have yb := y1.snd
  have yl := y1.lt
  have hz1 := hb1.size
  simp only [World.size_alloc] at hz1
  go_wp2_with fail
  refine (R.out _).mono ?_
  rintro e w2 ⟨rfl, hb2⟩
  have hz2 := hb2.size
  have x2 := x1.below hb2
  have y2 := y1.below hb2
  clear x1 y1 xa xb xl ya yb yl
  have xa := x2.fst
  have xb := x2.snd
  have xl := x2.lt
  have ya := y2.fst
  have yb := y2.snd
  have yl := y2.lt
  go_wp2_with fail
  refine (S.out _).mono ?_
  rintro e w3 ⟨rfl, hb3⟩
  have hz3 := hb3.size
  have x3 := x2.below hb3
  have y3 := y2.below hb3
  clear x2 y2 xa xb xl ya yb yl
  have xa := x3.fst
  have xb := x3.snd
  have xl := x3.lt
  have ya := y3.fst
  have yb := y3.snd
  have yl := y3.lt
  go_wp2_with fail
  refine (C.out _).mono ?_
  rintro e w4 ⟨rfl, hb4⟩
  have hz4 := hb4.size
  have x4 := x3.below hb4
  have y4 := y3.below hb4
  clear x3 y3 xa xb xl ya yb yl
  have xa := x4.fst
  have xb := x4.snd
  have xl := x4.lt
  have ya := y4.fst
  have yb := y4.snd
  have yl := y4.lt
  go_wp2_with fail
  refine (F.out _).mono ?_
  rintro e w5 ⟨rfl, hb5⟩
  have hz5 := hb5.size
  have x5 := x4.below hb5
  have y5 := y4.below hb5
  clear x4 y4 xa xb xl ya yb yl
  have xa := x5.fst
  have xb := x5.snd
  have xl := x5.lt
  have ya := y5.fst
  have yb := y5.snd
  have yl := y5.lt
  go_wp2_with fail
  refine (M.out _).mono ?_
  rintro e w6 ⟨rfl, hb6⟩
  have hz6 := hb6.size
  have x6 := x5.below hb6
  have y6 := y5.below hb6
  clear x5 y5 xa xb xl ya yb yl
  have xa := x6.fst
  have xb := x6.snd
  have xl := x6.lt
  have ya := y6.fst
  have yb := y6.snd
  have yl := y6.lt
  go_wp2_with fail
  refine (L.out _).mono ?_
  rintro e w7 ⟨rfl, hb7⟩
  have hz7 := hb7.size
  have x7 := x6.below hb7
  have y7 := y6.below hb7
  clear x6 y6 xa xb xl ya yb yl
  have xa := x7.fst
  have xb := x7.snd
  have xl := x7.lt
  have ya := y7.fst
  have yb := y7.snd
  have yl := y7.lt
  go_wp2_with fail
  refine (RC.out _).mono ?_
  rintro e w8 ⟨rfl, hb8⟩
  have hz8 := hb8.size
  have x8 := x7.below hb8
  have y8 := y7.below hb8
  clear x7 y7 xa xb xl ya yb yl
  have xa := x8.fst
  have xb := x8.snd
  have xl := x8.lt
  have ya := y8.fst
  have yb := y8.snd
  have yl := y8.lt
  go_wp2_with fail
  refine (RF.out _).mono ?_
  rintro e w9 ⟨rfl, hb9⟩
  have hz9 := hb9.size
  have x9 := x8.below hb9
  have y9 := y8.below hb9
  clear x8 y8 xa xb xl ya yb yl
  have xa := x9.fst
  have xb := x9.snd
  have xl := x9.lt
  have ya := y9.fst
  have yb := y9.snd
  have yl := y9.lt
  go_wp2_with fail
  refine (RM.out _).mono ?_
  rintro e w10 ⟨rfl, hb10⟩
  have hz10 := hb10.size
  go_wp2
  go_ret
  exact ⟨rfl, (((((((((((((Below.refl _ _).alloc (Nat.le_refl _) _).alloc (by go_size) _).trans (hb1.mono (by go_size))).trans (hb2.mono (by omega))).trans (hb3.mono (by omega))).trans (hb4.mono (by omega))).trans (hb5.mono (by omega))).trans (hb6.mono (by omega))).trans (hb7.mono (by omega))).trans (hb8.mono (by omega))).trans (hb9.mono (by omega))).trans (hb10.mono (by omega)))⟩

theorem fractionGreat_walk (a b c d : Int) (w : World) :
    Calls Tryd.prog 4 #[.agg #[.int .i64 a, .int .i64 b], .agg #[.int .i64 c, .int .i64 d]] w fun e w' => e = .returned (.bool true) ∧ Below w.heap.size w w' := by
  cases h : FracMath.rightB a b
  · exact great_wrong_x a b c d w h
  · cases h' : FracMath.rightB c d
    · exact great_wrong_y a b c d w h h'
    · exact great_right a b c d w h h'
end Go.Proofs.YtlfnhknnfajknabDoor
