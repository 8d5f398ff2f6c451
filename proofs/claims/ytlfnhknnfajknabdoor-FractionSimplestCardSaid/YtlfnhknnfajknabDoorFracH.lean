/- The law's own function calculates: for two right fractions all four calculations agree with the reference's; and the described fractions. -/
import Derived.Test.YtlfnhknnfajknabDoorFracF
import Derived.Test.YtlfnhknnfajknabDoorFracG
import Derived.Test.YtlfnhknnfajknabDoorFracD
namespace Go.Proofs.YtlfnhknnfajknabDoor
open Go.RowKit

set_option maxHeartbeats 2000000 in
theorem calculates_right (a b c d : Int) (w : World) (h1 : FracMath.rightB a b = true) (h2 : FracMath.rightB c d = true) :
    Calls Tryd.prog 16 #[.agg #[.int .i64 a, .int .i64 b], .agg #[.int .i64 c, .int .i64 d]] w fun e w' => e = .returned (.bool true) ∧ Below w.heap.size w w' := by
  have c1 := fun W => add_right a b c d W h1 h2
  have c2 := fun W => sub_right a b c d W h1 h2
  have c3 := fun W => mul_right a b c d W h1 h2
  have c4 := fun W => div_right a b c d W h1 h2
  have c5 := fun W => ref_add_right a b c d W h1 h2
  have c6 := fun W => ref_sub_right a b c d W h1 h2
  have c7 := fun W => ref_mul_right a b c d W h1 h2
  have c8 := fun W => ref_div_right a b c d W h1 h2
  generalize FracMath.mk (a * d + c * b) (b * d) = v1 at c1 c5
  generalize FracMath.mk (a * d - c * b) (b * d) = v2 at c2 c6
  generalize FracMath.mk (a * c) (b * d) = v3 at c3 c7
  generalize FracMath.mk (a * d) (b * c) = v4 at c4 c8
  have C1 := Lib.hid c1
  have C2 := Lib.hid c2
  have C3 := Lib.hid c3
  have C4 := Lib.hid c4
  have C5 := Lib.hid c5
  have C6 := Lib.hid c6
  have C7 := Lib.hid c7
  have C8 := Lib.hid c8
  clear c1 c2 c3 c4 c5 c6 c7 c8 h1 h2
  go_enter Tryd.func16, Tryd.ntmps16
  go_wp2_with fail
  refine (C1.out _).mono ?_
  rintro e w1 ⟨rfl, hb1⟩
  have x1 := ((Two.new w (.int .i64 a) (.int .i64 b) 28).alloc _).below hb1
  have y1 := (Two.new (w.alloc _) (.int .i64 c) (.int .i64 d) 28).below hb1
  simp at y1
  have xa := x1.fst
  have xb := x1.snd
  have xl := x1.lt
  have ya := y1.fst
  have yb := y1.snd
  have yl := y1.lt
  have hz1 := hb1.size
  simp only [World.size_alloc] at hz1
  go_wp2_with fail
  refine (C2.out _).mono ?_
  rintro e w2 ⟨rfl, hb2⟩
  have x2 := (x1.alloc _).below hb2
  have y2 := (y1.alloc _).below hb2
  have z1_2 := (Two.new w1 (.int .i64 v1.1) (.int .i64 v1.2.1) 28).below hb2
  clear x1 y1  xa xb xl ya yb yl
  have xa := x2.fst
  have xb := x2.snd
  have xl := x2.lt
  have ya := y2.fst
  have yb := y2.snd
  have yl := y2.lt
  have hz2 := hb2.size
  simp only [World.size_alloc] at hz2
  go_wp2_with fail
  refine (C3.out _).mono ?_
  rintro e w3 ⟨rfl, hb3⟩
  have x3 := (x2.alloc _).below hb3
  have y3 := (y2.alloc _).below hb3
  have z1_3 := (z1_2.alloc _).below hb3
  have z2_3 := (Two.new w2 (.int .i64 v2.1) (.int .i64 v2.2.1) 28).below hb3
  clear x2 y2 z1_2 xa xb xl ya yb yl
  have xa := x3.fst
  have xb := x3.snd
  have xl := x3.lt
  have ya := y3.fst
  have yb := y3.snd
  have yl := y3.lt
  have hz3 := hb3.size
  simp only [World.size_alloc] at hz3
  go_wp2_with fail
  refine (C4.out _).mono ?_
  rintro e w4 ⟨rfl, hb4⟩
  have x4 := (x3.alloc _).below hb4
  have y4 := (y3.alloc _).below hb4
  have z1_4 := (z1_3.alloc _).below hb4
  have z2_4 := (z2_3.alloc _).below hb4
  have z3_4 := (Two.new w3 (.int .i64 v3.1) (.int .i64 v3.2.1) 28).below hb4
  clear x3 y3 z1_3 z2_3 xa xb xl ya yb yl
  have xa := x4.fst
  have xb := x4.snd
  have xl := x4.lt
  have ya := y4.fst
  have yb := y4.snd
  have yl := y4.lt
  have hz4 := hb4.size
  simp only [World.size_alloc] at hz4
  go_wp2_with fail
  refine (C5.out _).mono ?_
  rintro e w5 ⟨rfl, hb5⟩
  have x5 := (x4.alloc _).below hb5
  have y5 := (y4.alloc _).below hb5
  have z1_5 := (z1_4.alloc _).below hb5
  have z2_5 := (z2_4.alloc _).below hb5
  have z3_5 := (z3_4.alloc _).below hb5
  have z4_5 := (Two.new w4 (.int .i64 v4.1) (.int .i64 v4.2.1) 28).below hb5
  clear x4 y4 z1_4 z2_4 z3_4 xa xb xl ya yb yl
  have xa := x5.fst
  have xb := x5.snd
  have xl := x5.lt
  have ya := y5.fst
  have yb := y5.snd
  have yl := y5.lt
  have hz5 := hb5.size
  simp only [World.size_alloc] at hz5
  go_wp2_with fail
  refine (C6.out _).mono ?_
  rintro e w6 ⟨rfl, hb6⟩
  have x6 := (x5.alloc _).below hb6
  have y6 := (y5.alloc _).below hb6
  have z1_6 := (z1_5.alloc _).below hb6
  have z2_6 := (z2_5.alloc _).below hb6
  have z3_6 := (z3_5.alloc _).below hb6
  have z4_6 := (z4_5.alloc _).below hb6
  have z5_6 := (Two.new w5 (.int .i64 v1.1) (.int .i64 v1.2.1) 28).below hb6
  clear x5 y5 z1_5 z2_5 z3_5 z4_5 xa xb xl ya yb yl
  have xa := x6.fst
  have xb := x6.snd
  have xl := x6.lt
  have ya := y6.fst
  have yb := y6.snd
  have yl := y6.lt
  have hz6 := hb6.size
  simp only [World.size_alloc] at hz6
  go_wp2_with fail
  refine (C7.out _).mono ?_
  rintro e w7 ⟨rfl, hb7⟩
  have x7 := (x6.alloc _).below hb7
  have y7 := (y6.alloc _).below hb7
  have z1_7 := (z1_6.alloc _).below hb7
  have z2_7 := (z2_6.alloc _).below hb7
  have z3_7 := (z3_6.alloc _).below hb7
  have z4_7 := (z4_6.alloc _).below hb7
  have z5_7 := (z5_6.alloc _).below hb7
  have z6_7 := (Two.new w6 (.int .i64 v2.1) (.int .i64 v2.2.1) 28).below hb7
  clear x6 y6 z1_6 z2_6 z3_6 z4_6 z5_6 xa xb xl ya yb yl
  have xa := x7.fst
  have xb := x7.snd
  have xl := x7.lt
  have ya := y7.fst
  have yb := y7.snd
  have yl := y7.lt
  have hz7 := hb7.size
  simp only [World.size_alloc] at hz7
  go_wp2_with fail
  refine (C8.out _).mono ?_
  rintro e w8 ⟨rfl, hb8⟩
  have x8 := (x7.alloc _).below hb8
  have y8 := (y7.alloc _).below hb8
  have z1_8 := (z1_7.alloc _).below hb8
  have z2_8 := (z2_7.alloc _).below hb8
  have z3_8 := (z3_7.alloc _).below hb8
  have z4_8 := (z4_7.alloc _).below hb8
  have z5_8 := (z5_7.alloc _).below hb8
  have z6_8 := (z6_7.alloc _).below hb8
  have z7_8 := (Two.new w7 (.int .i64 v3.1) (.int .i64 v3.2.1) 28).below hb8
  clear x7 y7 z1_7 z2_7 z3_7 z4_7 z5_7 z6_7 xa xb xl ya yb yl
  have xa := x8.fst
  have xb := x8.snd
  have xl := x8.lt
  have ya := y8.fst
  have yb := y8.snd
  have yl := y8.lt
  have hz8 := hb8.size
  simp only [World.size_alloc] at hz8
  obtain ⟨za1, zb1, zl1, _⟩ := z1_8
  obtain ⟨za2, zb2, zl2, _⟩ := z2_8
  obtain ⟨za3, zb3, zl3, _⟩ := z3_8
  obtain ⟨za4, zb4, zl4, _⟩ := z4_8
  obtain ⟨za5, zb5, zl5, _⟩ := z5_8
  obtain ⟨za6, zb6, zl6, _⟩ := z6_8
  obtain ⟨za7, zb7, zl7, _⟩ := z7_8
  go_wp2
  go_ret
  refine ⟨rfl, ?_⟩
  exact ((((((((((((((((((((((((((Below.refl _ _).alloc (Nat.le_refl _) _).alloc (by go_size) _).trans (hb1.mono (by go_size)))).alloc (by omega) _).trans (hb2.mono (by simp only [World.size_alloc]; omega)))).alloc (by omega) _).trans (hb3.mono (by simp only [World.size_alloc]; omega)))).alloc (by omega) _).trans (hb4.mono (by simp only [World.size_alloc]; omega)))).alloc (by omega) _).trans (hb5.mono (by simp only [World.size_alloc]; omega)))).alloc (by omega) _).trans (hb6.mono (by simp only [World.size_alloc]; omega)))).alloc (by omega) _).trans (hb7.mono (by simp only [World.size_alloc]; omega)))).alloc (by omega) _).trans (hb8.mono (by simp only [World.size_alloc]; omega)))).alloc (by omega) _
end Go.Proofs.YtlfnhknnfajknabDoor
