/- FractionChecks: for every two fractions of any parts the law returns true; no condition. -/
import Derived.Test.YtlfnhknnfajknaaDoorFracD
import Derived.Test.YtlfnhknnfajknaaDoorFracF
import Derived.Test.YtlfnhknnfajknaaDoorFracL
namespace Go.Proofs.YtlfnhknnfajknaaDoor
open Go.RowKit

set_option maxRecDepth 100000 in
set_option maxHeartbeats 4000000 in
theorem checks_right (a b c d : Int) (w : World) (h : FracMath.rightB a b = true) (h' : FracMath.rightB c d = true) :
    Calls Tryd.prog 3 #[.agg #[.int .i64 a, .int .i64 b], .agg #[.int .i64 c, .int .i64 d]] w fun e w' => e = .returned (.bool true) ∧ Below w.heap.size w w' := by
  have r := fun W => ref_right_any a b W
  have s := fun W => ref_right_any c d W
  have k := fun W => check_any a b W
  rw [h] at r
  rw [h'] at s
  rw [chk_yes h] at k
  have R := Lib.hid r
  have S := Lib.hid s
  have K := Lib.hid k
  clear r s k h h'
  go_enter Tryd.func3, Tryd.ntmps3
  go_wp2_with fail
  refine (known_any _).mono ?_
  rintro e w1 ⟨rfl, hb1⟩
  have x1 := ((Two.new w (.int .i64 a) (.int .i64 b) 23).alloc _).below hb1
  have y1 := (Two.new (w.alloc _) (.int .i64 c) (.int .i64 d) 23).below hb1
  simp at y1
  have hz1 := hb1.size
  simp only [World.size_alloc] at hz1
  have xa := x1.fst
  have xb := x1.snd
  have xl := x1.lt
  have ya := y1.fst
  have yb := y1.snd
  have yl := y1.lt
  go_wp2_with fail
  refine (R.out _).mono ?_
  rintro e w2 ⟨rfl, hb2⟩
  have hz2 := hb2.size
  have x2 := (x1).below hb2
  have y2 := (y1).below hb2
  clear x1 xa xb xl y1 ya yb yl
  have xa := x2.fst
  have xb := x2.snd
  have xl := x2.lt
  have ya := y2.fst
  have yb := y2.snd
  have yl := y2.lt
  go_wp2_with fail
  refine (K.out _).mono ?_
  rintro e w3 ⟨rfl, hb3⟩
  have hz3 := hb3.size
  have x3 := (x2).below hb3
  have y3 := (y2).below hb3
  clear x2 xa xb xl y2 ya yb yl
  have xa := x3.fst
  have xb := x3.snd
  have xl := x3.lt
  have ya := y3.fst
  have yb := y3.snd
  have yl := y3.lt
  go_wp2_with fail
  refine (R.out _).mono ?_
  rintro e w4 ⟨rfl, hb4⟩
  have hz4 := hb4.size
  have x4 := (x3).below hb4
  have y4 := (y3).below hb4
  clear x3 xa xb xl y3 ya yb yl
  have xa := x4.fst
  have xb := x4.snd
  have xl := x4.lt
  have ya := y4.fst
  have yb := y4.snd
  have yl := y4.lt
  go_wp2_with fail
  refine (S.out _).mono ?_
  rintro e w5 ⟨rfl, hb5⟩
  have hz5 := hb5.size
  have x5 := (x4).below hb5
  have y5 := (y4).below hb5
  clear x4 xa xb xl y4 ya yb yl
  have xa := x5.fst
  have xb := x5.snd
  have xl := x5.lt
  have ya := y5.fst
  have yb := y5.snd
  have yl := y5.lt
  go_wp2
  go_ret
  exact ⟨rfl, ((((((((Below.refl _ _).alloc (Nat.le_refl _) _).alloc (by go_size) _).trans (hb1.mono (by go_size))).trans (hb2.mono (by go_size))).trans (hb3.mono (by go_size))).trans (hb4.mono (by go_size))).trans (hb5.mono (by go_size)))⟩

set_option maxRecDepth 100000 in
set_option maxHeartbeats 4000000 in
theorem checks_wrong_y (a b c d : Int) (w : World) (h : FracMath.rightB a b = true) (h' : FracMath.rightB c d = false) :
    Calls Tryd.prog 3 #[.agg #[.int .i64 a, .int .i64 b], .agg #[.int .i64 c, .int .i64 d]] w fun e w' => e = .returned (.bool true) ∧ Below w.heap.size w w' := by
  have hh : (FracMath.rightB a b && FracMath.rightB c d) = false := by rw [h, h']; rfl
  have ADD := Lib.hid fun W => add_wrong a b c d W hh
  have SUB := Lib.hid fun W => sub_wrong a b c d W hh
  have MUL := Lib.hid fun W => mul_wrong a b c d W hh
  have DIV := Lib.hid fun W => div_wrong a b c d W hh
  have CMP := Lib.hid fun W => compare_wrong a b c d W hh
  have SIM := Lib.hid fun W => simplest_wrong a b c d W hh
  have r := fun W => ref_right_any a b W
  have s := fun W => ref_right_any c d W
  have k := fun W => check_any a b W
  rw [h] at r
  rw [h'] at s
  rw [chk_yes h] at k
  have R := Lib.hid r
  have S := Lib.hid s
  have K := Lib.hid k
  clear r s k h h' hh
  go_enter Tryd.func3, Tryd.ntmps3
  go_wp2_with fail
  refine (known_any _).mono ?_
  rintro e w1 ⟨rfl, hb1⟩
  have x1 := ((Two.new w (.int .i64 a) (.int .i64 b) 23).alloc _).below hb1
  have y1 := (Two.new (w.alloc _) (.int .i64 c) (.int .i64 d) 23).below hb1
  simp at y1
  have hz1 := hb1.size
  simp only [World.size_alloc] at hz1
  have xa := x1.fst
  have xb := x1.snd
  have xl := x1.lt
  have ya := y1.fst
  have yb := y1.snd
  have yl := y1.lt
  go_wp2_with fail
  refine (R.out _).mono ?_
  rintro e w2 ⟨rfl, hb2⟩
  have hz2 := hb2.size
  have x2 := (x1).below hb2
  have y2 := (y1).below hb2
  clear x1 xa xb xl y1 ya yb yl
  have xa := x2.fst
  have xb := x2.snd
  have xl := x2.lt
  have ya := y2.fst
  have yb := y2.snd
  have yl := y2.lt
  go_wp2_with fail
  refine (K.out _).mono ?_
  rintro e w3 ⟨rfl, hb3⟩
  have hz3 := hb3.size
  have x3 := (x2).below hb3
  have y3 := (y2).below hb3
  clear x2 xa xb xl y2 ya yb yl
  have xa := x3.fst
  have xb := x3.snd
  have xl := x3.lt
  have ya := y3.fst
  have yb := y3.snd
  have yl := y3.lt
  go_wp2_with fail
  refine (R.out _).mono ?_
  rintro e w4 ⟨rfl, hb4⟩
  have hz4 := hb4.size
  have x4 := (x3).below hb4
  have y4 := (y3).below hb4
  clear x3 xa xb xl y3 ya yb yl
  have xa := x4.fst
  have xb := x4.snd
  have xl := x4.lt
  have ya := y4.fst
  have yb := y4.snd
  have yl := y4.lt
  go_wp2_with fail
  refine (S.out _).mono ?_
  rintro e w5 ⟨rfl, hb5⟩
  have hz5 := hb5.size
  have x5 := (x4).below hb5
  have y5 := (y4).below hb5
  clear x4 xa xb xl y4 ya yb yl
  have xa := x5.fst
  have xb := x5.snd
  have xl := x5.lt
  have ya := y5.fst
  have yb := y5.snd
  have yl := y5.lt
  go_wp2_with fail
  refine (ADD.out _).mono ?_
  rintro e w6 ⟨rfl, hb6⟩
  have hz6 := hb6.size
  have x6 := (x5).below hb6
  have y6 := (y5).below hb6
  clear x5 xa xb xl y5 ya yb yl
  have xa := x6.fst
  have xb := x6.snd
  have xl := x6.lt
  have ya := y6.fst
  have yb := y6.snd
  have yl := y6.lt
  go_wp2_with fail
  refine (SUB.out _).mono ?_
  rintro e w7 ⟨rfl, hb7⟩
  have hz7 := hb7.size
  simp only [World.size_alloc] at hz7
  have x7 := (x6.alloc _).below hb7
  have y7 := (y6.alloc _).below hb7
  have p7 := ((Two.new w6 (.int .i64 0) (.int .i64 0) 23)).below hb7
  clear x6 xa xb xl y6 ya yb yl
  have xa := x7.fst
  have xb := x7.snd
  have xl := x7.lt
  have ya := y7.fst
  have yb := y7.snd
  have yl := y7.lt
  have pa := p7.fst
  have pb := p7.snd
  have pl := p7.lt
  go_wp2_with fail
  refine (MUL.out _).mono ?_
  rintro e w8 ⟨rfl, hb8⟩
  have hz8 := hb8.size
  simp only [World.size_alloc] at hz8
  have x8 := (x7.alloc _).below hb8
  have y8 := (y7.alloc _).below hb8
  have p8 := (p7.alloc _).below hb8
  have q8 := ((Two.new w7 (.int .i64 0) (.int .i64 0) 23)).below hb8
  clear x7 xa xb xl y7 ya yb yl p7 pa pb pl
  have xa := x8.fst
  have xb := x8.snd
  have xl := x8.lt
  have ya := y8.fst
  have yb := y8.snd
  have yl := y8.lt
  have pa := p8.fst
  have pb := p8.snd
  have pl := p8.lt
  have qa := q8.fst
  have qb := q8.snd
  have ql := q8.lt
  go_wp2_with fail
  refine (DIV.out _).mono ?_
  rintro e w9 ⟨rfl, hb9⟩
  have hz9 := hb9.size
  simp only [World.size_alloc] at hz9
  have x9 := (x8.alloc _).below hb9
  have y9 := (y8.alloc _).below hb9
  have p9 := (p8.alloc _).below hb9
  have q9 := (q8.alloc _).below hb9
  have r9 := ((Two.new w8 (.int .i64 0) (.int .i64 0) 23)).below hb9
  clear x8 xa xb xl y8 ya yb yl p8 pa pb pl q8 qa qb ql
  have xa := x9.fst
  have xb := x9.snd
  have xl := x9.lt
  have ya := y9.fst
  have yb := y9.snd
  have yl := y9.lt
  have pa := p9.fst
  have pb := p9.snd
  have pl := p9.lt
  have qa := q9.fst
  have qb := q9.snd
  have ql := q9.lt
  have ra := r9.fst
  have rb := r9.snd
  have rl := r9.lt
  go_wp2_with fail
  refine (CMP.out _).mono ?_
  rintro e w10 ⟨rfl, hb10⟩
  have hz10 := hb10.size
  simp only [World.size_alloc] at hz10
  have x10 := (x9.alloc _).below hb10
  have y10 := (y9.alloc _).below hb10
  have p10 := (p9.alloc _).below hb10
  have q10 := (q9.alloc _).below hb10
  have r10 := (r9.alloc _).below hb10
  have s10 := ((Two.new w9 (.int .i64 0) (.int .i64 0) 23)).below hb10
  clear x9 xa xb xl y9 ya yb yl p9 pa pb pl q9 qa qb ql r9 ra rb rl
  have xa := x10.fst
  have xb := x10.snd
  have xl := x10.lt
  have ya := y10.fst
  have yb := y10.snd
  have yl := y10.lt
  have pa := p10.fst
  have pb := p10.snd
  have pl := p10.lt
  have qa := q10.fst
  have qb := q10.snd
  have ql := q10.lt
  have ra := r10.fst
  have rb := r10.snd
  have rl := r10.lt
  have sa := s10.fst
  have sb := s10.snd
  have sl := s10.lt
  go_wp2_with fail
  refine (SIM.out _).mono ?_
  rintro e w11 ⟨rfl, hb11⟩
  have hz11 := hb11.size
  have x11 := (x10).below hb11
  have y11 := (y10).below hb11
  have p11 := (p10).below hb11
  have q11 := (q10).below hb11
  have r11 := (r10).below hb11
  have s11 := (s10).below hb11
  clear x10 xa xb xl y10 ya yb yl p10 pa pb pl q10 qa qb ql r10 ra rb rl s10 sa sb sl
  have xa := x11.fst
  have xb := x11.snd
  have xl := x11.lt
  have ya := y11.fst
  have yb := y11.snd
  have yl := y11.lt
  have pa := p11.fst
  have pb := p11.snd
  have pl := p11.lt
  have qa := q11.fst
  have qb := q11.snd
  have ql := q11.lt
  have ra := r11.fst
  have rb := r11.snd
  have rl := r11.lt
  have sa := s11.fst
  have sb := s11.snd
  have sl := s11.lt
  go_wp2
  go_ret
  exact ⟨rfl, (((((((((((((((((((Below.refl _ _).alloc (Nat.le_refl _) _).alloc (by go_size) _).trans (hb1.mono (by go_size))).trans (hb2.mono (by go_size))).trans (hb3.mono (by go_size))).trans (hb4.mono (by go_size))).trans (hb5.mono (by go_size))).trans (hb6.mono (by go_size))).alloc (by go_size) _).trans (hb7.mono (by go_size))).alloc (by go_size) _).trans (hb8.mono (by go_size))).alloc (by go_size) _).trans (hb9.mono (by go_size))).alloc (by go_size) _).trans (hb10.mono (by go_size))).trans (hb11.mono (by go_size))).alloc (by go_size) _).alloc (by go_size) _⟩

set_option maxRecDepth 100000 in
set_option maxHeartbeats 4000000 in
theorem checks_wrong_x (a b c d : Int) (w : World) (h : FracMath.rightB a b = false) :
    Calls Tryd.prog 3 #[.agg #[.int .i64 a, .int .i64 b], .agg #[.int .i64 c, .int .i64 d]] w fun e w' => e = .returned (.bool true) ∧ Below w.heap.size w w' := by
  have hh : (FracMath.rightB a b && FracMath.rightB c d) = false := by rw [h]; rfl
  have h2 : (FracMath.rightB 1 2 && FracMath.rightB a b) = false := by rw [h, Bool.and_false]
  have ADD := Lib.hid fun W => add_wrong a b c d W hh
  have SUB := Lib.hid fun W => sub_wrong a b c d W hh
  have MUL := Lib.hid fun W => mul_wrong a b c d W hh
  have DIV := Lib.hid fun W => div_wrong a b c d W hh
  have CMP := Lib.hid fun W => compare_wrong a b c d W hh
  have SIM := Lib.hid fun W => simplest_wrong a b c d W hh
  have FLO := Lib.hid fun W => Floor_wrong a b W h
  have NEA := Lib.hid fun W => nearest_wrong a b W h
  have TER := Lib.hid fun W => terms_wrong a b W h
  have TEX := Lib.hid fun W => text_wrong a b W h
  have SUM := Lib.hid fun B cap W => sum_two_wrong B cap 1 2 a b W h2
  have r := fun W => ref_right_any a b W
  have k := fun W => check_any a b W
  rw [h] at r
  rw [chk_no h] at k
  have R := Lib.hid r
  have K := Lib.hid k
  clear r k h h2 hh
  go_enter Tryd.func3, Tryd.ntmps3
  go_wp2_with fail
  refine (known_any _).mono ?_
  rintro e w1 ⟨rfl, hb1⟩
  have x1 := ((Two.new w (.int .i64 a) (.int .i64 b) 23).alloc _).below hb1
  have y1 := (Two.new (w.alloc _) (.int .i64 c) (.int .i64 d) 23).below hb1
  simp at y1
  have hz1 := hb1.size
  simp only [World.size_alloc] at hz1
  have xa := x1.fst
  have xb := x1.snd
  have xl := x1.lt
  have ya := y1.fst
  have yb := y1.snd
  have yl := y1.lt
  go_wp2_with fail
  refine (R.out _).mono ?_
  rintro e w2 ⟨rfl, hb2⟩
  have hz2 := hb2.size
  have x2 := (x1).below hb2
  have y2 := (y1).below hb2
  clear x1 xa xb xl y1 ya yb yl
  have xa := x2.fst
  have xb := x2.snd
  have xl := x2.lt
  have ya := y2.fst
  have yb := y2.snd
  have yl := y2.lt
  go_wp2_with fail
  refine (K.out _).mono ?_
  rintro e w3 ⟨rfl, hb3⟩
  have hz3 := hb3.size
  have x3 := (x2).below hb3
  have y3 := (y2).below hb3
  clear x2 xa xb xl y2 ya yb yl
  have xa := x3.fst
  have xb := x3.snd
  have xl := x3.lt
  have ya := y3.fst
  have yb := y3.snd
  have yl := y3.lt
  go_wp2_with fail
  refine (FLO.out _).mono ?_
  rintro e w4 ⟨rfl, hb4⟩
  have hz4 := hb4.size
  have x4 := (x3).below hb4
  have y4 := (y3).below hb4
  clear x3 xa xb xl y3 ya yb yl
  have xa := x4.fst
  have xb := x4.snd
  have xl := x4.lt
  have ya := y4.fst
  have yb := y4.snd
  have yl := y4.lt
  go_wp2_with fail
  refine (NEA.out _).mono ?_
  rintro e w5 ⟨rfl, hb5⟩
  have hz5 := hb5.size
  have x5 := (x4).below hb5
  have y5 := (y4).below hb5
  clear x4 xa xb xl y4 ya yb yl
  have xa := x5.fst
  have xb := x5.snd
  have xl := x5.lt
  have ya := y5.fst
  have yb := y5.snd
  have yl := y5.lt
  go_wp2_with fail
  refine (TER.out _).mono ?_
  rintro e w6 ⟨rfl, hb6⟩
  have hz6 := hb6.size
  have x6 := (x5).below hb6
  have y6 := (y5).below hb6
  clear x5 xa xb xl y5 ya yb yl
  have xa := x6.fst
  have xb := x6.snd
  have xl := x6.lt
  have ya := y6.fst
  have yb := y6.snd
  have yl := y6.lt
  go_wp2_with fail
  refine (TEX.out _).mono ?_
  rintro e w7 ⟨rfl, hb7⟩
  have hz7 := hb7.size
  have x7 := (x6).below hb7
  have y7 := (y6).below hb7
  clear x6 xa xb xl y6 ya yb yl
  have xa := x7.fst
  have xb := x7.snd
  have xl := x7.lt
  have ya := y7.fst
  have yb := y7.snd
  have yl := y7.lt
  go_wp2_with fail
  refine (SUM.out _ _ _ ?_ ?_ ?_ ?_ ?_).mono ?_
  · simp
  · exact new_cell _ _ _ rfl rfl
  · exact new_cell _ _ _ rfl rfl
  · exact new_cell _ _ _ rfl rfl
  · exact new_cell _ _ _ rfl rfl
  rintro e w8 ⟨rfl, hb8⟩
  have hz8 := hb8.size
  simp only [World.size_alloc] at hz8
  have x8 := (x7.alloc _).below hb8
  have y8 := (y7.alloc _).below hb8
  clear x7 xa xb xl y7 ya yb yl
  have xa := x8.fst
  have xb := x8.snd
  have xl := x8.lt
  have ya := y8.fst
  have yb := y8.snd
  have yl := y8.lt
  go_wp2_with fail
  refine (R.out _).mono ?_
  rintro e w9 ⟨rfl, hb9⟩
  have hz9 := hb9.size
  simp only [World.size_alloc] at hz9
  have x9 := (x8.alloc _).below hb9
  have y9 := (y8.alloc _).below hb9
  have o9 := ((Two.new w8 (.int .i64 0) (.int .i64 0) 23)).below hb9
  clear x8 xa xb xl y8 ya yb yl
  have xa := x9.fst
  have xb := x9.snd
  have xl := x9.lt
  have ya := y9.fst
  have yb := y9.snd
  have yl := y9.lt
  have oa := o9.fst
  have ob := o9.snd
  have ol := o9.lt
  go_wp2_with fail
  refine (ADD.out _).mono ?_
  rintro e w10 ⟨rfl, hb10⟩
  have hz10 := hb10.size
  have x10 := (x9).below hb10
  have y10 := (y9).below hb10
  have o10 := (o9).below hb10
  clear x9 xa xb xl y9 ya yb yl o9 oa ob ol
  have xa := x10.fst
  have xb := x10.snd
  have xl := x10.lt
  have ya := y10.fst
  have yb := y10.snd
  have yl := y10.lt
  have oa := o10.fst
  have ob := o10.snd
  have ol := o10.lt
  go_wp2_with fail
  refine (SUB.out _).mono ?_
  rintro e w11 ⟨rfl, hb11⟩
  have hz11 := hb11.size
  simp only [World.size_alloc] at hz11
  have x11 := (x10.alloc _).below hb11
  have y11 := (y10.alloc _).below hb11
  have o11 := (o10.alloc _).below hb11
  have p11 := ((Two.new w10 (.int .i64 0) (.int .i64 0) 23)).below hb11
  clear x10 xa xb xl y10 ya yb yl o10 oa ob ol
  have xa := x11.fst
  have xb := x11.snd
  have xl := x11.lt
  have ya := y11.fst
  have yb := y11.snd
  have yl := y11.lt
  have oa := o11.fst
  have ob := o11.snd
  have ol := o11.lt
  have pa := p11.fst
  have pb := p11.snd
  have pl := p11.lt
  go_wp2_with fail
  refine (MUL.out _).mono ?_
  rintro e w12 ⟨rfl, hb12⟩
  have hz12 := hb12.size
  simp only [World.size_alloc] at hz12
  have x12 := (x11.alloc _).below hb12
  have y12 := (y11.alloc _).below hb12
  have o12 := (o11.alloc _).below hb12
  have p12 := (p11.alloc _).below hb12
  have q12 := ((Two.new w11 (.int .i64 0) (.int .i64 0) 23)).below hb12
  clear x11 xa xb xl y11 ya yb yl o11 oa ob ol p11 pa pb pl
  have xa := x12.fst
  have xb := x12.snd
  have xl := x12.lt
  have ya := y12.fst
  have yb := y12.snd
  have yl := y12.lt
  have oa := o12.fst
  have ob := o12.snd
  have ol := o12.lt
  have pa := p12.fst
  have pb := p12.snd
  have pl := p12.lt
  have qa := q12.fst
  have qb := q12.snd
  have ql := q12.lt
  go_wp2_with fail
  refine (DIV.out _).mono ?_
  rintro e w13 ⟨rfl, hb13⟩
  have hz13 := hb13.size
  simp only [World.size_alloc] at hz13
  have x13 := (x12.alloc _).below hb13
  have y13 := (y12.alloc _).below hb13
  have o13 := (o12.alloc _).below hb13
  have p13 := (p12.alloc _).below hb13
  have q13 := (q12.alloc _).below hb13
  have r13 := ((Two.new w12 (.int .i64 0) (.int .i64 0) 23)).below hb13
  clear x12 xa xb xl y12 ya yb yl o12 oa ob ol p12 pa pb pl q12 qa qb ql
  have xa := x13.fst
  have xb := x13.snd
  have xl := x13.lt
  have ya := y13.fst
  have yb := y13.snd
  have yl := y13.lt
  have oa := o13.fst
  have ob := o13.snd
  have ol := o13.lt
  have pa := p13.fst
  have pb := p13.snd
  have pl := p13.lt
  have qa := q13.fst
  have qb := q13.snd
  have ql := q13.lt
  have ra := r13.fst
  have rb := r13.snd
  have rl := r13.lt
  go_wp2_with fail
  refine (CMP.out _).mono ?_
  rintro e w14 ⟨rfl, hb14⟩
  have hz14 := hb14.size
  simp only [World.size_alloc] at hz14
  have x14 := (x13.alloc _).below hb14
  have y14 := (y13.alloc _).below hb14
  have o14 := (o13.alloc _).below hb14
  have p14 := (p13.alloc _).below hb14
  have q14 := (q13.alloc _).below hb14
  have r14 := (r13.alloc _).below hb14
  have s14 := ((Two.new w13 (.int .i64 0) (.int .i64 0) 23)).below hb14
  clear x13 xa xb xl y13 ya yb yl o13 oa ob ol p13 pa pb pl q13 qa qb ql r13 ra rb rl
  have xa := x14.fst
  have xb := x14.snd
  have xl := x14.lt
  have ya := y14.fst
  have yb := y14.snd
  have yl := y14.lt
  have oa := o14.fst
  have ob := o14.snd
  have ol := o14.lt
  have pa := p14.fst
  have pb := p14.snd
  have pl := p14.lt
  have qa := q14.fst
  have qb := q14.snd
  have ql := q14.lt
  have ra := r14.fst
  have rb := r14.snd
  have rl := r14.lt
  have sa := s14.fst
  have sb := s14.snd
  have sl := s14.lt
  go_wp2_with fail
  refine (SIM.out _).mono ?_
  rintro e w15 ⟨rfl, hb15⟩
  have hz15 := hb15.size
  have x15 := (x14).below hb15
  have y15 := (y14).below hb15
  have o15 := (o14).below hb15
  have p15 := (p14).below hb15
  have q15 := (q14).below hb15
  have r15 := (r14).below hb15
  have s15 := (s14).below hb15
  clear x14 xa xb xl y14 ya yb yl o14 oa ob ol p14 pa pb pl q14 qa qb ql r14 ra rb rl s14 sa sb sl
  have xa := x15.fst
  have xb := x15.snd
  have xl := x15.lt
  have ya := y15.fst
  have yb := y15.snd
  have yl := y15.lt
  have oa := o15.fst
  have ob := o15.snd
  have ol := o15.lt
  have pa := p15.fst
  have pb := p15.snd
  have pl := p15.lt
  have qa := q15.fst
  have qb := q15.snd
  have ql := q15.lt
  have ra := r15.fst
  have rb := r15.snd
  have rl := r15.lt
  have sa := s15.fst
  have sb := s15.snd
  have sl := s15.lt
  go_wp2
  go_ret
  exact ⟨rfl, (((((((((((((((((((((((((Below.refl _ _).alloc (Nat.le_refl _) _).alloc (by go_size) _).trans (hb1.mono (by go_size))).trans (hb2.mono (by go_size))).trans (hb3.mono (by go_size))).trans (hb4.mono (by go_size))).trans (hb5.mono (by go_size))).trans (hb6.mono (by go_size))).trans (hb7.mono (by go_size))).alloc (by go_size) _).trans (hb8.mono (by go_size))).alloc (by go_size) _).trans (hb9.mono (by go_size))).trans (hb10.mono (by go_size))).alloc (by go_size) _).trans (hb11.mono (by go_size))).alloc (by go_size) _).trans (hb12.mono (by go_size))).alloc (by go_size) _).trans (hb13.mono (by go_size))).alloc (by go_size) _).trans (hb14.mono (by go_size))).trans (hb15.mono (by go_size))).alloc (by go_size) _).alloc (by go_size) _⟩

theorem fractionChecks_walk (a b c d : Int) (w : World) :
    Calls Tryd.prog 3 #[.agg #[.int .i64 a, .int .i64 b], .agg #[.int .i64 c, .int .i64 d]] w fun e w' => e = .returned (.bool true) ∧ Below w.heap.size w w' := by
  cases h : FracMath.rightB a b
  · exact checks_wrong_x a b c d w h
  · cases h' : FracMath.rightB c d
    · exact checks_wrong_y a b c d w h h'
    · exact checks_right a b c d w h h'
end Go.Proofs.YtlfnhknnfajknaaDoor
