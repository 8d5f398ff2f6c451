/- Contracts of Compare, Floor and Nearest over fractions, and of the reference's: signs of differences, and quotients rounded down; ErrNumber where a fraction is not right. -/
import Derived.Test.YtoeacbmlodfciaaDoorFracE
import Derived.Test.YtoeacbmlodfciaaDoorFracMathB
namespace Go.Proofs.YtoeacbmlodfciaaDoor
open Go.RowKit

theorem cmp_lt (a b : Int) (w : World) (h : a < b) : Calls Tryd.prog 36 #[.int .i64 a, .int .i64 b] w fun e w' => e = .returned (.int .i64 (-1)) ∧ w = w' := by
  go_enter Tryd.func36, Tryd.ntmps36
  go_wp2
  go_ret
  exact ⟨rfl, rfl⟩
theorem cmp_gt (a b : Int) (w : World) (h : b < a) : Calls Tryd.prog 36 #[.int .i64 a, .int .i64 b] w fun e w' => e = .returned (.int .i64 (1)) ∧ w = w' := by
  go_enter Tryd.func36, Tryd.ntmps36
  go_wp2
  go_ret
  exact ⟨rfl, rfl⟩
theorem cmp_eq (a : Int) (w : World) : Calls Tryd.prog 36 #[.int .i64 a, .int .i64 a] w fun e w' => e = .returned (.int .i64 0) ∧ w = w' := by
  go_enter Tryd.func36, Tryd.ntmps36
  go_wp2
  go_ret
  exact ⟨rfl, rfl⟩
theorem cmp_any (a b : Int) (w : World) : Calls Tryd.prog 36 #[.int .i64 a, .int .i64 b] w fun e w' => e = .returned (.int .i64 (FracMath.cmpI a b)) ∧ w = w' := by
  rcases Int.lt_trichotomy a b with h | h | h
  · rw [FracMath.cmpI_lt h]; exact cmp_lt a b w h
  · subst h; rw [FracMath.cmpI_eq]; exact cmp_eq a w
  · rw [FracMath.cmpI_gt h]; exact cmp_gt a b w h

theorem floor_any (n d : Int) (w : World) (h1 : -4000000 ≤ n) (h2 : n ≤ 4000000) (h3 : 1 ≤ d) (h4 : d ≤ 4000000) :
    Calls Tryd.prog 35 #[.int .i64 n, .int .i64 d] w fun e w' => e = .returned (.int .i64 (n / d)) ∧ w = w' := by
  have hz : (d == 0) = false := by simp; omega
  have hb := FracMath.tdiv_bd n d
  have hf := Lib.hid (FracMath.floor1 n d (by omega))
  by_cases h : n.tmod d < 0
  · have HE := Lib.hid (show n / d = n.tdiv d - 1 by rw [← hf.out, if_pos h])
    have hn : n < 0 := by
      by_cases hn : n < 0
      · exact hn
      · have := Int.tmod_nonneg (a := n) d (by omega); omega
    go_enter Tryd.func35, Tryd.ntmps35
    go_wp2
    go_ret
    exact ⟨ret_int HE.out.symm, rfl⟩
  · have HE := Lib.hid (show n / d = n.tdiv d by rw [← hf.out, if_neg h])
    go_enter Tryd.func35, Tryd.ntmps35
    go_wp2
    go_ret
    exact ⟨ret_int HE.out.symm, rfl⟩

theorem ref_floor_any (n d : Int) (w : World) (h1 : -4000000 ≤ n) (h2 : n ≤ 4000000) (h3 : 1 ≤ d) (h4 : d ≤ 4000000) :
    Calls Tryd.prog 42 #[.int .i64 n, .int .i64 d] w fun e w' => e = .returned (.int .i64 (n / d)) ∧ w = w' := by
  have hz : (d == 0) = false := by simp; omega
  have hb := FracMath.tdiv_bd n d
  have hf := Lib.hid (FracMath.floor2 n d (by omega))
  obtain ⟨p1, p2, p3⟩ := FracMath.tdiv_mul_bd n d (by omega)
  by_cases hn : 0 ≤ n
  · rw [Int.tdiv_eq_ediv_of_nonneg hn] at hb p1 p2
    have p4 := FracMath.ediv_mul_le' n d (by omega)
    clear p3
    go_enter Tryd.func42, Tryd.ntmps42
    go_wp2
    go_ret
    exact ⟨rfl, rfl⟩
  · by_cases h : n < n.tdiv d * d
    · have HE := Lib.hid (show n / d = n.tdiv d - 1 by rw [← hf.out, if_pos h])
      go_enter Tryd.func42, Tryd.ntmps42
      go_wp2
      go_ret
      exact ⟨ret_int HE.out.symm, rfl⟩
    · have HE := Lib.hid (show n / d = n.tdiv d by rw [← hf.out, if_neg h])
      go_enter Tryd.func42, Tryd.ntmps42
      go_wp2
      go_ret
      exact ⟨ret_int HE.out.symm, rfl⟩

set_option maxHeartbeats 1000000 in
theorem compare_right (a b c d : Int) (w : World) (h1 : FracMath.rightB a b = true) (h2 : FracMath.rightB c d = true) :
    Calls Tryd.prog 17 #[.agg #[.int .i64 a, .int .i64 b], .agg #[.int .i64 c, .int .i64 d]] w fun e w' => e = .returned (.tuple #[.int .i64 (FracMath.cmpI (a * d) (c * b)), .int .i64 0]) ∧ Below w.heap.size w w' := by
  have c0 := fun (B cap : Nat) (W : World) => checkAll_two B cap a b c d W
  rw [h1, h2, if_pos (by decide)] at c0
  have C0 := Lib.hid c0
  obtain ⟨k1, k2, k3, k4, _⟩ := FracMath.right_of h1
  obtain ⟨l1, l2, l3, l4, _⟩ := FracMath.right_of h2
  clear c0 h1 h2
  have fad := FracMath.prod_bd (x := a) (y := d) ⟨by omega, by omega⟩ ⟨by omega, by omega⟩
  have fcb := FracMath.prod_bd (x := c) (y := b) ⟨by omega, by omega⟩ ⟨by omega, by omega⟩
  go_enter Tryd.func17, Tryd.ntmps17
  go_wp2_with fail
  refine (C0.out _ _ _ ?_ ?_ ?_ ?_ ?_).mono ?_
  · simp
  · exact new_cell _ _ _ (by simp) rfl
  · exact new_cell _ _ _ (by simp) rfl
  · exact new_cell _ _ _ (by simp) rfl
  · exact new_cell _ _ _ (by simp) rfl
  rintro e w1 ⟨rfl, hb1⟩
  obtain ⟨a0, a1, al, _⟩ := (((Two.new w (.int .i64 a) (.int .i64 b) 27).alloc _).alloc _).below hb1
  obtain ⟨c0, c1, cl, _⟩ := ((Two.new (w.alloc _) (.int .i64 c) (.int .i64 d) 27).alloc _).below hb1
  simp at c0 c1 cl
  go_wp2_with (go_at_call 36; refine (cmp_any _ _ _).mono ?_; rintro e w' ⟨rfl, rfl⟩)
  go_ret2
  exact ⟨rfl, ((((Below.refl _ _).alloc (Nat.le_refl _) _).alloc (by go_size) _).alloc (by go_size) _).trans (hb1.mono (by go_size))⟩

set_option maxHeartbeats 1000000 in
theorem compare_wrong (a b c d : Int) (w : World) (h : (FracMath.rightB a b && FracMath.rightB c d) = false) :
    Calls Tryd.prog 17 #[.agg #[.int .i64 a, .int .i64 b], .agg #[.int .i64 c, .int .i64 d]] w fun e w' => e = .returned (.tuple #[.int .i64 0, .int .i64 2]) ∧ Below w.heap.size w w' := by
  have c0 := fun (B cap : Nat) (W : World) => checkAll_two B cap a b c d W
  rw [h, if_neg (by decide)] at c0
  have C0 := Lib.hid c0
  clear c0 h
  go_enter Tryd.func17, Tryd.ntmps17
  go_wp2_with fail
  refine (C0.out _ _ _ ?_ ?_ ?_ ?_ ?_).mono ?_
  · simp
  · exact new_cell _ _ _ (by simp) rfl
  · exact new_cell _ _ _ (by simp) rfl
  · exact new_cell _ _ _ (by simp) rfl
  · exact new_cell _ _ _ (by simp) rfl
  rintro e w1 ⟨rfl, hb1⟩
  go_wp2
  go_ret2
  exact ⟨rfl, ((((Below.refl _ _).alloc (Nat.le_refl _) _).alloc (by go_size) _).alloc (by go_size) _).trans (hb1.mono (by go_size))⟩

theorem Floor_right (n d : Int) (w : World) (h : FracMath.rightB n d = true) :
    Calls Tryd.prog 15 #[.agg #[.int .i64 n, .int .i64 d]] w fun e w' => e = .returned (.tuple #[.int .i64 (n / d), .int .i64 0]) ∧ Below w.heap.size w w' := by
  have c := fun W => check_any n d W
  rw [chk_yes h] at c
  have C := Lib.hid c
  obtain ⟨k1, k2, k3, k4, _⟩ := FracMath.right_of h
  clear c h
  go_enter Tryd.func15, Tryd.ntmps15
  go_wp2_with fail
  refine (C.out _).mono ?_
  rintro e w1 ⟨rfl, hb1⟩
  obtain ⟨a0, a1, al, _⟩ := (Two.new w (.int .i64 n) (.int .i64 d) 27).below hb1
  go_wp2_with (go_at_call 35; refine (floor_any _ _ _ (by omega) (by omega) (by omega) (by omega)).mono ?_; rintro e w' ⟨rfl, rfl⟩)
  go_ret2
  exact ⟨rfl, (((Below.refl _ _).alloc (Nat.le_refl _) _)).trans (hb1.mono (by go_size))⟩
theorem Floor_wrong (n d : Int) (w : World) (h : FracMath.rightB n d = false) :
    Calls Tryd.prog 15 #[.agg #[.int .i64 n, .int .i64 d]] w fun e w' => e = .returned (.tuple #[.int .i64 0, .int .i64 2]) ∧ Below w.heap.size w w' := by
  have c := fun W => check_any n d W
  rw [chk_no h] at c
  have C := Lib.hid c
  clear c h
  go_enter Tryd.func15, Tryd.ntmps15
  go_wp2_with fail
  refine (C.out _).mono ?_
  rintro e w1 ⟨rfl, hb1⟩
  go_wp2
  go_ret2
  exact ⟨rfl, (((Below.refl _ _).alloc (Nat.le_refl _) _)).trans (hb1.mono (by go_size))⟩

end Go.Proofs.YtoeacbmlodfciaaDoor
