/- Contracts of Terms, Text, Sum and Simplest at a fraction that is not right: ErrNumber, and the zero value beside it. -/
import Derived.Test.YtlfnhknnfajknaaDoorFracJ
namespace Go.Proofs.YtlfnhknnfajknaaDoor
open Go.RowKit

theorem terms_wrong (n d : Int) (w : World) (h : FracMath.rightB n d = false) :
    Calls Tryd.prog 10 #[.agg #[.int .i64 n, .int .i64 d]] w fun e w' => e = .returned (.tuple #[.slice none 0 0, .int .i64 2]) ∧ Below w.heap.size w w' := by
  have c := fun W => check_any n d W
  rw [chk_no h] at c
  have C := Lib.hid c
  clear c h
  go_enter Tryd.func10, Tryd.ntmps10
  go_wp2_with fail
  refine (C.out _).mono ?_
  rintro e w1 ⟨rfl, hb1⟩
  go_wp2
  go_ret2
  exact ⟨rfl, (((Below.refl _ _).alloc (Nat.le_refl _) _)).trans (hb1.mono (by go_size))⟩

theorem text_wrong (n d : Int) (w : World) (h : FracMath.rightB n d = false) :
    Calls Tryd.prog 11 #[.agg #[.int .i64 n, .int .i64 d]] w fun e w' => e = .returned (.tuple #[.string ⟨#[]⟩, .int .i64 2]) ∧ Below w.heap.size w w' := by
  have c := fun W => check_any n d W
  rw [chk_no h] at c
  have C := Lib.hid c
  clear c h
  go_enter Tryd.func11, Tryd.ntmps11
  go_wp2_with fail
  refine (C.out _).mono ?_
  rintro e w1 ⟨rfl, hb1⟩
  go_wp2
  go_ret2
  exact ⟨rfl, (((Below.refl _ _).alloc (Nat.le_refl _) _)).trans (hb1.mono (by go_size))⟩

set_option maxHeartbeats 1000000 in
theorem sum_two_wrong (B cap : Nat) (a b c d : Int) (w : World) (h : (FracMath.rightB a b && FracMath.rightB c d) = false) (hB : B < w.heap.size)
    (h0 : w.cell? ⟨B, 0, none⟩ = some (.int .i64 a)) (h1 : w.cell? ⟨B, 1, none⟩ = some (.int .i64 b)) (h2 : w.cell? ⟨B, 2, none⟩ = some (.int .i64 c)) (h3 : w.cell? ⟨B, 3, none⟩ = some (.int .i64 d)) :
    Calls Tryd.prog 12 #[.slice (some ⟨B, 0, none⟩) 2 cap] w fun e w' => e = .returned (.tuple #[.agg #[.int .i64 0, .int .i64 0], .int .i64 2]) ∧ Below w.heap.size w w' := by
  have hb0 : Below w.heap.size w (w.alloc (.cells #[.int .i64 0, .int .i64 0] 23)) := (Below.refl _ _).alloc (Nat.le_refl _) _
  have c0 := checkAll_two B cap a b c d (w.alloc (.cells #[.int .i64 0, .int .i64 0] 23)) (by simp; omega) ((hb0.cell (p := ⟨B, 0, none⟩) hB).trans h0) ((hb0.cell (p := ⟨B, 1, none⟩) hB).trans h1) ((hb0.cell (p := ⟨B, 2, none⟩) hB).trans h2) ((hb0.cell (p := ⟨B, 3, none⟩) hB).trans h3)
  rw [h, if_neg (by decide)] at c0
  have C0 := Lib.hid c0
  clear c0 h h0 h1 h2 h3 hb0
  go_enter Tryd.func12, Tryd.ntmps12
  go_wp2_with fail
  refine C0.out.mono ?_
  rintro e w1 ⟨rfl, hb1⟩
  obtain ⟨r0, r1, rl, rf⟩ := (Two.new w (.int .i64 0) (.int .i64 0) 23).below hb1
  go_wp2
  exact bodyPost_ret (v := .tuple #[.agg #[.int .i64 0, .int .i64 0], .int .i64 2]) (by simp [results, Tryd.results12, go_sem, r0, r1]) rfl ⟨rfl, (((((Below.refl _ _).alloc (Nat.le_refl _) _).trans (hb1.mono (by go_size))).setCell (by go_size) _).setCell (by go_size) _)⟩

set_option maxHeartbeats 1000000 in
theorem simplest_wrong (a b c d : Int) (w : World) (h : (FracMath.rightB a b && FracMath.rightB c d) = false) :
    Calls Tryd.prog 18 #[.agg #[.int .i64 a, .int .i64 b], .agg #[.int .i64 c, .int .i64 d]] w fun e w' => e = .returned (.tuple #[.agg #[.int .i64 0, .int .i64 0], .int .i64 2]) ∧ Below w.heap.size w w' := by
  have C0 := Lib.hid fun W => compare_wrong a b c d W h
  clear h
  go_enter Tryd.func18, Tryd.ntmps18
  go_wp2_with fail
  refine (C0.out _).mono ?_
  rintro e w1 ⟨rfl, hb1⟩
  obtain ⟨r0, r1, rl, rf⟩ := (Two.new ((w.alloc _).alloc _) (.int .i64 0) (.int .i64 0) 23).below hb1
  simp at r0 r1 rl rf
  go_wp2
  exact bodyPost_ret (v := .tuple #[.agg #[.int .i64 0, .int .i64 0], .int .i64 2]) (by simp [results, Tryd.results18, go_sem, r0, r1]) rfl ⟨rfl, (((((((Below.refl _ _).alloc (Nat.le_refl _) _).alloc (by go_size) _).alloc (by go_size) _).trans (hb1.mono (by go_size))).setCell (by go_size) _).setCell (by go_size) _)⟩
end Go.Proofs.YtlfnhknnfajknaaDoor
