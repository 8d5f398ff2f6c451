/- Contracts of fraction.Text at 8/3 and of the example that every law on fractions begins with (known): it is right. -/
import Derived.Test.YtoeacbmlodfciaaDoorFracC
import Derived.Deep.RegionWith
namespace Go.Proofs.YtoeacbmlodfciaaDoor
open Go.RowKit

theorem itoa_2 (w : World) : Calls Tryd.prog 44 #[.int .i64 2] w fun e w' => e = .returned (.string ⟨#[50]⟩) ∧ w = w' := by
  go_enter Tryd.func44, Tryd.ntmps44
  go_wp2
  go_ret
  exact ⟨rfl, rfl⟩
theorem itoa_3 (w : World) : Calls Tryd.prog 44 #[.int .i64 3] w fun e w' => e = .returned (.string ⟨#[51]⟩) ∧ w = w' := by
  go_enter Tryd.func44, Tryd.ntmps44
  go_wp2
  go_ret
  exact ⟨rfl, rfl⟩

set_option maxHeartbeats 400000 in
theorem text_83 (w : World) : Calls Tryd.prog 26 #[.agg #[.int .i64 8, .int .i64 3]] w fun e w' => e = .returned (.tuple #[.string ⟨#[50, 32, 50, 47, 51]⟩, .int .i64 0]) ∧ Below w.heap.size w w' := by
  have c := fun W => check_any 8 3 W
  rw [show chk 8 3 = 0 from by decide +kernel] at c
  have C := Lib.hid c
  clear c
  go_enter Tryd.func26, Tryd.ntmps26
  go_wp2_with fail
  refine (C.out _).mono ?_
  rintro e w1 ⟨rfl, hb⟩
  obtain ⟨hc, hf⟩ := bcell hb
  have hz : w.heap.size < w1.heap.size := by have := hb.size; simp at this; omega
  have hc0 := fun o => hc w.heap.size o (by simp)
  go_wp2
  go_quiet (fail)
  go_wp2
  have hw2 : IntKind.i64.wrap 2 = 2 := by decide
  go_quiet (first | (go_at_call_of 44 (Value.int .i64 2); exact still_more (itoa_2 _)) | (go_at_call_of 44 (Value.int .i64 3); exact still_more (itoa_3 _)))
  go_wp2
  go_ret2
  exact ⟨rfl, below_drewN (((Below.refl _ _).alloc (Nat.le_refl _) _).trans (hb.mono (by simp))) _⟩

set_option maxHeartbeats 400000 in
theorem known_any (w : World) : Calls Tryd.prog 9 #[] w fun e w' => e = .returned (.bool true) ∧ Below w.heap.size w w' := by
  have c := fun W => make_any 16 6 W (by decide) (by decide) (by decide) (by decide)
  rw [show FracMath.mk 16 6 = (8, 3, 0) from by decide +kernel] at c
  have C := Lib.hid c
  clear c
  go_enter Tryd.func9, Tryd.ntmps9
  go_wp2_with fail
  refine (C.out _).mono ?_
  rintro e w1 ⟨rfl, hb⟩
  have hz := hb.size
  go_wp2_with fail
  refine (text_83 _).mono ?_
  rintro e w2 ⟨rfl, hb2⟩
  obtain ⟨hc, hf⟩ := bcell hb2
  have hc1 := fun o => hc w1.heap.size o (by simp)
  go_wp2
  go_ret
  exact ⟨rfl, (hb.alloc hz _).trans (hb2.mono (by simp; omega))⟩
end Go.Proofs.YtoeacbmlodfciaaDoor
