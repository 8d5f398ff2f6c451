/- What wrong costs do in the other functions; the law's zero. -/
import Derived.Test.YtojgfpnecdngfaaMtU
namespace Go.Proofs.Ytojgfpnecdngfaa
open Go Go.RowKit Go.Shelf

section
variable (B m : Nat) (A : Option Addr) (cm : Nat) (L : Nat → Nat) (f : Nat → Nat → Int) (w : World) (hm : m ≤ 9223372036854775807) (hL : ∀ i, i < m → L i ≤ 9223372036854775807) (hT : Tb w B A m L f) (hB : B ≤ w.heap.size)
include hm hL hT
theorem Total_err (C : Option Addr) (nc cc : Nat) (E : Int) (hE : chT true m L f = E) (h0 : E ≠ 0) :
    Calls Try.prog 16 #[.slice A m cm, .slice C nc cc] w fun e w' => e = .returned (.tuple #[.int .i64 0, .int .i64 E]) ∧ w = w' := by
  have CK := Lib.hid (check_c B m A cm L f w hm hL hT)
  rw [hE] at CK
  have hne : (E != 0) = true := by simp [h0]
  clear hT hL hE h0
  go_enter Try.func16, Try.ntmps16
  go_wp2_with fail
  refine CK.out.mono ?_
  rintro e w' ⟨rfl, rfl⟩
  go_wp2_with fail
  go_ret2
  exact ⟨rfl, rfl⟩
theorem tight_nil : Calls Try.prog 18 #[.slice A m cm, .slice none 0 0, .slice none 0 0] w fun e w' => (∃ x : Int, e = .returned (.tuple #[.slice none 0 0, .int .i64 x]) ∧ (chT true m L f ≠ 0 → x = chT true m L f)) ∧ ∃ d, w' = w.drewN d := by
  have BO := Lib.hid (boundE_c B m (wid m L) 0 0 A none none cm 0 0 L f (fun _ => 0) (fun _ => 0) w hm hL rfl (by omega) (by omega) hT (fun k hk => absurd hk (by omega)) (fun k hk => absurd hk (by omega)))
  clear hT hL
  go_enter Try.func18, Try.ntmps18
  go_wp2_with fail
  refine BO.out.mono ?_
  rintro e w2 hpost
  obtain ⟨v, x, d, rfl, hx, hx0, rfl⟩ : ∃ (v x : Int) (d : Nat), e = .returned (.tuple #[.int .i64 v, .int .i64 x]) ∧ (chT true m L f ≠ 0 → x = chT true m L f) ∧ (x = 0 → m = 0) ∧ w2 = w.drewN d := by
    rcases hpost with ⟨h, rfl, rfl⟩ | ⟨h, ⟨v, x, rfl, hb⟩, d, rfl⟩
    · exact ⟨_, _, 0, rfl, fun _ => rfl, fun h' => absurd h' h, rfl⟩
    · refine ⟨v, x, d, rfl, fun h' => absurd h h', fun h' => ?_, rfl⟩
      rcases hb with ⟨h1, _, h2⟩ | ⟨_, _, _, h2⟩ | ⟨h1, _⟩
      · rw [h'] at h2; exact absurd h2.symm h1
      · rw [h'] at h2; cases h2
      · unfold szE at h1
        by_cases hz : (0 : Nat) ≠ m ∨ (0 : Nat) ≠ wid m L
        · rw [if_pos hz] at h1; cases h1
        · omega
  clear hpost
  have HX := Lib.hid hx
  clear hx
  by_cases h0 : x = 0
  · have hm0 := hx0 h0
    have HX0 := Lib.hid h0
    subst hm0
    clear hx0
    subst h0
    go_wp2_with fail
    go_loopw [10, 27] (fun v i wr => v = .slice none 0 0 ∧ i = .int .i64 0 ∧ wr = w.drewN d) (fun _ _ _ => 0)
    case atStart => exact ⟨rfl, rfl, rfl⟩
    case round =>
      obtain ⟨rfl, rfl, hwr⟩ := hrel
      subst wr
      go_wp2_with fail
      go_ret2
      exact ⟨⟨_, rfl, HX.out⟩, d, rfl⟩
  · have hne : (x != 0) = true := by simp [h0]
    clear hx0 h0
    go_wp2_with fail
    go_ret2
    exact ⟨⟨_, rfl, HX.out⟩, d, rfl⟩
include hB
theorem verify_err (E : Int) (hE : chT true m L f = E) (h0 : E ≠ 0) :
    Calls Try.prog 21 #[.slice A m cm, resZ] w fun e w' => e = .returned (.int .i64 E) ∧ Below w.heap.size w w' := by
  obtain ⟨w1, hw1⟩ : ∃ w1, w.alloc (.cells #[.slice none 0 0, .int .i64 0, .slice none 0 0, .slice none 0 0] 29) = w1 := ⟨_, rfl⟩
  have hb1 : Below w.heap.size w w1 := by rw [← hw1]; exact (Below.refl _ _).alloc (Nat.le_refl _) _
  have hr : w1.heap[w.heap.size]? = some (.cells #[.slice none 0 0, .int .i64 0, .slice none 0 0, .slice none 0 0] 29) := by rw [← hw1]; exact heap_newM _ _
  have TE := Lib.hid (Total_err B m A cm L f w1 hm hL (hT.below hb1 hB) none 0 0 E hE h0)
  have r0 : w1.cell? ⟨w.heap.size, 0, none⟩ = some (.slice none 0 0) := by simp [World.cell?, hr]
  have hne : (E != 0) = true := by simp [h0]
  have HB := Lib.hid hb1
  clear hT hL hE hb1 hr h0
  go_enter Try.func21, Try.ntmps21
  go_wp2_with fail
  refine TE.out.mono ?_
  rintro e w' ⟨rfl, rfl⟩
  go_wp2_with fail
  go_ret
  exact ⟨rfl, HB.out⟩
theorem verifyP_err (skip E : Int) (hE : chP m L f skip = E) (h0 : E ≠ 0) :
    Calls Try.prog 23 #[.slice A m cm, .int .i64 skip, resZ] w fun e w' => e = .returned (.int .i64 E) ∧ Below w.heap.size w w' := by
  obtain ⟨w1, hw1⟩ : ∃ w1, (w.alloc (.cells #[.int .i64 skip] 3)).alloc (.cells #[.slice none 0 0, .int .i64 0, .slice none 0 0, .slice none 0 0] 29) = w1 := ⟨_, rfl⟩
  have hb1 : Below w.heap.size w w1 := by rw [← hw1]; exact ((Below.refl _ _).alloc (Nat.le_refl _) _).alloc (by simp) _
  have hr : w1.heap[w.heap.size]? = some (.cells #[.int .i64 skip] 3) := by rw [← hw1]; exact heap_old (heap_at rfl)
  have CP := Lib.hid (checkPartial_c B m A cm L f skip w1 hm hL (hT.below hb1 hB))
  rw [hE] at CP
  have r0 : w1.cell? ⟨w.heap.size, 0, none⟩ = some (.int .i64 skip) := by simp [World.cell?, hr]
  have hne : (E != 0) = true := by simp [h0]
  have HB := Lib.hid hb1
  clear hT hL hE hb1 hr h0
  go_enter Try.func23, Try.ntmps23
  go_wp2_with fail
  refine CP.out.mono ?_
  rintro e w' ⟨rfl, rfl⟩
  go_wp2_with fail
  go_ret
  exact ⟨rfl, HB.out⟩
set_option maxHeartbeats 2000000 in
theorem partial_err (skip E : Int) (hE : chP m L f skip = E) (h0 : E ≠ 0) :
    Calls Try.prog 22 #[.slice A m cm, .int .i64 skip] w fun e w' => e = .returned (.tuple #[resZ, .int .i64 E]) ∧ Below w.heap.size w w' := by
  obtain ⟨w1, hw1⟩ : ∃ w1, w.alloc (.cells #[.slice none 0 0, .int .i64 0, .slice none 0 0, .slice none 0 0] 29) = w1 := ⟨_, rfl⟩
  have hb1 : Below w.heap.size w w1 := by rw [← hw1]; exact (Below.refl _ _).alloc (Nat.le_refl _) _
  have hr : w1.heap[w.heap.size]? = some (.cells #[.slice none 0 0, .int .i64 0, .slice none 0 0, .slice none 0 0] 29) := by rw [← hw1]; exact heap_newM _ _
  have CP := Lib.hid (checkPartial_c B m A cm L f skip w1 hm hL (hT.below hb1 hB))
  rw [hE] at CP
  have r0 : w1.cell? ⟨w.heap.size, 0, none⟩ = some (.slice none 0 0) := by simp [World.cell?, hr]
  have r1 : w1.cell? ⟨w.heap.size, 1, none⟩ = some (.int .i64 0) := by simp [World.cell?, hr]
  have r2 : w1.cell? ⟨w.heap.size, 2, none⟩ = some (.slice none 0 0) := by simp [World.cell?, hr]
  have r3 : w1.cell? ⟨w.heap.size, 3, none⟩ = some (.slice none 0 0) := by simp [World.cell?, hr]
  have rf : ∀ o, w1.frozen? ⟨w.heap.size, o, none⟩ = false := fun o => by simp [World.frozen?, hr]
  have hne : (E != 0) = true := by simp [h0]
  have HB := Lib.hid hb1
  clear hT hL hE hb1 hr h0
  go_enter Try.func22, Try.ntmps22
  go_wp2_with fail
  try rw [hw1]
  refine CP.out.mono ?_
  rintro e w' ⟨rfl, rfl⟩
  go_wp2_with fail
  refine bodyPost_ret (v := .tuple #[resZ, .int .i64 E]) (by simp [results, Try.results22, go_sem, r0, r1, r2, r3]) rfl ⟨rfl, ?_⟩
  exact (((HB.out.setCell (p := ⟨w.heap.size, 0, none⟩) (Nat.le_refl _) _).setCell (p := ⟨w.heap.size, 1, none⟩) (Nat.le_refl _) _).setCell (p := ⟨w.heap.size, 2, none⟩) (Nat.le_refl _) _).setCell (p := ⟨w.heap.size, 3, none⟩) (Nat.le_refl _) _
end
theorem zero_c (w : World) : Calls Try.prog 20 #[resZ] w fun e w' => e = .returned (.bool true) ∧ Below w.heap.size w w' := by
  obtain ⟨w1, hw1⟩ : ∃ w1, w.alloc (.cells #[.slice none 0 0, .int .i64 0, .slice none 0 0, .slice none 0 0] 29) = w1 := ⟨_, rfl⟩
  have hb1 : Below w.heap.size w w1 := by rw [← hw1]; exact (Below.refl _ _).alloc (Nat.le_refl _) _
  have hr : w1.heap[w.heap.size]? = some (.cells #[.slice none 0 0, .int .i64 0, .slice none 0 0, .slice none 0 0] 29) := by rw [← hw1]; exact heap_newM _ _
  have r0 : w1.cell? ⟨w.heap.size, 0, none⟩ = some (.slice none 0 0) := by simp [World.cell?, hr]
  have r1 : w1.cell? ⟨w.heap.size, 1, none⟩ = some (.int .i64 0) := by simp [World.cell?, hr]
  have r2 : w1.cell? ⟨w.heap.size, 2, none⟩ = some (.slice none 0 0) := by simp [World.cell?, hr]
  have r3 : w1.cell? ⟨w.heap.size, 3, none⟩ = some (.slice none 0 0) := by simp [World.cell?, hr]
  have HB := Lib.hid hb1
  clear hb1 hr
  go_enter Try.func20, Try.ntmps20
  go_wp2_with fail
  go_ret
  exact ⟨by first | rfl | simp, HB.out⟩
end Go.Proofs.Ytojgfpnecdngfaa
