/- The law's known examples. -/
import Derived.Test.YtnchodofgaaeeaaGreatDoorImS
namespace Go.Proofs.YtnchodofgaaeeaaGreatDoor
open Go Go.RowKit Go.Shelf

theorem tz_of {z : Int} {s : ByteArray} (h : Im.canonI s.data.toList = true) (hv : iv s = z) : tz z = s := by rw [← hv]; exact tz_iv h
theorem cn_of {s : ByteArray} (h : Im.canonI s.data.toList = true) (hs : s.size ≤ 100000) : Cn s := ⟨h, hs⟩

set_option maxRecDepth 100000 in
set_option maxHeartbeats 2000000 in
theorem known_any (w : World) (G : Gi w) :
    Calls Tryz.prog 13 #[] w fun e w' => e = .returned (.bool true) ∧ Below w.heap.size w w' := by
  have DM := Lib.hid (fun W G => div_few ⟨#[55]⟩ ⟨#[45, 50]⟩ (cn_of (by decide) (by decide)) (cn_of (by decide) (by decide)) (by decide) (by decide) W G)
  rw [show dvQ (iv ⟨#[55]⟩) (iv ⟨#[45, 50]⟩) = -4 by decide, show dvR (iv ⟨#[55]⟩) (iv ⟨#[45, 50]⟩) = -1 by decide, tz_of (z := -4) (s := ⟨#[45, 52]⟩) (by decide) (by decide), tz_of (z := -1) (s := ⟨#[45, 49]⟩) (by decide) (by decide)] at DM
  have PW := Lib.hid (fun W G => power_c ⟨#[51]⟩ (cn_of (by decide) (by decide)) 12 (by decide) (by decide) W G)
  rw [show (iv ⟨#[51]⟩) ^ 12 = 531441 by decide, tz_of (z := 531441) (s := ⟨#[53, 51, 49, 52, 52, 49]⟩) (by decide) (by decide)] at PW
  have PR := Lib.hid (fun W G => parse_any ⟨#[49, 32, 48, 48, 48, 32, 48, 48, 48]⟩ (by decide) W G)
  rw [show Im.prsL (ByteArray.mk #[49, 32, 48, 48, 48, 32, 48, 48, 48]).data.toList = [49, 48, 48, 48, 48, 48, 48] by decide, show Im.prsE (ByteArray.mk #[49, 32, 48, 48, 48, 32, 48, 48, 48]).data.toList = 0 by decide] at PR
  have CM := Lib.hid (fun W => cmp_c_few ⟨#[53, 51, 49, 52, 52, 49]⟩ ⟨#[53, 50, 52, 50, 56, 56]⟩ (cn_of (by decide) (by decide)) (cn_of (by decide) (by decide)) (by decide) W)
  rw [show sgn (iv ⟨#[53, 51, 49, 52, 52, 49]⟩ - iv ⟨#[53, 50, 52, 50, 56, 56]⟩) = 1 by decide] at CM
  go_enter Tryz.func13, Tryz.ntmps13
  go_wp2_with fail
  refine (DM.out _ G).mono ?_
  rintro e w1 ⟨rfl, hb1⟩
  go_wp2_with fail
  refine (PW.out _ (G.below hb1)).mono ?_
  rintro e w2 ⟨rfl, hb2⟩
  have hb12 := hb1.trans (hb2.mono hb1.size)
  go_wp2_with fail
  refine (PR.out _ (G.below hb12)).mono ?_
  rintro e w3 ⟨rfl, hb3⟩
  have hb13 := hb12.trans (hb3.mono hb12.size)
  go_wp2_with fail
  refine (CM.out _).mono ?_
  rintro e w4 ⟨rfl, hb4⟩
  have hb14 := hb13.trans (hb4.mono hb13.size)
  go_wp2
  go_ret
  exact ⟨rfl, hb14⟩
end Go.Proofs.YtnchodofgaaeeaaGreatDoor
