/- MatchingTotals: the walk. -/
import Derived.Test.YtojgfpnecdngfaaMtU
namespace Go.Proofs.Ytojgfpnecdngfaa
open Go Go.RowKit Go.Shelf

set_option maxRecDepth 100000 in
set_option maxHeartbeats 2000000 in
theorem totals_walk (B m nc : Nat) (A C : Option Addr) (cm cc : Nat) (L : Nat → Nat) (f : Nat → Nat → Int) (col : Nat → Int) (w : World) (hm : m ≤ 9223372036854775807) (hL : ∀ i, i < m → L i ≤ 9223372036854775807) (hT : Tb w B A m L f) (hB : B ≤ w.heap.size) (hnc : nc ≤ 9223372036854775807) (hC : Rd w B C nc col) :
    Calls Try.prog 5 #[.slice A m cm, .slice C nc cc] w fun e w' => e = .returned (.bool true) ∧ Below w.heap.size w w' := by
  have KN := Lib.hid (fun W => known_c W)
  have HT := Lib.hid hT
  have HL := Lib.hid hL
  have HC := Lib.hid hC
  clear hL hT hC
  go_enter Try.func5, Try.ntmps5
  go_wp2_with fail
  refine (KN.out _).mono ?_
  rintro e w1 ⟨rfl, hb1⟩
  have hT1 := HT.out.below hb1 hB
  have SM := Lib.hid (small_c B m A cm L f w1 hm hT1)
  have RC := Lib.hid (refCheck_c true B m A cm L f w1 hm HL.out hT1)
  obtain ⟨E, hE⟩ : ∃ E, chT true m L f = E := ⟨_, rfl⟩
  rw [hE] at RC
  have HE := Lib.hid hE
  have H1 := Lib.hid (And.intro hb1 (And.intro hT1 (HC.out.below hb1 hB)))
  clear hb1 hT1 hE
  go_wp2_with fail
  refine SM.out.mono ?_
  rintro e w' ⟨⟨b, rfl, hb⟩, rfl⟩
  clear hb
  cases b
  · go_wp2_with fail
    refine (KN.out _).mono ?_
    rintro e w2 ⟨rfl, hb2⟩
    have H2 := Lib.hid (H1.out.1.trans (hb2.mono H1.out.1.size))
    clear hb2
    go_wp2_with fail
    go_ret
    exact ⟨rfl, H2.out⟩
  by_cases hn6 : 6 < nc
  · have h6i : (6 : Int) < (nc : Int) := by omega
    go_wp2_with fail
    refine (KN.out _).mono ?_
    rintro e w2 ⟨rfl, hb2⟩
    have H2 := Lib.hid (H1.out.1.trans (hb2.mono H1.out.1.size))
    clear hb2
    go_wp2_with fail
    go_ret
    exact ⟨rfl, H2.out⟩
  have h6i : ¬ (6 : Int) < (nc : Int) := by omega
  go_wp2_with fail
  refine RC.out.mono ?_
  rintro e w' ⟨rfl, d, rfl⟩
  have H3 := Lib.hid (below_drewN H1.out.1 d)
  by_cases hE0 : E = 0
  case neg =>
    have hEi : (E != 0) = true := by simp; exact hE0
    go_wp2_with fail
    refine (KN.out _).mono ?_
    rintro e w2 ⟨rfl, hb2⟩
    have H2 := Lib.hid (H3.out.trans (hb2.mono H3.out.size))
    clear hb2
    go_wp2_with fail
    go_ret
    exact ⟨rfl, H2.out⟩
  subst hE0
  obtain ⟨ww, hww⟩ : ∃ ww, w1.drewN d = ww := ⟨_, rfl⟩
  have hz1 := H1.out.1.size
  have hdd : Below w1.heap.size w1 ww := by rw [← hww]; exact below_drewN (Below.refl w1.heap.size w1) d
  have hTL : Tb ww B A m L f := H1.out.2.1.below hdd (by omega)
  have hCL : Rd ww B C nc col := H1.out.2.2.below hdd (by omega)
  have hbw : Below w.heap.size w ww := by rw [← hww]; exact H3.out
  have hBw : B ≤ ww.heap.size := by have := hbw.size; omega
  have hch : chT true m L f = 0 := HE.out
  have TO := Lib.hid (Total_c B m (wid m L) nc A C cm cc L f col ww hm HL.out hTL hBw hnc hCL rfl hch)
  obtain ⟨n, hn⟩ : ∃ n, wid m L = n := ⟨_, rfl⟩
  rw [hn] at TO
  obtain ⟨o1, o2, o3, o4, o5⟩ := chT_ok hch
  rw [hn] at o2 o3 o4 o5
  have HM := Lib.hid (And.intro (hTL.congr o3 (fun _ _ _ _ => rfl)) (And.intro hCL (And.intro hbw o5)))
  have hm' : m ≤ 1000 := by omega
  have hn' : n ≤ 1000 := by omega
  clear o1 o2 o3 o4 o5 hTL hCL hbw hch hn HE H1 H3 SM RC hdd
  go_wp2_with fail
  try rw [hww]
  refine TO.out.mono ?_
  rintro e w2 ⟨⟨v, x, rfl, hr⟩, hb2⟩
  have RT := Lib.hid (refTotal_c B m n nc A C cm cc f col w2 hm' hn' hnc (HM.out.1.below hb2 hBw) (HM.out.2.1.below hb2 hBw) HM.out.2.2.2)
  have HR := Lib.hid (And.intro hr hb2)
  clear hr hb2
  go_wp2_with fail
  refine RT.out.mono ?_
  rintro e w3 ⟨⟨v', x', rfl, hr⟩, hb3⟩
  obtain ⟨rfl, rfl⟩ := ttR_one HR.out.1 hr
  have HZ := Lib.hid (HM.out.2.2.1.trans ((HR.out.2.trans (hb3.mono HR.out.2.size)).mono HM.out.2.2.1.size))
  clear hr hb3
  go_wp2_with fail
  go_ret
  exact ⟨by first | rfl | simp, HZ.out⟩
end Go.Proofs.Ytojgfpnecdngfaa
