/- MatchingChecks: the walk. -/
import Derived.Test.YtojgfpnecdngfaaMtX
namespace Go.Proofs.Ytojgfpnecdngfaa
open Go Go.RowKit Go.Shelf

set_option maxRecDepth 100000 in
set_option maxHeartbeats 4000000 in
theorem checks_walk (B m : Nat) (A : Option Addr) (cm : Nat) (L : Nat → Nat) (f : Nat → Nat → Int) (skip : Int) (w : World) (hm : m ≤ 9223372036854775807) (hL : ∀ i, i < m → L i ≤ 9223372036854775807) (hT : Tb w B A m L f) (hB : B ≤ w.heap.size) :
    Calls Try.prog 3 #[.slice A m cm, .int .i64 skip] w fun e w' => e = .returned (.bool true) ∧ Below w.heap.size w w' := by
  have KN := Lib.hid (fun W => known_c W)
  have ZC := Lib.hid (fun W => zero_c W)
  have HT := Lib.hid hT
  have HL := Lib.hid hL
  clear hL hT
  go_enter Try.func3, Try.ntmps3
  go_wp2_with fail
  refine (KN.out _).mono ?_
  rintro e w1 ⟨rfl, hb1⟩
  have hT1 := HT.out.below hb1 hB
  have SM := Lib.hid (small_c B m A cm L f w1 hm hT1)
  have RC := Lib.hid (refCheck_c true B m A cm L f w1 hm HL.out hT1)
  obtain ⟨E, hE⟩ : ∃ E, chT true m L f = E := ⟨_, rfl⟩
  rw [hE] at RC
  have HE := Lib.hid hE
  have H1 := Lib.hid (And.intro hb1 hT1)
  clear hb1 hT1 hE
  go_wp2_with fail
  refine SM.out.mono ?_
  rintro e w' ⟨⟨b, rfl, hb⟩, rfl⟩
  clear hb
  cases b
  · go_wp2_with fail
    refine (KN.out _).mono ?_
    rintro e w2 ⟨rfl, hb2⟩
    have H2 := Lib.hid (H1.out.1.trans (hb2.mono H1.out.1.size))
    clear hb2
    go_wp2_with fail
    go_ret
    exact ⟨rfl, H2.out⟩
  go_wp2_with fail
  refine RC.out.mono ?_
  rintro e w' ⟨rfl, d, rfl⟩
  obtain ⟨ww, hww⟩ : ∃ ww, w1.drewN d = ww := ⟨_, rfl⟩
  have hz1 := H1.out.1.size
  have hdd : Below w1.heap.size w1 ww := by rw [← hww]; exact below_drewN (Below.refl w1.heap.size w1) d
  have hTL : Tb ww B A m L f := H1.out.2.below hdd (by omega)
  have hbw : Below w.heap.size w ww := H1.out.1.trans (hdd.mono hz1)
  have hzw := hbw.size
  have HM := Lib.hid (And.intro hTL hbw)
  clear hdd hTL hbw SM RC HT H1
  by_cases hE0 : E = 0
  case' pos =>
    subst hE0
    have BE := Lib.hid (best_ok B m A cm L f ww hm HL.out HM.out.1 (by omega) (wid m L) rfl HE.out)
    go_wp2_with fail
    try rw [hww]
    clear hww
    refine BE.out.mono ?_
    rintro e w2 ⟨⟨v, rfl, gX, gR, gC, col, r, c, t1, rfl, _, _, _, _, _⟩, hb2⟩
    obtain ⟨W3, hW3⟩ : ∃ W3, w2.alloc (.cells #[.slice (some ⟨gX, 0, none⟩) m m, .int .i64 t1, .slice (some ⟨gR, 0, none⟩) m m, .slice (some ⟨gC, 0, none⟩) (wid m L) (wid m L)] 29) = W3 := ⟨_, rfl⟩
    have hb3 : Below w2.heap.size w2 W3 := by rw [← hW3]; exact (Below.refl _ _).alloc (Nat.le_refl _) _
    have h3 : W3.heap[w2.heap.size]? = some (.cells #[.slice (some ⟨gX, 0, none⟩) m m, .int .i64 t1, .slice (some ⟨gR, 0, none⟩) m m, .slice (some ⟨gC, 0, none⟩) (wid m L) (wid m L)] 29) := by rw [← hW3]; exact heap_newM _ _
    have z3 : w2.heap.size < W3.heap.size := by rw [← hW3]; simp
    have z2 := hb2.size
    have hbz : Below ww.heap.size ww W3 := hb2.trans (hb3.mono z2)
    have hT3 : Tb W3 B A m L f := HM.out.1.below hbz (by omega)
    have TO := Lib.hid (Total_c B m (wid m L) 0 A none cm 0 L f (fun _ => 0) W3 hm HL.out hT3 (by omega) (by omega) (fun k hk => absurd hk (by omega)) rfl HE.out)
    have H3 := Lib.hid (And.intro hbz hT3)
    clear hb2 hb3 h3 hbz hT3
    go_wp2_with fail
    try rw [hW3]
    clear hW3
    refine TO.out.mono ?_
    rintro e w4 ⟨⟨v4, x4, rfl, _⟩, hb4⟩
    have z4 := hb4.size
    have hT4 : Tb w4 B A m L f := H3.out.2.below hb4 (by omega)
    have BO := Lib.hid (boundE_c B m (wid m L) 0 0 A none none cm 0 0 L f (fun _ => 0) (fun _ => 0) w4 hm HL.out rfl (by omega) (by omega) hT4 (fun k hk => absurd hk (by omega)) (fun k hk => absurd hk (by omega)))
    have H4 := Lib.hid (And.intro hb4 hT4)
    clear hb4 hT4
    go_wp2_with fail
    refine BO.out.mono ?_
    rintro e w5 hpost
    obtain ⟨v5, x5, d5, rfl, rfl⟩ : ∃ (v5 x5 : Int) (d5 : Nat), e = .returned (.tuple #[.int .i64 v5, .int .i64 x5]) ∧ w5 = w4.drewN d5 := by
      rcases hpost with ⟨h, _⟩ | ⟨_, ⟨v5, x5, rfl, _⟩, d5, rfl⟩
      · exact absurd HE.out h
      · exact ⟨_, _, _, rfl, rfl⟩
    clear hpost
    obtain ⟨w6, hw6⟩ : ∃ w6, w4.drewN d5 = w6 := ⟨_, rfl⟩
    have hb6 : Below w4.heap.size w4 w6 := by rw [← hw6]; exact below_drewN (Below.refl w4.heap.size w4) d5
    have hT6 : Tb w6 B A m L f := H4.out.2.below hb6 (by omega)
    have TI := Lib.hid (tight_nil B m A cm L f w6 hm HL.out hT6)
    have H6 := Lib.hid (And.intro hb6 hT6)
    clear hb6 hT6
    go_wp2_with fail
    try rw [hw6]
    clear hw6
    refine TI.out.mono ?_
    rintro e w7 ⟨⟨x7, rfl, _⟩, d7, rfl⟩
    obtain ⟨wz, hwz⟩ : ∃ wz, w6.drewN d7 = wz := ⟨_, rfl⟩
    have hb7 : Below w6.heap.size w6 wz := by rw [← hwz]; exact below_drewN (Below.refl w6.heap.size w6) d7
    have hTz : Tb wz B A m L f := H6.out.2.below hb7 (by have := H6.out.1.size; omega)
    have CK := Lib.hid (check_c B m A cm L f wz hm HL.out hTz)
    rw [HE.out] at CK
    have hbz : Below w.heap.size w wz := (HM.out.2.trans (H3.out.1.mono hzw)).trans (((H4.out.1.trans (H6.out.1.mono z4)).trans (hb7.mono (by have := H6.out.1.size; omega))).mono (by omega))
    have HZ := Lib.hid (And.intro hbz hTz)
    have hzz := hbz.size
    clear hb7 hTz hbz
    go_wp2_with fail
    try rw [hwz]
    clear hwz
    refine CK.out.mono ?_
    rintro e w' ⟨rfl, rfl⟩
    go_wp2_with fail
  case' neg =>
    have hEi : (E != 0) = true := by simp; exact hE0
    have hEE : (E != E) = false := by simp
    have BE := Lib.hid (best_err B m A cm L f ww hm HL.out HM.out.1 (by omega) E HE.out hE0)
    go_wp2_with fail
    try rw [hww]
    clear hww
    refine BE.out.mono ?_
    rintro e w2 ⟨rfl, hb2⟩
    obtain ⟨W3, hW3⟩ : ∃ W3, w2.alloc (.cells #[.slice none 0 0, .int .i64 0, .slice none 0 0, .slice none 0 0] 29) = W3 := ⟨_, rfl⟩
    have hb3 : Below w2.heap.size w2 W3 := by rw [← hW3]; exact (Below.refl _ _).alloc (Nat.le_refl _) _
    have h3 : W3.heap[w2.heap.size]? = some (.cells #[.slice none 0 0, .int .i64 0, .slice none 0 0, .slice none 0 0] 29) := by rw [← hW3]; exact heap_newM _ _
    have z3 : w2.heap.size < W3.heap.size := by rw [← hW3]; simp
    have z2 := hb2.size
    have hbz : Below ww.heap.size ww W3 := hb2.trans (hb3.mono z2)
    have hT3 : Tb W3 B A m L f := HM.out.1.below hbz (by omega)
    have TE := Lib.hid (Total_err B m A cm L f W3 hm HL.out hT3 none 0 0 E HE.out hE0)
    have BO := Lib.hid (boundE_c B m (wid m L) 0 0 A none none cm 0 0 L f (fun _ => 0) (fun _ => 0) W3 hm HL.out rfl (by omega) (by omega) hT3 (fun k hk => absurd hk (by omega)) (fun k hk => absurd hk (by omega)))
    have TI := Lib.hid (tight_nil B m A cm L f W3 hm HL.out hT3)
    have r0 : W3.cell? ⟨w2.heap.size, 0, none⟩ = some (.slice none 0 0) := by simp [World.cell?, h3]
    have r1 : W3.cell? ⟨w2.heap.size, 1, none⟩ = some (.int .i64 0) := by simp [World.cell?, h3]
    have r2 : W3.cell? ⟨w2.heap.size, 2, none⟩ = some (.slice none 0 0) := by simp [World.cell?, h3]
    have r3 : W3.cell? ⟨w2.heap.size, 3, none⟩ = some (.slice none 0 0) := by simp [World.cell?, h3]
    have H3 := Lib.hid (And.intro hbz hT3)
    have TE' := Lib.hid (show Calls Try.prog 16 #[.slice A m cm, .slice none 0 0] (w2.alloc (.cells #[.slice none 0 0, .int .i64 0, .slice none 0 0, .slice none 0 0] 29)) (fun e w' => e = .returned (.tuple #[.int .i64 0, .int .i64 E]) ∧ W3 = w') by rw [hW3]; exact TE.out)
    clear hb2 hb3 h3 hbz hT3 hW3
    go_wp2_with fail
    refine TE'.out.mono ?_
    rintro e w' ⟨rfl, rfl⟩
    go_wp2_with fail
    refine BO.out.mono ?_
    rintro e w5 hpost
    obtain ⟨rfl, rfl⟩ : e = .returned (.tuple #[.int .i64 0, .int .i64 E]) ∧ W3 = w5 := by
      rcases hpost with ⟨_, h, h'⟩ | ⟨h, _⟩
      · rw [HE.out] at h; exact ⟨h, h'⟩
      · exact absurd (HE.out.symm.trans h) hE0
    clear hpost
    go_wp2_with fail
    refine TI.out.mono ?_
    rintro e w7 ⟨⟨x7, rfl, hx7⟩, d7, rfl⟩
    obtain rfl : x7 = E := (hx7 (fun h => hE0 (HE.out.symm.trans h))).trans HE.out
    clear hx7
    obtain ⟨w8, hw8⟩ : ∃ w8, W3.drewN d7 = w8 := ⟨_, rfl⟩
    have hb8 : Below W3.heap.size W3 w8 := by rw [← hw8]; exact below_drewN (Below.refl W3.heap.size W3) d7
    have hT8 : Tb w8 B A m L f := H3.out.2.below hb8 (by omega)
    have CK := Lib.hid (check_c B m A cm L f w8 hm HL.out hT8)
    rw [HE.out] at CK
    have s0 := (hb8.cell (p := ⟨w2.heap.size, 0, none⟩) z3).trans r0
    have s1 := (hb8.cell (p := ⟨w2.heap.size, 1, none⟩) z3).trans r1
    have s2 := (hb8.cell (p := ⟨w2.heap.size, 2, none⟩) z3).trans r2
    have s3 := (hb8.cell (p := ⟨w2.heap.size, 3, none⟩) z3).trans r3
    have z8 := hb8.size
    have H8 := Lib.hid (And.intro hb8 hT8)
    clear hb8 hT8 r0 r1 r2 r3
    go_wp2_with fail
    try rw [hw8]
    clear hw8
    refine CK.out.mono ?_
    rintro e w' ⟨rfl, rfl⟩
    go_wp2_with fail
    refine (ZC.out _).mono ?_
    rintro e w9 ⟨rfl, hb9⟩
    have z9 := hb9.size
    have hT9 : Tb w9 B A m L f := H8.out.2.below hb9 (by omega)
    have VE := Lib.hid (verify_err B m A cm L f w9 hm HL.out hT9 (by omega) x7 HE.out hE0)
    have H9 := Lib.hid (And.intro hb9 hT9)
    clear hb9 hT9 s0 s1 s2 s3
    go_wp2_with fail
    refine VE.out.mono ?_
    rintro e wz ⟨rfl, hb10⟩
    have hTz : Tb wz B A m L f := H9.out.2.below hb10 (by omega)
    have hbz : Below w.heap.size w wz := (HM.out.2.trans (H3.out.1.mono hzw)).trans (((H8.out.1.trans (H9.out.1.mono z8)).trans (hb10.mono (by omega))).mono (by omega))
    have HZ := Lib.hid (And.intro hbz hTz)
    have hzz := hbz.size
    clear hb10 hTz hbz
    go_wp2_with fail
  all_goals
    obtain ⟨F, hF⟩ : ∃ F, chT false m L f = F := ⟨_, rfl⟩
    have RC2 := Lib.hid (refCheck_c false B m A cm L f wz hm HL.out HZ.out.2)
    rw [hF] at RC2
    refine RC2.out.mono ?_
    rintro e w' ⟨rfl, dz, rfl⟩
    obtain ⟨wy, hwy⟩ : ∃ wy, wz.drewN dz = wy := ⟨_, rfl⟩
    have hdy : Below wz.heap.size wz wy := by rw [← hwy]; exact below_drewN (Below.refl wz.heap.size wz) dz
    have hTy : Tb wy B A m L f := HZ.out.2.below hdy (by omega)
    have hzy := hdy.size
    have HY := Lib.hid (And.intro hdy hTy)
    clear hdy hTy RC2
    have hcase : (F ≠ 0 ∧ chP m L f skip = F) ∨ (F = 0 ∧ skip < -1000000000 ∧ chP m L f skip = 3) ∨ (F = 0 ∧ ¬ skip < -1000000000 ∧ 1000000000 < skip ∧ chP m L f skip = 3) ∨ (F = 0 ∧ ¬ skip < -1000000000 ∧ ¬ 1000000000 < skip ∧ chP m L f skip = 0) := by
      unfold chP
      rw [hF]
      by_cases h0 : F = 0
      · right
        rw [if_neg (fun h => h h0)]
        by_cases h1 : skip < -1000000000
        · left
          exact ⟨h0, h1, if_neg (fun h => by have := of_decide_eq_true h; omega)⟩
        · right
          by_cases h2 : 1000000000 < skip
          · left
            exact ⟨h0, h1, h2, if_neg (fun h => by have := of_decide_eq_true h; omega)⟩
          · right
            exact ⟨h0, h1, h2, if_pos (decide_eq_true (by omega))⟩
      · left
        exact ⟨h0, if_pos h0⟩
    clear hF
    rcases hcase with ⟨hF0, hP⟩ | ⟨rfl, s1, hP⟩ | ⟨rfl, s1, s2, hP⟩ | ⟨rfl, s1, s2, hP⟩
    · have hF1 : (F == 0) = false := by simp [hF0]
      have hPP : ((F : Int) == (F : Int)) = true := by simp
      have PE := Lib.hid (partial_err B m A cm L f wy hm HL.out HY.out.2 (by omega) skip F hP hF0)
      have VP := Lib.hid (fun (W : World) (hB' : Below wy.heap.size wy W) => verifyP_err B m A cm L f W hm HL.out (HY.out.2.below hB' (by omega)) (by have := hB'.size; omega) skip F hP hF0)
      clear hP
      go_wp2_with fail
      try rw [hwy]
      clear hwy
      refine PE.out.mono ?_
      rintro e w11 ⟨rfl, hb11⟩
      have hb12 : Below wy.heap.size wy (w11.alloc (.cells #[.slice none 0 0, .int .i64 0, .slice none 0 0, .slice none 0 0] 29)) := hb11.trans (((Below.refl w11.heap.size w11).alloc (Nat.le_refl _) _).mono hb11.size)
      have H12 := Lib.hid hb12
      clear hb11 hb12
      go_wp2_with fail
      refine (ZC.out _).mono ?_
      rintro e w13 ⟨rfl, hb13⟩
      have hb14 : Below wy.heap.size wy w13 := H12.out.trans (hb13.mono H12.out.size)
      have VP' := Lib.hid (VP.out w13 hb14)
      have H14 := Lib.hid hb14
      clear hb13 hb14
      go_wp2_with fail
      refine VP'.out.mono ?_
      rintro e w15 ⟨rfl, hb15⟩
      have HQ := Lib.hid (show Below w.heap.size w w15 from (HZ.out.1.trans (HY.out.1.mono hzz)).trans ((H14.out.trans (hb15.mono H14.out.size)).mono (by omega)))
      clear hb15
      go_wp2_with fail
      go_ret
      exact ⟨by first | rfl | simp, HQ.out⟩
    · have hPP : ((3 : Int) == (3 : Int)) = true := by simp
      have PE := Lib.hid (partial_err B m A cm L f wy hm HL.out HY.out.2 (by omega) skip 3 hP (by decide))
      have VP := Lib.hid (fun (W : World) (hB' : Below wy.heap.size wy W) => verifyP_err B m A cm L f W hm HL.out (HY.out.2.below hB' (by omega)) (by have := hB'.size; omega) skip 3 hP (by decide))
      clear hP
      go_wp2_with fail
      try rw [hwy]
      clear hwy
      refine PE.out.mono ?_
      rintro e w11 ⟨rfl, hb11⟩
      have hb12 : Below wy.heap.size wy (w11.alloc (.cells #[.slice none 0 0, .int .i64 0, .slice none 0 0, .slice none 0 0] 29)) := hb11.trans (((Below.refl w11.heap.size w11).alloc (Nat.le_refl _) _).mono hb11.size)
      have H12 := Lib.hid hb12
      clear hb11 hb12
      go_wp2_with fail
      refine (ZC.out _).mono ?_
      rintro e w13 ⟨rfl, hb13⟩
      have hb14 : Below wy.heap.size wy w13 := H12.out.trans (hb13.mono H12.out.size)
      have VP' := Lib.hid (VP.out w13 hb14)
      have H14 := Lib.hid hb14
      clear hb13 hb14
      go_wp2_with fail
      refine VP'.out.mono ?_
      rintro e w15 ⟨rfl, hb15⟩
      have HQ := Lib.hid (show Below w.heap.size w w15 from (HZ.out.1.trans (HY.out.1.mono hzz)).trans ((H14.out.trans (hb15.mono H14.out.size)).mono (by omega)))
      clear hb15
      go_wp2_with fail
      go_ret
      exact ⟨by first | rfl | simp, HQ.out⟩
    · have hPP : ((3 : Int) == (3 : Int)) = true := by simp
      have PE := Lib.hid (partial_err B m A cm L f wy hm HL.out HY.out.2 (by omega) skip 3 hP (by decide))
      have VP := Lib.hid (fun (W : World) (hB' : Below wy.heap.size wy W) => verifyP_err B m A cm L f W hm HL.out (HY.out.2.below hB' (by omega)) (by have := hB'.size; omega) skip 3 hP (by decide))
      clear hP
      go_wp2_with fail
      try rw [hwy]
      clear hwy
      refine PE.out.mono ?_
      rintro e w11 ⟨rfl, hb11⟩
      have hb12 : Below wy.heap.size wy (w11.alloc (.cells #[.slice none 0 0, .int .i64 0, .slice none 0 0, .slice none 0 0] 29)) := hb11.trans (((Below.refl w11.heap.size w11).alloc (Nat.le_refl _) _).mono hb11.size)
      have H12 := Lib.hid hb12
      clear hb11 hb12
      go_wp2_with fail
      refine (ZC.out _).mono ?_
      rintro e w13 ⟨rfl, hb13⟩
      have hb14 : Below wy.heap.size wy w13 := H12.out.trans (hb13.mono H12.out.size)
      have VP' := Lib.hid (VP.out w13 hb14)
      have H14 := Lib.hid hb14
      clear hb13 hb14
      go_wp2_with fail
      refine VP'.out.mono ?_
      rintro e w15 ⟨rfl, hb15⟩
      have HQ := Lib.hid (show Below w.heap.size w w15 from (HZ.out.1.trans (HY.out.1.mono hzz)).trans ((H14.out.trans (hb15.mono H14.out.size)).mono (by omega)))
      clear hb15
      go_wp2_with fail
      go_ret
      exact ⟨by first | rfl | simp, HQ.out⟩
    · have hmm : ((m : Int) == (m : Int)) = true := by simp
      have PA := Lib.hid (partial_ok B m A cm L f skip wy hm HL.out HY.out.2 (by omega) (wid m L) rfl hP)
      clear hP
      go_wp2_with fail
      try rw [hwy]
      clear hwy
      refine PA.out.mono ?_
      rintro e w11 ⟨⟨v, rfl, gX5, gR5, pa5, pc5, col5, r5, c5, tot5, rfl, _, _, _, _, _⟩, hb11⟩
      have HQ := Lib.hid (show ∀ o, Below w.heap.size w (w11.alloc o) from fun o => (HZ.out.1.trans (HY.out.1.mono hzz)).trans ((hb11.trans (((Below.refl w11.heap.size w11).alloc (Nat.le_refl _) o).mono hb11.size)).mono (by omega)))
      clear hb11
      go_wp2_with fail
      go_ret
      exact ⟨by first | rfl | simp, HQ.out _⟩
end Go.Proofs.Ytojgfpnecdngfaa
