/- Contracts of the law's IsName, winds and check; the errors of Above. -/
import Derived.Test.YtbkbncapgljfaaaGreatDoorRkX
namespace Go.Proofs.YtbkbncapgljfaaaGreatDoor
open Go Go.RowKit Go.Shelf


set_option maxRecDepth 100000 in
set_option maxHeartbeats 4000000 in
theorem lisName_c (s : ByteArray) (hs : s.size ≤ 1099511627776) (w : World) :
    Calls Tryz.prog 16 #[.string s] w fun e w' => e = .returned (.bool (nameB s.data.toList)) ∧ w' = w := by
  have HSL := Lib.hid (size_list s)
  obtain ⟨R, hR⟩ : ∃ R, nameB s.data.toList = R := ⟨_, rfl⟩
  have HR := Lib.hid hR
  rw [hR]
  clear hR
  by_cases h0 : s.size = 0
  · obtain rfl : R = false := by
      rw [← HR.out, show s.data.toList = [] from List.length_eq_zero_iff.1 (by rw [HSL.out]; exact h0)]; rfl
    have g1 : (s.size : Int) = 0 := by omega
    go_enter Tryz.func16, Tryz.ntmps16
    go_wp2
    go_ret
    exact ⟨rfl, rfl⟩
  have g0 : ¬ (s.size : Int) = 0 := by omega
  by_cases h32 : 32 < s.size
  · obtain rfl : R = false := by
      rw [← HR.out, name_eq (by rw [HSL.out]; omega), decide_eq_false (by rw [HSL.out]; omega)]; rfl
    have g1 : (32 : Int) < (s.size : Int) := by omega
    go_enter Tryz.func16, Tryz.ntmps16
    go_wp2
    go_ret
    exact ⟨rfl, rfl⟩
  have g1 : ¬ (32 : Int) < (s.size : Int) := by omega
  have hp : 0 < s.size := by omega
  have HG0 := Lib.hid (getElem_list s 0 hp (by rw [HSL.out]; exact hp))
  have HE := Lib.hid (show R = (letB s[0] && s.data.toList.all nmcB) by
    rw [← HR.out, name_eq (by rw [HSL.out]; exact hp), HG0.out, decide_eq_true (by rw [HSL.out]; omega), Bool.true_and])
  clear g0
  go_enter Tryz.func16, Tryz.ntmps16
  go_wp2_with fail
  go_loop [3] (fun i => ∃ k : Nat, k ≤ s.size ∧ i = .int .i64 (k : Int) ∧ (0 < k → letB s[0] = true) ∧ (s.data.toList.take k).all nmcB = true) (fun i => s.size - (intOf i).toNat)
  case atStart => exact ⟨0, Nat.zero_le _, rfl, fun h => absurd h (Nat.lt_irrefl _), rfl⟩
  case round =>
    obtain ⟨k, hk, rfl, hl, ha⟩ := hrel
    have HL := Lib.hid hl
    have HA := Lib.hid ha
    clear hl ha
    by_cases h1 : k < s.size
    · have hkl : k < s.data.toList.length := by rw [HSL.out]; exact h1
      have HG := Lib.hid (getElem_list s k h1 hkl)
      have hki : (k : Int) < (s.size : Int) := by omega
      have wk := wrap_in (q := (k : Int) + 1) (by omega) (by omega)
      have HF := Lib.hid (fun (h : nmcB s[k] = false) => show R = false by rw [HE.out, all_falseN hkl (by rw [HG.out]; exact h), Bool.and_false])
      have HF0 := Lib.hid (fun (h : letB s[k] = false) (h0 : k = 0) => show R = false by subst h0; rw [HE.out, h, Bool.false_and])
      have HT := Lib.hid (fun (h : nmcB s[k] = true) => take_allN hkl HA.out (by rw [HG.out]; exact h))
      have HLl := Lib.hid (fun (h : letB s[k] = true) (_ : 0 < k + 1) => show letB s[0] = true by
        by_cases h0 : k = 0
        · subst h0; exact h
        · exact HL.out (by omega))
      have HLn := Lib.hid (fun (h0 : ¬ k = 0) (_ : 0 < k + 1) => HL.out (by omega))
      by_cases x1 : 97 ≤ s[k].toNat ∧ s[k].toNat ≤ 122
      · have hlt : letB s[k] = true := by unfold letB; exact decide_eq_true (.inr x1)
        have HLT := Lib.hid hlt
        have b0 : (97 : Int) ≤ ((s[k].toNat : Nat) : Int) := by omega
        have b1 : ((s[k].toNat : Nat) : Int) ≤ (122 : Int) := by omega
        clear x1 hlt
        have HN := Lib.hid (HT.out (nmc_let HLT.out))
        have HM := Lib.hid (HLl.out HLT.out)
        go_wp2_with fail
        go_round
        case rel => exact ⟨k + 1, by omega, by go_num, HM.out, HN.out⟩
        case measure => simp [intOf]; omega
      by_cases x2 : 65 ≤ s[k].toNat ∧ s[k].toNat ≤ 90
      · have hlt : letB s[k] = true := by unfold letB; exact decide_eq_true (.inl x2)
        have HLT := Lib.hid hlt
        have b0 : ¬ (97 : Int) ≤ ((s[k].toNat : Nat) : Int) := by omega
        have b1 : (65 : Int) ≤ ((s[k].toNat : Nat) : Int) := by omega
        have b2 : ((s[k].toNat : Nat) : Int) ≤ (90 : Int) := by omega
        clear x1 x2 hlt
        have HN := Lib.hid (HT.out (nmc_let HLT.out))
        have HM := Lib.hid (HLl.out HLT.out)
        go_wp2_with fail
        go_round
        case rel => exact ⟨k + 1, by omega, by go_num, HM.out, HN.out⟩
        case measure => simp [intOf]; omega
      have hlt : letB s[k] = false := by unfold letB; exact decide_eq_false (by omega)
      have HLT := Lib.hid hlt
      have HNM := Lib.hid (nmc_not hlt)
      clear hlt
      by_cases k0 : k = 0
      · have HF1 := Lib.hid (HF0.out HLT.out k0)
        subst k0
        rcases (show (97 ≤ s[0].toNat ∧ 122 < s[0].toNat) ∨ (s[0].toNat < 97 ∧ 65 ≤ s[0].toNat ∧ 90 < s[0].toNat) ∨ s[0].toNat < 65 by omega) with y1 | y1 | y1
        · skip
          have b0 : (97 : Int) ≤ ((s[0].toNat : Nat) : Int) := by omega
          have b1 : ¬ ((s[0].toNat : Nat) : Int) ≤ (122 : Int) := by omega
          have b2 : (65 : Int) ≤ ((s[0].toNat : Nat) : Int) := by omega
          have b3 : ¬ ((s[0].toNat : Nat) : Int) ≤ (90 : Int) := by omega
          clear x1 x2 y1
          obtain rfl : R = false := HF1.out
          go_wp2
          go_ret
          exact ⟨rfl, rfl⟩
        · skip
          have b0 : ¬ (97 : Int) ≤ ((s[0].toNat : Nat) : Int) := by omega
          have b1 : (65 : Int) ≤ ((s[0].toNat : Nat) : Int) := by omega
          have b2 : ¬ ((s[0].toNat : Nat) : Int) ≤ (90 : Int) := by omega
          clear x1 x2 y1
          obtain rfl : R = false := HF1.out
          go_wp2
          go_ret
          exact ⟨rfl, rfl⟩
        · skip
          have b0 : ¬ (97 : Int) ≤ ((s[0].toNat : Nat) : Int) := by omega
          have b1 : ¬ (65 : Int) ≤ ((s[0].toNat : Nat) : Int) := by omega
          clear x1 x2 y1
          obtain rfl : R = false := HF1.out
          go_wp2
          go_ret
          exact ⟨rfl, rfl⟩
      have HM0 := Lib.hid (HLn.out k0)
      have ki : ¬ (k : Int) = 0 := by omega
      have kb : ((k : Int) == 0) = false := by rw [beq_eq_false_iff_ne]; omega
      rcases (show (97 ≤ s[k].toNat ∧ 122 < s[k].toNat) ∨ (s[k].toNat < 97 ∧ 65 ≤ s[k].toNat ∧ 90 < s[k].toNat) ∨ s[k].toNat < 65 by omega) with y1 | y1 | y1
      · have HD := Lib.hid (show nmcB s[k] = false by rw [HNM.out]; unfold digB; rw [decide_eq_false (by omega), decide_eq_false (by omega)]; rfl)
        have E3 := Lib.hid (show ((((s[k].toNat : Nat) : Int)) != 95) = true by rw [bne_iff_ne]; omega)
        have b0 : (97 : Int) ≤ ((s[k].toNat : Nat) : Int) := by omega
        have b1 : ¬ ((s[k].toNat : Nat) : Int) ≤ (122 : Int) := by omega
        have b2 : (65 : Int) ≤ ((s[k].toNat : Nat) : Int) := by omega
        have b3 : ¬ ((s[k].toNat : Nat) : Int) ≤ (90 : Int) := by omega
        have b8 : ¬ ((s[k].toNat : Nat) : Int) < (48 : Int) := by omega
        have b9 : (57 : Int) < ((s[k].toNat : Nat) : Int) := by omega
        clear x1 x2 y1
        obtain rfl : R = false := HF.out HD.out
        go_upto_region 8 with fail
        have e3 := E3.out
        go_wp2
        go_ret
        exact ⟨rfl, rfl⟩
      · by_cases y2 : s[k].toNat = 95
        · have HD := Lib.hid (show nmcB s[k] = true by rw [HNM.out]; simp [y2])
          have E3 := Lib.hid (show ((s[k].toNat : Nat) : Int) = 95 by omega)
          have b0 : ¬ (97 : Int) ≤ ((s[k].toNat : Nat) : Int) := by omega
          have b1 : (65 : Int) ≤ ((s[k].toNat : Nat) : Int) := by omega
          have b2 : ¬ ((s[k].toNat : Nat) : Int) ≤ (90 : Int) := by omega
          clear x1 x2 y1 y2
          have HN := Lib.hid (HT.out (HD.out))
          have HM := Lib.hid (HM0.out)
          go_upto_region 8 with fail
          have e3 := E3.out
          go_wp2_with fail
          go_round
          case rel => exact ⟨k + 1, by omega, by go_num, HM.out, HN.out⟩
          case measure => simp [intOf]; omega
        · have HD := Lib.hid (show nmcB s[k] = false by rw [HNM.out]; unfold digB; rw [decide_eq_false (by omega), decide_eq_false (by omega)]; rfl)
          have E3 := Lib.hid (show ((((s[k].toNat : Nat) : Int)) != 95) = true by rw [bne_iff_ne]; omega)
          have b0 : ¬ (97 : Int) ≤ ((s[k].toNat : Nat) : Int) := by omega
          have b1 : (65 : Int) ≤ ((s[k].toNat : Nat) : Int) := by omega
          have b2 : ¬ ((s[k].toNat : Nat) : Int) ≤ (90 : Int) := by omega
          have b8 : ¬ ((s[k].toNat : Nat) : Int) < (48 : Int) := by omega
          have b9 : (57 : Int) < ((s[k].toNat : Nat) : Int) := by omega
          clear x1 x2 y1 y2
          obtain rfl : R = false := HF.out HD.out
          go_upto_region 8 with fail
          have e3 := E3.out
          go_wp2
          go_ret
          exact ⟨rfl, rfl⟩
      · have E3 := Lib.hid (show ((((s[k].toNat : Nat) : Int)) != 95) = true by rw [bne_iff_ne]; omega)
        by_cases y2 : 48 ≤ s[k].toNat ∧ s[k].toNat ≤ 57
        · have HD := Lib.hid (show nmcB s[k] = true by rw [HNM.out]; unfold digB; rw [decide_eq_true y2]; rfl)
          have b0 : ¬ (97 : Int) ≤ ((s[k].toNat : Nat) : Int) := by omega
          have b1 : ¬ (65 : Int) ≤ ((s[k].toNat : Nat) : Int) := by omega
          have b8 : ¬ ((s[k].toNat : Nat) : Int) < (48 : Int) := by omega
          have b9 : ¬ (57 : Int) < ((s[k].toNat : Nat) : Int) := by omega
          clear x1 x2 y1 y2
          have HN := Lib.hid (HT.out (HD.out))
          have HM := Lib.hid (HM0.out)
          go_upto_region 8 with fail
          have e3 := E3.out
          go_wp2_with fail
          go_round
          case rel => exact ⟨k + 1, by omega, by go_num, HM.out, HN.out⟩
          case measure => simp [intOf]; omega
        · have HD := Lib.hid (show nmcB s[k] = false by rw [HNM.out]; unfold digB; rw [decide_eq_false y2, decide_eq_false (by omega)]; rfl)
          have b0 : ¬ (97 : Int) ≤ ((s[k].toNat : Nat) : Int) := by omega
          have b1 : ¬ (65 : Int) ≤ ((s[k].toNat : Nat) : Int) := by omega
          by_cases y3 : s[k].toNat < 48
          · have b8 : ((s[k].toNat : Nat) : Int) < (48 : Int) := by omega
            clear x1 x2 y1 y2 y3
            obtain rfl : R = false := HF.out HD.out
            go_upto_region 8 with fail
            have e3 := E3.out
            go_wp2
            go_ret
            exact ⟨rfl, rfl⟩
          · have b8 : ¬ ((s[k].toNat : Nat) : Int) < (48 : Int) := by omega
            have b9 : (57 : Int) < ((s[k].toNat : Nat) : Int) := by omega
            clear x1 x2 y1 y2 y3
            obtain rfl : R = false := HF.out HD.out
            go_upto_region 8 with fail
            have e3 := E3.out
            go_wp2
            go_ret
            exact ⟨rfl, rfl⟩
    · obtain rfl : k = s.size := by omega
      have hr : R = true := by
        have ha := HA.out
        rw [List.take_of_length_le (by rw [HSL.out]; exact Nat.le_refl _)] at ha
        rw [HE.out, HL.out hp, ha]; rfl
      subst hr
      have hki : ¬ (s.size : Int) < (s.size : Int) := by omega
      go_wp2
      go_ret
      exact ⟨rfl, rfl⟩

set_option maxRecDepth 100000 in
set_option maxHeartbeats 4000000 in
theorem lwinds_c (v : Value) (n : Nat) (X : Nat → Int) (hn : n ≤ 1099511627776) (w : World) (h : Wd w v n X) :
    Calls Tryz.prog 33 #[v] w fun e w' => e = .returned (.int .i64 (wdE X n)) ∧ w' = w := by
  obtain ⟨R, hR⟩ : ∃ R, wdE X n = R := ⟨_, rfl⟩
  rw [hR]
  have HR := Lib.hid hR
  obtain ⟨sa, cp, rfl⟩ := h.len
  have HW := Lib.hid h
  clear hR h
  go_enter Tryz.func33, Tryz.ntmps33
  go_wp2_with fail
  go_loop [3] (fun i => ∃ k : Nat, k ≤ n ∧ i = .int .i64 (k : Int) ∧ Hid (∀ j, j < k → 0 ≤ X j ∧ X j ≤ 1000000)) (fun i => n - (intOf i).toNat)
  case atStart => exact ⟨0, Nat.zero_le _, rfl, Lib.hid (fun j hj => absurd hj (Nat.not_lt_zero _))⟩
  case round =>
    obtain ⟨k, hk, rfl, hA⟩ := hrel
    by_cases h1 : k < n
    · obtain ⟨g, o, c, e0, hc, hg, c0⟩ := HW.out.at h1
      cases e0
      have hki : (k : Int) < (n : Int) := by omega
      by_cases g1 : X k < 0
      · obtain rfl : R = 3 := by
          rw [← HR.out]; unfold wdE; rw [if_neg (fun h => by have := h k h1; omega)]
        go_wp2
        go_ret
        exact ⟨rfl, rfl⟩
      · by_cases g2 : 1000000 < X k
        · obtain rfl : R = 3 := by
            rw [← HR.out]; unfold wdE; rw [if_neg (fun h => by have := h k h1; omega)]
          go_wp2
          go_ret
          exact ⟨rfl, rfl⟩
        · have HN := Lib.hid (show ∀ j, j < k + 1 → 0 ≤ X j ∧ X j ≤ 1000000 from fun j hj => by
            by_cases e : j = k
            · subst e; omega
            · exact hA.out j (by omega))
          have wk := wrap_in (q := (k : Int) + 1) (by omega) (by omega)
          go_wp2
          go_round
          case rel => exact ⟨k + 1, by omega, by go_num, HN⟩
          case measure => simp [intOf]; omega
    · obtain rfl : k = n := by omega
      obtain rfl : R = 0 := by rw [← HR.out]; unfold wdE; rw [if_pos hA.out]
      go_wp2
      go_ret
      exact ⟨rfl, rfl⟩

set_option maxRecDepth 100000 in
set_option maxHeartbeats 4000000 in
theorem lcheck_c (nm tn : ByteArray) (a b f : Int) (sa : Option Addr) (n cp : Nat) (X : Nat → Int) (h1 : nm.size ≤ 1099511627776) (h2 : tn.size ≤ 1099511627776) (hn : n ≤ 1099511627776) (w : World) (hW1 : Wd w (.slice sa n cp) n X) :
    Calls Tryz.prog 13 #[.agg #[.string nm, .string tn, .int .i64 a, .int .i64 b, .int .i64 f, .slice sa n cp]] w fun e w' => e = .returned (.int .i64 (rkE nm tn a b f n X)) ∧ Below w.heap.size w w' := by
  have N1 := Lib.hid (fun (W : World) => show Calls Tryz.prog 16 #[.string nm] W (fun e w' => e = .returned (.bool (nameB nm.data.toList)) ∧ Below W.heap.size W w') from (lisName_c nm h1 W).mono (by rintro e w' ⟨h1, rfl⟩; exact ⟨h1, Below.refl _ _⟩))
  have N2 := Lib.hid (fun (W : World) => show Calls Tryz.prog 16 #[.string tn] W (fun e w' => e = .returned (.bool (nameB tn.data.toList)) ∧ Below W.heap.size W w') from (lisName_c tn h2 W).mono (by rintro e w' ⟨h1, rfl⟩; exact ⟨h1, Below.refl _ _⟩))
  have PC := Lib.hid (fun W => pcheck_any a b W)
  have CW := Lib.hid (fun (W : World) h => show Calls Tryz.prog 33 #[.slice sa n cp] W (fun e w' => e = .returned (.int .i64 (wdE X n)) ∧ Below W.heap.size W w') from (lwinds_c (.slice sa n cp) n X hn W h).mono (by rintro e w' ⟨h1, rfl⟩; exact ⟨h1, Below.refl _ _⟩))
  have hW := Lib.hid hW1
  obtain ⟨R, hR⟩ : ∃ R, rkE nm tn a b f n X = R := ⟨_, rfl⟩
  rw [hR]
  have HR := Lib.hid hR
  clear hR hW1 h1 h2
  obtain ⟨D, hD⟩ : ∃ D, w.heap.size = D := ⟨_, rfl⟩
  cases n1 : nameB nm.data.toList with
  | false =>
    rw [n1] at N1
    obtain rfl : R = 8 := by rw [← HR.out, rk_name1 n1]
    clear n1
    go_enter Tryz.func13, Tryz.ntmps13
    have ld1 : (w.alloc (.cells #[.string nm, .string tn, .int .i64 a, .int .i64 b, .int .i64 f, .slice sa n cp] 26)).heap[D]? = some (.cells #[.string nm, .string tn, .int .i64 a, .int .i64 b, .int .i64 f, .slice sa n cp] 26) := (heap_new (by first | omega | (simp; omega)))
    have y1_0 := cell6_0 ld1
    have y1_1 := cell6_1 ld1
    have y1_2 := cell6_2 ld1
    have y1_3 := cell6_3 ld1
    have y1_4 := cell6_4 ld1
    have y1_5 := cell6_5 ld1
    clear ld1
    go_wp2_with fail
    refine (N1.out _).mono ?_
    rintro e v2 ⟨rfl, hb_v2⟩
    have cR_v2 : v2.heap[D]? = some (.cells #[.string nm, .string tn, .int .i64 a, .int .i64 b, .int .i64 f, .slice sa n cp] 26) := (hb_v2.block (D) (Array.getElem?_eq_some_iff.1 (show (w.alloc (.cells #[.string nm, .string tn, .int .i64 a, .int .i64 b, .int .i64 f, .slice sa n cp] 26)).heap[D]? = some (.cells #[.string nm, .string tn, .int .i64 a, .int .i64 b, .int .i64 f, .slice sa n cp] 26) from (heap_new (by first | omega | (simp; omega))))).1).trans (heap_new (by first | omega | (simp; omega)))
    have hw_v2 : Below D w v2 := (((Below.refl _ w).alloc (by first | omega | (simp; omega)) (.cells #[.string nm, .string tn, .int .i64 a, .int .i64 b, .int .i64 f, .slice sa n cp] 26))).trans (hb_v2.mono (by first | omega | (simp; omega)))
    clear hb_v2 y1_0 y1_1 y1_2 y1_3 y1_4 y1_5
    have HW := Lib.hid (hw_v2)
    go_wp2
    go_ret
    exact ⟨rfl, by first | exact HW.out | (rw [hD]; exact HW.out)⟩
  | true =>
    rw [n1] at N1
    cases n2 : nameB tn.data.toList with
    | false =>
      rw [n2] at N2
      obtain rfl : R = 8 := by rw [← HR.out, rk_name2 n2]
      clear n1 n2
      go_enter Tryz.func13, Tryz.ntmps13
      have ld1 : (w.alloc (.cells #[.string nm, .string tn, .int .i64 a, .int .i64 b, .int .i64 f, .slice sa n cp] 26)).heap[D]? = some (.cells #[.string nm, .string tn, .int .i64 a, .int .i64 b, .int .i64 f, .slice sa n cp] 26) := (heap_new (by first | omega | (simp; omega)))
      have y1_0 := cell6_0 ld1
      have y1_1 := cell6_1 ld1
      have y1_2 := cell6_2 ld1
      have y1_3 := cell6_3 ld1
      have y1_4 := cell6_4 ld1
      have y1_5 := cell6_5 ld1
      clear ld1
      go_wp2_with fail
      refine (N1.out _).mono ?_
      rintro e v2 ⟨rfl, hb_v2⟩
      have cR_v2 : v2.heap[D]? = some (.cells #[.string nm, .string tn, .int .i64 a, .int .i64 b, .int .i64 f, .slice sa n cp] 26) := (hb_v2.block (D) (Array.getElem?_eq_some_iff.1 (show (w.alloc (.cells #[.string nm, .string tn, .int .i64 a, .int .i64 b, .int .i64 f, .slice sa n cp] 26)).heap[D]? = some (.cells #[.string nm, .string tn, .int .i64 a, .int .i64 b, .int .i64 f, .slice sa n cp] 26) from (heap_new (by first | omega | (simp; omega))))).1).trans (heap_new (by first | omega | (simp; omega)))
      have hw_v2 : Below D w v2 := (((Below.refl _ w).alloc (by first | omega | (simp; omega)) (.cells #[.string nm, .string tn, .int .i64 a, .int .i64 b, .int .i64 f, .slice sa n cp] 26))).trans (hb_v2.mono (by first | omega | (simp; omega)))
      clear hb_v2 y1_0 y1_1 y1_2 y1_3 y1_4 y1_5
      have ld3 : v2.heap[D]? = some (.cells #[.string nm, .string tn, .int .i64 a, .int .i64 b, .int .i64 f, .slice sa n cp] 26) := cR_v2
      have y3_0 := cell6_0 ld3
      have y3_1 := cell6_1 ld3
      have y3_2 := cell6_2 ld3
      have y3_3 := cell6_3 ld3
      have y3_4 := cell6_4 ld3
      have y3_5 := cell6_5 ld3
      clear ld3
      go_wp2_with fail
      refine (N2.out _).mono ?_
      rintro e v4 ⟨rfl, hb_v4⟩
      have hs_v4 := hw_v2.size
      have cR_v4 : v4.heap[D]? = some (.cells #[.string nm, .string tn, .int .i64 a, .int .i64 b, .int .i64 f, .slice sa n cp] 26) := (hb_v4.block (D) (Array.getElem?_eq_some_iff.1 (show v2.heap[D]? = some (.cells #[.string nm, .string tn, .int .i64 a, .int .i64 b, .int .i64 f, .slice sa n cp] 26) from cR_v2)).1).trans cR_v2
      have hw_v4 : Below D w v4 := (hw_v2).trans (hb_v4.mono (by first | omega | (simp; omega)))
      clear cR_v2 hb_v4 y3_0 y3_1 y3_2 y3_3 y3_4 y3_5 hw_v2 hs_v4
      have HW := Lib.hid (hw_v4)
      go_wp2
      go_ret
      exact ⟨rfl, by first | exact HW.out | (rw [hD]; exact HW.out)⟩
    | true =>
      rw [n2] at N2
      by_cases p0 : pk a b = 0
      · rw [p0] at PC
        by_cases f0 : -256 ≤ f ∧ f ≤ 256
        · have g1 : ¬ f < -256 := by omega
          have g2 : ¬ 256 < f := by omega
          by_cases e0 : n = 0
          · subst e0
            obtain rfl : R = 13 := by rw [← HR.out, rk_empty n1 n2 p0 f0 rfl]
            clear n1 n2 p0 f0
            go_enter Tryz.func13, Tryz.ntmps13
            have ld1 : (w.alloc (.cells #[.string nm, .string tn, .int .i64 a, .int .i64 b, .int .i64 f, .slice sa 0 cp] 26)).heap[D]? = some (.cells #[.string nm, .string tn, .int .i64 a, .int .i64 b, .int .i64 f, .slice sa 0 cp] 26) := (heap_new (by first | omega | (simp; omega)))
            have y1_0 := cell6_0 ld1
            have y1_1 := cell6_1 ld1
            have y1_2 := cell6_2 ld1
            have y1_3 := cell6_3 ld1
            have y1_4 := cell6_4 ld1
            have y1_5 := cell6_5 ld1
            clear ld1
            go_wp2_with fail
            refine (N1.out _).mono ?_
            rintro e v2 ⟨rfl, hb_v2⟩
            have cR_v2 : v2.heap[D]? = some (.cells #[.string nm, .string tn, .int .i64 a, .int .i64 b, .int .i64 f, .slice sa 0 cp] 26) := (hb_v2.block (D) (Array.getElem?_eq_some_iff.1 (show (w.alloc (.cells #[.string nm, .string tn, .int .i64 a, .int .i64 b, .int .i64 f, .slice sa 0 cp] 26)).heap[D]? = some (.cells #[.string nm, .string tn, .int .i64 a, .int .i64 b, .int .i64 f, .slice sa 0 cp] 26) from (heap_new (by first | omega | (simp; omega))))).1).trans (heap_new (by first | omega | (simp; omega)))
            have hw_v2 : Below D w v2 := (((Below.refl _ w).alloc (by first | omega | (simp; omega)) (.cells #[.string nm, .string tn, .int .i64 a, .int .i64 b, .int .i64 f, .slice sa 0 cp] 26))).trans (hb_v2.mono (by first | omega | (simp; omega)))
            clear hb_v2 y1_0 y1_1 y1_2 y1_3 y1_4 y1_5
            have ld3 : v2.heap[D]? = some (.cells #[.string nm, .string tn, .int .i64 a, .int .i64 b, .int .i64 f, .slice sa 0 cp] 26) := cR_v2
            have y3_0 := cell6_0 ld3
            have y3_1 := cell6_1 ld3
            have y3_2 := cell6_2 ld3
            have y3_3 := cell6_3 ld3
            have y3_4 := cell6_4 ld3
            have y3_5 := cell6_5 ld3
            clear ld3
            go_wp2_with fail
            refine (N2.out _).mono ?_
            rintro e v4 ⟨rfl, hb_v4⟩
            have hs_v4 := hw_v2.size
            have cR_v4 : v4.heap[D]? = some (.cells #[.string nm, .string tn, .int .i64 a, .int .i64 b, .int .i64 f, .slice sa 0 cp] 26) := (hb_v4.block (D) (Array.getElem?_eq_some_iff.1 (show v2.heap[D]? = some (.cells #[.string nm, .string tn, .int .i64 a, .int .i64 b, .int .i64 f, .slice sa 0 cp] 26) from cR_v2)).1).trans cR_v2
            have hw_v4 : Below D w v4 := (hw_v2).trans (hb_v4.mono (by first | omega | (simp; omega)))
            clear cR_v2 hb_v4 y3_0 y3_1 y3_2 y3_3 y3_4 y3_5 hw_v2 hs_v4
            have ld5 : v4.heap[D]? = some (.cells #[.string nm, .string tn, .int .i64 a, .int .i64 b, .int .i64 f, .slice sa 0 cp] 26) := cR_v4
            have y5_0 := cell6_0 ld5
            have y5_1 := cell6_1 ld5
            have y5_2 := cell6_2 ld5
            have y5_3 := cell6_3 ld5
            have y5_4 := cell6_4 ld5
            have y5_5 := cell6_5 ld5
            clear ld5
            go_wp2_with fail
            refine (PC.out _).mono ?_
            rintro e v6 ⟨rfl, hb_v6⟩
            have hs_v6 := hw_v4.size
            have cR_v6 : v6.heap[D]? = some (.cells #[.string nm, .string tn, .int .i64 a, .int .i64 b, .int .i64 f, .slice sa 0 cp] 26) := (hb_v6.block (D) (Array.getElem?_eq_some_iff.1 (show v4.heap[D]? = some (.cells #[.string nm, .string tn, .int .i64 a, .int .i64 b, .int .i64 f, .slice sa 0 cp] 26) from cR_v4)).1).trans cR_v4
            have hw_v6 : Below D w v6 := (hw_v4).trans (hb_v6.mono (by first | omega | (simp; omega)))
            clear cR_v4 hb_v6 y5_0 y5_1 y5_2 y5_3 y5_4 y5_5 hw_v4 hs_v6
            have ld7 : v6.heap[D]? = some (.cells #[.string nm, .string tn, .int .i64 a, .int .i64 b, .int .i64 f, .slice sa 0 cp] 26) := cR_v6
            have y7_0 := cell6_0 ld7
            have y7_1 := cell6_1 ld7
            have y7_2 := cell6_2 ld7
            have y7_3 := cell6_3 ld7
            have y7_4 := cell6_4 ld7
            have y7_5 := cell6_5 ld7
            clear ld7
            have HW := Lib.hid (hw_v6)
            go_wp2
            go_ret
            exact ⟨rfl, by first | exact HW.out | (rw [hD]; exact HW.out)⟩
          have e1 : ¬ (n : Int) = 0 := by omega
          by_cases l0 : 128 < n
          · obtain rfl : R = 4 := by rw [← HR.out, rk_limit n1 n2 p0 f0 e0 l0]
            have l1 : (128 : Int) < (n : Int) := by omega
            clear n1 n2 p0 f0 e0 l0
            go_enter Tryz.func13, Tryz.ntmps13
            have ld1 : (w.alloc (.cells #[.string nm, .string tn, .int .i64 a, .int .i64 b, .int .i64 f, .slice sa n cp] 26)).heap[D]? = some (.cells #[.string nm, .string tn, .int .i64 a, .int .i64 b, .int .i64 f, .slice sa n cp] 26) := (heap_new (by first | omega | (simp; omega)))
            have y1_0 := cell6_0 ld1
            have y1_1 := cell6_1 ld1
            have y1_2 := cell6_2 ld1
            have y1_3 := cell6_3 ld1
            have y1_4 := cell6_4 ld1
            have y1_5 := cell6_5 ld1
            clear ld1
            go_wp2_with fail
            refine (N1.out _).mono ?_
            rintro e v2 ⟨rfl, hb_v2⟩
            have cR_v2 : v2.heap[D]? = some (.cells #[.string nm, .string tn, .int .i64 a, .int .i64 b, .int .i64 f, .slice sa n cp] 26) := (hb_v2.block (D) (Array.getElem?_eq_some_iff.1 (show (w.alloc (.cells #[.string nm, .string tn, .int .i64 a, .int .i64 b, .int .i64 f, .slice sa n cp] 26)).heap[D]? = some (.cells #[.string nm, .string tn, .int .i64 a, .int .i64 b, .int .i64 f, .slice sa n cp] 26) from (heap_new (by first | omega | (simp; omega))))).1).trans (heap_new (by first | omega | (simp; omega)))
            have hw_v2 : Below D w v2 := (((Below.refl _ w).alloc (by first | omega | (simp; omega)) (.cells #[.string nm, .string tn, .int .i64 a, .int .i64 b, .int .i64 f, .slice sa n cp] 26))).trans (hb_v2.mono (by first | omega | (simp; omega)))
            clear hb_v2 y1_0 y1_1 y1_2 y1_3 y1_4 y1_5
            have ld3 : v2.heap[D]? = some (.cells #[.string nm, .string tn, .int .i64 a, .int .i64 b, .int .i64 f, .slice sa n cp] 26) := cR_v2
            have y3_0 := cell6_0 ld3
            have y3_1 := cell6_1 ld3
            have y3_2 := cell6_2 ld3
            have y3_3 := cell6_3 ld3
            have y3_4 := cell6_4 ld3
            have y3_5 := cell6_5 ld3
            clear ld3
            go_wp2_with fail
            refine (N2.out _).mono ?_
            rintro e v4 ⟨rfl, hb_v4⟩
            have hs_v4 := hw_v2.size
            have cR_v4 : v4.heap[D]? = some (.cells #[.string nm, .string tn, .int .i64 a, .int .i64 b, .int .i64 f, .slice sa n cp] 26) := (hb_v4.block (D) (Array.getElem?_eq_some_iff.1 (show v2.heap[D]? = some (.cells #[.string nm, .string tn, .int .i64 a, .int .i64 b, .int .i64 f, .slice sa n cp] 26) from cR_v2)).1).trans cR_v2
            have hw_v4 : Below D w v4 := (hw_v2).trans (hb_v4.mono (by first | omega | (simp; omega)))
            clear cR_v2 hb_v4 y3_0 y3_1 y3_2 y3_3 y3_4 y3_5 hw_v2 hs_v4
            have ld5 : v4.heap[D]? = some (.cells #[.string nm, .string tn, .int .i64 a, .int .i64 b, .int .i64 f, .slice sa n cp] 26) := cR_v4
            have y5_0 := cell6_0 ld5
            have y5_1 := cell6_1 ld5
            have y5_2 := cell6_2 ld5
            have y5_3 := cell6_3 ld5
            have y5_4 := cell6_4 ld5
            have y5_5 := cell6_5 ld5
            clear ld5
            go_wp2_with fail
            refine (PC.out _).mono ?_
            rintro e v6 ⟨rfl, hb_v6⟩
            have hs_v6 := hw_v4.size
            have cR_v6 : v6.heap[D]? = some (.cells #[.string nm, .string tn, .int .i64 a, .int .i64 b, .int .i64 f, .slice sa n cp] 26) := (hb_v6.block (D) (Array.getElem?_eq_some_iff.1 (show v4.heap[D]? = some (.cells #[.string nm, .string tn, .int .i64 a, .int .i64 b, .int .i64 f, .slice sa n cp] 26) from cR_v4)).1).trans cR_v4
            have hw_v6 : Below D w v6 := (hw_v4).trans (hb_v6.mono (by first | omega | (simp; omega)))
            clear cR_v4 hb_v6 y5_0 y5_1 y5_2 y5_3 y5_4 y5_5 hw_v4 hs_v6
            have ld7 : v6.heap[D]? = some (.cells #[.string nm, .string tn, .int .i64 a, .int .i64 b, .int .i64 f, .slice sa n cp] 26) := cR_v6
            have y7_0 := cell6_0 ld7
            have y7_1 := cell6_1 ld7
            have y7_2 := cell6_2 ld7
            have y7_3 := cell6_3 ld7
            have y7_4 := cell6_4 ld7
            have y7_5 := cell6_5 ld7
            clear ld7
            have HW := Lib.hid (hw_v6)
            go_wp2
            go_ret
            exact ⟨rfl, by first | exact HW.out | (rw [hD]; exact HW.out)⟩
          · obtain rfl : R = wdE X n := by rw [← HR.out, rk_wind n1 n2 p0 f0 e0 l0]
            have l1 : ¬ (128 : Int) < (n : Int) := by omega
            clear n1 n2 p0 f0 e0 l0
            go_enter Tryz.func13, Tryz.ntmps13
            have ld1 : (w.alloc (.cells #[.string nm, .string tn, .int .i64 a, .int .i64 b, .int .i64 f, .slice sa n cp] 26)).heap[D]? = some (.cells #[.string nm, .string tn, .int .i64 a, .int .i64 b, .int .i64 f, .slice sa n cp] 26) := (heap_new (by first | omega | (simp; omega)))
            have y1_0 := cell6_0 ld1
            have y1_1 := cell6_1 ld1
            have y1_2 := cell6_2 ld1
            have y1_3 := cell6_3 ld1
            have y1_4 := cell6_4 ld1
            have y1_5 := cell6_5 ld1
            clear ld1
            go_wp2_with fail
            refine (N1.out _).mono ?_
            rintro e v2 ⟨rfl, hb_v2⟩
            have cR_v2 : v2.heap[D]? = some (.cells #[.string nm, .string tn, .int .i64 a, .int .i64 b, .int .i64 f, .slice sa n cp] 26) := (hb_v2.block (D) (Array.getElem?_eq_some_iff.1 (show (w.alloc (.cells #[.string nm, .string tn, .int .i64 a, .int .i64 b, .int .i64 f, .slice sa n cp] 26)).heap[D]? = some (.cells #[.string nm, .string tn, .int .i64 a, .int .i64 b, .int .i64 f, .slice sa n cp] 26) from (heap_new (by first | omega | (simp; omega))))).1).trans (heap_new (by first | omega | (simp; omega)))
            have hw_v2 : Below D w v2 := (((Below.refl _ w).alloc (by first | omega | (simp; omega)) (.cells #[.string nm, .string tn, .int .i64 a, .int .i64 b, .int .i64 f, .slice sa n cp] 26))).trans (hb_v2.mono (by first | omega | (simp; omega)))
            clear hb_v2 y1_0 y1_1 y1_2 y1_3 y1_4 y1_5
            have ld3 : v2.heap[D]? = some (.cells #[.string nm, .string tn, .int .i64 a, .int .i64 b, .int .i64 f, .slice sa n cp] 26) := cR_v2
            have y3_0 := cell6_0 ld3
            have y3_1 := cell6_1 ld3
            have y3_2 := cell6_2 ld3
            have y3_3 := cell6_3 ld3
            have y3_4 := cell6_4 ld3
            have y3_5 := cell6_5 ld3
            clear ld3
            go_wp2_with fail
            refine (N2.out _).mono ?_
            rintro e v4 ⟨rfl, hb_v4⟩
            have hs_v4 := hw_v2.size
            have cR_v4 : v4.heap[D]? = some (.cells #[.string nm, .string tn, .int .i64 a, .int .i64 b, .int .i64 f, .slice sa n cp] 26) := (hb_v4.block (D) (Array.getElem?_eq_some_iff.1 (show v2.heap[D]? = some (.cells #[.string nm, .string tn, .int .i64 a, .int .i64 b, .int .i64 f, .slice sa n cp] 26) from cR_v2)).1).trans cR_v2
            have hw_v4 : Below D w v4 := (hw_v2).trans (hb_v4.mono (by first | omega | (simp; omega)))
            clear cR_v2 hb_v4 y3_0 y3_1 y3_2 y3_3 y3_4 y3_5 hw_v2 hs_v4
            have ld5 : v4.heap[D]? = some (.cells #[.string nm, .string tn, .int .i64 a, .int .i64 b, .int .i64 f, .slice sa n cp] 26) := cR_v4
            have y5_0 := cell6_0 ld5
            have y5_1 := cell6_1 ld5
            have y5_2 := cell6_2 ld5
            have y5_3 := cell6_3 ld5
            have y5_4 := cell6_4 ld5
            have y5_5 := cell6_5 ld5
            clear ld5
            go_wp2_with fail
            refine (PC.out _).mono ?_
            rintro e v6 ⟨rfl, hb_v6⟩
            have hs_v6 := hw_v4.size
            have cR_v6 : v6.heap[D]? = some (.cells #[.string nm, .string tn, .int .i64 a, .int .i64 b, .int .i64 f, .slice sa n cp] 26) := (hb_v6.block (D) (Array.getElem?_eq_some_iff.1 (show v4.heap[D]? = some (.cells #[.string nm, .string tn, .int .i64 a, .int .i64 b, .int .i64 f, .slice sa n cp] 26) from cR_v4)).1).trans cR_v4
            have hw_v6 : Below D w v6 := (hw_v4).trans (hb_v6.mono (by first | omega | (simp; omega)))
            clear cR_v4 hb_v6 y5_0 y5_1 y5_2 y5_3 y5_4 y5_5 hw_v4 hs_v6
            have ld7 : v6.heap[D]? = some (.cells #[.string nm, .string tn, .int .i64 a, .int .i64 b, .int .i64 f, .slice sa n cp] 26) := cR_v6
            have y7_0 := cell6_0 ld7
            have y7_1 := cell6_1 ld7
            have y7_2 := cell6_2 ld7
            have y7_3 := cell6_3 ld7
            have y7_4 := cell6_4 ld7
            have y7_5 := cell6_5 ld7
            clear ld7
            have W1 : Wd v6 (.slice sa n cp) n X := hW.out.below (by first | exact hw_v6 | (rw [hD]; exact hw_v6))
            go_wp2_with fail
            refine (CW.out _ W1).mono ?_
            rintro e v8 ⟨rfl, hb_v8⟩
            have hs_v8 := hw_v6.size
            have cR_v8 : v8.heap[D]? = some (.cells #[.string nm, .string tn, .int .i64 a, .int .i64 b, .int .i64 f, .slice sa n cp] 26) := (hb_v8.block (D) (Array.getElem?_eq_some_iff.1 (show v6.heap[D]? = some (.cells #[.string nm, .string tn, .int .i64 a, .int .i64 b, .int .i64 f, .slice sa n cp] 26) from cR_v6)).1).trans cR_v6
            have hw_v8 : Below D w v8 := (hw_v6).trans (hb_v8.mono (by first | omega | (simp; omega)))
            clear cR_v6 hb_v8 y7_0 y7_1 y7_2 y7_3 y7_4 y7_5 hw_v6 hs_v8
            have HW := Lib.hid (hw_v8)
            go_wp2
            go_ret
            exact ⟨rfl, by first | exact HW.out | (rw [hD]; exact HW.out)⟩
        · obtain rfl : R = 3 := by rw [← HR.out, rk_first n1 n2 p0 f0]
          clear n1 n2 p0
          rcases (show f < -256 ∨ (¬ f < -256 ∧ 256 < f) by omega) with g1 | ⟨g1, g2⟩
          · skip
            go_enter Tryz.func13, Tryz.ntmps13
            have ld1 : (w.alloc (.cells #[.string nm, .string tn, .int .i64 a, .int .i64 b, .int .i64 f, .slice sa n cp] 26)).heap[D]? = some (.cells #[.string nm, .string tn, .int .i64 a, .int .i64 b, .int .i64 f, .slice sa n cp] 26) := (heap_new (by first | omega | (simp; omega)))
            have y1_0 := cell6_0 ld1
            have y1_1 := cell6_1 ld1
            have y1_2 := cell6_2 ld1
            have y1_3 := cell6_3 ld1
            have y1_4 := cell6_4 ld1
            have y1_5 := cell6_5 ld1
            clear ld1
            go_wp2_with fail
            refine (N1.out _).mono ?_
            rintro e v2 ⟨rfl, hb_v2⟩
            have cR_v2 : v2.heap[D]? = some (.cells #[.string nm, .string tn, .int .i64 a, .int .i64 b, .int .i64 f, .slice sa n cp] 26) := (hb_v2.block (D) (Array.getElem?_eq_some_iff.1 (show (w.alloc (.cells #[.string nm, .string tn, .int .i64 a, .int .i64 b, .int .i64 f, .slice sa n cp] 26)).heap[D]? = some (.cells #[.string nm, .string tn, .int .i64 a, .int .i64 b, .int .i64 f, .slice sa n cp] 26) from (heap_new (by first | omega | (simp; omega))))).1).trans (heap_new (by first | omega | (simp; omega)))
            have hw_v2 : Below D w v2 := (((Below.refl _ w).alloc (by first | omega | (simp; omega)) (.cells #[.string nm, .string tn, .int .i64 a, .int .i64 b, .int .i64 f, .slice sa n cp] 26))).trans (hb_v2.mono (by first | omega | (simp; omega)))
            clear hb_v2 y1_0 y1_1 y1_2 y1_3 y1_4 y1_5
            have ld3 : v2.heap[D]? = some (.cells #[.string nm, .string tn, .int .i64 a, .int .i64 b, .int .i64 f, .slice sa n cp] 26) := cR_v2
            have y3_0 := cell6_0 ld3
            have y3_1 := cell6_1 ld3
            have y3_2 := cell6_2 ld3
            have y3_3 := cell6_3 ld3
            have y3_4 := cell6_4 ld3
            have y3_5 := cell6_5 ld3
            clear ld3
            go_wp2_with fail
            refine (N2.out _).mono ?_
            rintro e v4 ⟨rfl, hb_v4⟩
            have hs_v4 := hw_v2.size
            have cR_v4 : v4.heap[D]? = some (.cells #[.string nm, .string tn, .int .i64 a, .int .i64 b, .int .i64 f, .slice sa n cp] 26) := (hb_v4.block (D) (Array.getElem?_eq_some_iff.1 (show v2.heap[D]? = some (.cells #[.string nm, .string tn, .int .i64 a, .int .i64 b, .int .i64 f, .slice sa n cp] 26) from cR_v2)).1).trans cR_v2
            have hw_v4 : Below D w v4 := (hw_v2).trans (hb_v4.mono (by first | omega | (simp; omega)))
            clear cR_v2 hb_v4 y3_0 y3_1 y3_2 y3_3 y3_4 y3_5 hw_v2 hs_v4
            have ld5 : v4.heap[D]? = some (.cells #[.string nm, .string tn, .int .i64 a, .int .i64 b, .int .i64 f, .slice sa n cp] 26) := cR_v4
            have y5_0 := cell6_0 ld5
            have y5_1 := cell6_1 ld5
            have y5_2 := cell6_2 ld5
            have y5_3 := cell6_3 ld5
            have y5_4 := cell6_4 ld5
            have y5_5 := cell6_5 ld5
            clear ld5
            go_wp2_with fail
            refine (PC.out _).mono ?_
            rintro e v6 ⟨rfl, hb_v6⟩
            have hs_v6 := hw_v4.size
            have cR_v6 : v6.heap[D]? = some (.cells #[.string nm, .string tn, .int .i64 a, .int .i64 b, .int .i64 f, .slice sa n cp] 26) := (hb_v6.block (D) (Array.getElem?_eq_some_iff.1 (show v4.heap[D]? = some (.cells #[.string nm, .string tn, .int .i64 a, .int .i64 b, .int .i64 f, .slice sa n cp] 26) from cR_v4)).1).trans cR_v4
            have hw_v6 : Below D w v6 := (hw_v4).trans (hb_v6.mono (by first | omega | (simp; omega)))
            clear cR_v4 hb_v6 y5_0 y5_1 y5_2 y5_3 y5_4 y5_5 hw_v4 hs_v6
            have ld7 : v6.heap[D]? = some (.cells #[.string nm, .string tn, .int .i64 a, .int .i64 b, .int .i64 f, .slice sa n cp] 26) := cR_v6
            have y7_0 := cell6_0 ld7
            have y7_1 := cell6_1 ld7
            have y7_2 := cell6_2 ld7
            have y7_3 := cell6_3 ld7
            have y7_4 := cell6_4 ld7
            have y7_5 := cell6_5 ld7
            clear ld7
            have HW := Lib.hid (hw_v6)
            go_wp2
            go_ret
            exact ⟨rfl, by first | exact HW.out | (rw [hD]; exact HW.out)⟩
          · skip
            go_enter Tryz.func13, Tryz.ntmps13
            have ld1 : (w.alloc (.cells #[.string nm, .string tn, .int .i64 a, .int .i64 b, .int .i64 f, .slice sa n cp] 26)).heap[D]? = some (.cells #[.string nm, .string tn, .int .i64 a, .int .i64 b, .int .i64 f, .slice sa n cp] 26) := (heap_new (by first | omega | (simp; omega)))
            have y1_0 := cell6_0 ld1
            have y1_1 := cell6_1 ld1
            have y1_2 := cell6_2 ld1
            have y1_3 := cell6_3 ld1
            have y1_4 := cell6_4 ld1
            have y1_5 := cell6_5 ld1
            clear ld1
            go_wp2_with fail
            refine (N1.out _).mono ?_
            rintro e v2 ⟨rfl, hb_v2⟩
            have cR_v2 : v2.heap[D]? = some (.cells #[.string nm, .string tn, .int .i64 a, .int .i64 b, .int .i64 f, .slice sa n cp] 26) := (hb_v2.block (D) (Array.getElem?_eq_some_iff.1 (show (w.alloc (.cells #[.string nm, .string tn, .int .i64 a, .int .i64 b, .int .i64 f, .slice sa n cp] 26)).heap[D]? = some (.cells #[.string nm, .string tn, .int .i64 a, .int .i64 b, .int .i64 f, .slice sa n cp] 26) from (heap_new (by first | omega | (simp; omega))))).1).trans (heap_new (by first | omega | (simp; omega)))
            have hw_v2 : Below D w v2 := (((Below.refl _ w).alloc (by first | omega | (simp; omega)) (.cells #[.string nm, .string tn, .int .i64 a, .int .i64 b, .int .i64 f, .slice sa n cp] 26))).trans (hb_v2.mono (by first | omega | (simp; omega)))
            clear hb_v2 y1_0 y1_1 y1_2 y1_3 y1_4 y1_5
            have ld3 : v2.heap[D]? = some (.cells #[.string nm, .string tn, .int .i64 a, .int .i64 b, .int .i64 f, .slice sa n cp] 26) := cR_v2
            have y3_0 := cell6_0 ld3
            have y3_1 := cell6_1 ld3
            have y3_2 := cell6_2 ld3
            have y3_3 := cell6_3 ld3
            have y3_4 := cell6_4 ld3
            have y3_5 := cell6_5 ld3
            clear ld3
            go_wp2_with fail
            refine (N2.out _).mono ?_
            rintro e v4 ⟨rfl, hb_v4⟩
            have hs_v4 := hw_v2.size
            have cR_v4 : v4.heap[D]? = some (.cells #[.string nm, .string tn, .int .i64 a, .int .i64 b, .int .i64 f, .slice sa n cp] 26) := (hb_v4.block (D) (Array.getElem?_eq_some_iff.1 (show v2.heap[D]? = some (.cells #[.string nm, .string tn, .int .i64 a, .int .i64 b, .int .i64 f, .slice sa n cp] 26) from cR_v2)).1).trans cR_v2
            have hw_v4 : Below D w v4 := (hw_v2).trans (hb_v4.mono (by first | omega | (simp; omega)))
            clear cR_v2 hb_v4 y3_0 y3_1 y3_2 y3_3 y3_4 y3_5 hw_v2 hs_v4
            have ld5 : v4.heap[D]? = some (.cells #[.string nm, .string tn, .int .i64 a, .int .i64 b, .int .i64 f, .slice sa n cp] 26) := cR_v4
            have y5_0 := cell6_0 ld5
            have y5_1 := cell6_1 ld5
            have y5_2 := cell6_2 ld5
            have y5_3 := cell6_3 ld5
            have y5_4 := cell6_4 ld5
            have y5_5 := cell6_5 ld5
            clear ld5
            go_wp2_with fail
            refine (PC.out _).mono ?_
            rintro e v6 ⟨rfl, hb_v6⟩
            have hs_v6 := hw_v4.size
            have cR_v6 : v6.heap[D]? = some (.cells #[.string nm, .string tn, .int .i64 a, .int .i64 b, .int .i64 f, .slice sa n cp] 26) := (hb_v6.block (D) (Array.getElem?_eq_some_iff.1 (show v4.heap[D]? = some (.cells #[.string nm, .string tn, .int .i64 a, .int .i64 b, .int .i64 f, .slice sa n cp] 26) from cR_v4)).1).trans cR_v4
            have hw_v6 : Below D w v6 := (hw_v4).trans (hb_v6.mono (by first | omega | (simp; omega)))
            clear cR_v4 hb_v6 y5_0 y5_1 y5_2 y5_3 y5_4 y5_5 hw_v4 hs_v6
            have ld7 : v6.heap[D]? = some (.cells #[.string nm, .string tn, .int .i64 a, .int .i64 b, .int .i64 f, .slice sa n cp] 26) := cR_v6
            have y7_0 := cell6_0 ld7
            have y7_1 := cell6_1 ld7
            have y7_2 := cell6_2 ld7
            have y7_3 := cell6_3 ld7
            have y7_4 := cell6_4 ld7
            have y7_5 := cell6_5 ld7
            clear ld7
            have HW := Lib.hid (hw_v6)
            go_wp2
            go_ret
            exact ⟨rfl, by first | exact HW.out | (rw [hD]; exact HW.out)⟩
      · obtain rfl : R = pk a b := by rw [← HR.out, rk_feet n1 n2 p0]
        obtain ⟨z, hz⟩ : ∃ z, pk a b = z := ⟨_, rfl⟩
        rw [hz] at PC p0
        rw [hz]
        clear n1 n2 hz HR
        go_enter Tryz.func13, Tryz.ntmps13
        have ld1 : (w.alloc (.cells #[.string nm, .string tn, .int .i64 a, .int .i64 b, .int .i64 f, .slice sa n cp] 26)).heap[D]? = some (.cells #[.string nm, .string tn, .int .i64 a, .int .i64 b, .int .i64 f, .slice sa n cp] 26) := (heap_new (by first | omega | (simp; omega)))
        have y1_0 := cell6_0 ld1
        have y1_1 := cell6_1 ld1
        have y1_2 := cell6_2 ld1
        have y1_3 := cell6_3 ld1
        have y1_4 := cell6_4 ld1
        have y1_5 := cell6_5 ld1
        clear ld1
        go_wp2_with fail
        refine (N1.out _).mono ?_
        rintro e v2 ⟨rfl, hb_v2⟩
        have cR_v2 : v2.heap[D]? = some (.cells #[.string nm, .string tn, .int .i64 a, .int .i64 b, .int .i64 f, .slice sa n cp] 26) := (hb_v2.block (D) (Array.getElem?_eq_some_iff.1 (show (w.alloc (.cells #[.string nm, .string tn, .int .i64 a, .int .i64 b, .int .i64 f, .slice sa n cp] 26)).heap[D]? = some (.cells #[.string nm, .string tn, .int .i64 a, .int .i64 b, .int .i64 f, .slice sa n cp] 26) from (heap_new (by first | omega | (simp; omega))))).1).trans (heap_new (by first | omega | (simp; omega)))
        have hw_v2 : Below D w v2 := (((Below.refl _ w).alloc (by first | omega | (simp; omega)) (.cells #[.string nm, .string tn, .int .i64 a, .int .i64 b, .int .i64 f, .slice sa n cp] 26))).trans (hb_v2.mono (by first | omega | (simp; omega)))
        clear hb_v2 y1_0 y1_1 y1_2 y1_3 y1_4 y1_5
        have ld3 : v2.heap[D]? = some (.cells #[.string nm, .string tn, .int .i64 a, .int .i64 b, .int .i64 f, .slice sa n cp] 26) := cR_v2
        have y3_0 := cell6_0 ld3
        have y3_1 := cell6_1 ld3
        have y3_2 := cell6_2 ld3
        have y3_3 := cell6_3 ld3
        have y3_4 := cell6_4 ld3
        have y3_5 := cell6_5 ld3
        clear ld3
        go_wp2_with fail
        refine (N2.out _).mono ?_
        rintro e v4 ⟨rfl, hb_v4⟩
        have hs_v4 := hw_v2.size
        have cR_v4 : v4.heap[D]? = some (.cells #[.string nm, .string tn, .int .i64 a, .int .i64 b, .int .i64 f, .slice sa n cp] 26) := (hb_v4.block (D) (Array.getElem?_eq_some_iff.1 (show v2.heap[D]? = some (.cells #[.string nm, .string tn, .int .i64 a, .int .i64 b, .int .i64 f, .slice sa n cp] 26) from cR_v2)).1).trans cR_v2
        have hw_v4 : Below D w v4 := (hw_v2).trans (hb_v4.mono (by first | omega | (simp; omega)))
        clear cR_v2 hb_v4 y3_0 y3_1 y3_2 y3_3 y3_4 y3_5 hw_v2 hs_v4
        have ld5 : v4.heap[D]? = some (.cells #[.string nm, .string tn, .int .i64 a, .int .i64 b, .int .i64 f, .slice sa n cp] 26) := cR_v4
        have y5_0 := cell6_0 ld5
        have y5_1 := cell6_1 ld5
        have y5_2 := cell6_2 ld5
        have y5_3 := cell6_3 ld5
        have y5_4 := cell6_4 ld5
        have y5_5 := cell6_5 ld5
        clear ld5
        go_wp2_with fail
        refine (PC.out _).mono ?_
        rintro e v6 ⟨rfl, hb_v6⟩
        have hs_v6 := hw_v4.size
        have cR_v6 : v6.heap[D]? = some (.cells #[.string nm, .string tn, .int .i64 a, .int .i64 b, .int .i64 f, .slice sa n cp] 26) := (hb_v6.block (D) (Array.getElem?_eq_some_iff.1 (show v4.heap[D]? = some (.cells #[.string nm, .string tn, .int .i64 a, .int .i64 b, .int .i64 f, .slice sa n cp] 26) from cR_v4)).1).trans cR_v4
        have hw_v6 : Below D w v6 := (hw_v4).trans (hb_v6.mono (by first | omega | (simp; omega)))
        clear cR_v4 hb_v6 y5_0 y5_1 y5_2 y5_3 y5_4 y5_5 hw_v4 hs_v6
        have HW := Lib.hid (hw_v6)
        go_wp2
        go_ret
        exact ⟨rfl, by first | exact HW.out | (rw [hD]; exact HW.out)⟩

set_option maxRecDepth 100000 in
set_option maxHeartbeats 4000000 in
theorem above_bad (nm tn : ByteArray) (a b f : Int) (sa : Option Addr) (n cp : Nat) (X : Nat → Int) (sb : Option Addr) (m cq : Nat) (Y : Nat → Int) (s1 : nm.size ≤ 1099511627776) (s2 : tn.size ≤ 1099511627776) (hn : n ≤ 1099511627776) (hm : m ≤ 1099511627776) (z : Int) (h1 : cfE (rkE nm tn a b f n X) (wdE Y m) n m = z) (h2 : ¬ z = 0) (w : World) (hW1 : Wd w (.slice sa n cp) n X) (hW2 : Wd w (.slice sb m cq) m Y) :
    Calls Tryz.prog 26 #[.agg #[.string nm, .string tn, .int .i64 a, .int .i64 b, .int .i64 f, .slice sa n cp], .slice sb m cq] w fun e w' => e = .returned (.tuple #[.agg #[.string ⟨#[]⟩, .string ⟨#[]⟩, .int .i64 0, .int .i64 0, .int .i64 0, .slice none 0 0], .int .i64 z]) ∧ Below w.heap.size w w' := by
  have CF := Lib.hid (fun W h h' => further_c nm tn a b f sa n cp X sb m cq Y s1 s2 hn hm W h h')
  have hW := Lib.hid hW1
  have hY := Lib.hid hW2
  clear hW1 hW2
  obtain ⟨D, hD⟩ : ∃ D, w.heap.size = D := ⟨_, rfl⟩
  rw [h1] at CF
  clear h1
  go_enter Tryz.func26, Tryz.ntmps26
  have ld1 : ((w.alloc (.cells #[.string nm, .string tn, .int .i64 a, .int .i64 b, .int .i64 f, .slice sa n cp] 26)).alloc (.cells #[.string ⟨#[]⟩, .string ⟨#[]⟩, .int .i64 0, .int .i64 0, .int .i64 0, .slice none 0 0] 26)).heap[D]? = some (.cells #[.string nm, .string tn, .int .i64 a, .int .i64 b, .int .i64 f, .slice sa n cp] 26) := (heap_old (o := .cells #[.string ⟨#[]⟩, .string ⟨#[]⟩, .int .i64 0, .int .i64 0, .int .i64 0, .slice none 0 0] 26) (heap_new (by first | omega | (simp; omega))))
  have y1_0 := cell6_0 ld1
  have y1_1 := cell6_1 ld1
  have y1_2 := cell6_2 ld1
  have y1_3 := cell6_3 ld1
  have y1_4 := cell6_4 ld1
  have y1_5 := cell6_5 ld1
  clear ld1
  have W2 : Wd ((w.alloc (.cells #[.string nm, .string tn, .int .i64 a, .int .i64 b, .int .i64 f, .slice sa n cp] 26)).alloc (.cells #[.string ⟨#[]⟩, .string ⟨#[]⟩, .int .i64 0, .int .i64 0, .int .i64 0, .slice none 0 0] 26)) (.slice sa n cp) n X := hW.out.below (by first | exact (((Below.refl _ w).alloc (by first | omega | (simp; omega)) (.cells #[.string nm, .string tn, .int .i64 a, .int .i64 b, .int .i64 f, .slice sa n cp] 26)).alloc (by first | omega | (simp; omega)) (.cells #[.string ⟨#[]⟩, .string ⟨#[]⟩, .int .i64 0, .int .i64 0, .int .i64 0, .slice none 0 0] 26)) | (rw [hD]; exact (((Below.refl _ w).alloc (by first | omega | (simp; omega)) (.cells #[.string nm, .string tn, .int .i64 a, .int .i64 b, .int .i64 f, .slice sa n cp] 26)).alloc (by first | omega | (simp; omega)) (.cells #[.string ⟨#[]⟩, .string ⟨#[]⟩, .int .i64 0, .int .i64 0, .int .i64 0, .slice none 0 0] 26))))
  have W3 : Wd ((w.alloc (.cells #[.string nm, .string tn, .int .i64 a, .int .i64 b, .int .i64 f, .slice sa n cp] 26)).alloc (.cells #[.string ⟨#[]⟩, .string ⟨#[]⟩, .int .i64 0, .int .i64 0, .int .i64 0, .slice none 0 0] 26)) (.slice sb m cq) m Y := hY.out.below (by first | exact (((Below.refl _ w).alloc (by first | omega | (simp; omega)) (.cells #[.string nm, .string tn, .int .i64 a, .int .i64 b, .int .i64 f, .slice sa n cp] 26)).alloc (by first | omega | (simp; omega)) (.cells #[.string ⟨#[]⟩, .string ⟨#[]⟩, .int .i64 0, .int .i64 0, .int .i64 0, .slice none 0 0] 26)) | (rw [hD]; exact (((Below.refl _ w).alloc (by first | omega | (simp; omega)) (.cells #[.string nm, .string tn, .int .i64 a, .int .i64 b, .int .i64 f, .slice sa n cp] 26)).alloc (by first | omega | (simp; omega)) (.cells #[.string ⟨#[]⟩, .string ⟨#[]⟩, .int .i64 0, .int .i64 0, .int .i64 0, .slice none 0 0] 26))))
  go_wp2_with fail
  refine (CF.out _ W2 W3).mono ?_
  rintro e v2 ⟨rfl, hb_v2⟩
  have cR_v2 : v2.heap[D]? = some (.cells #[.string nm, .string tn, .int .i64 a, .int .i64 b, .int .i64 f, .slice sa n cp] 26) := (hb_v2.block (D) (Array.getElem?_eq_some_iff.1 (show ((w.alloc (.cells #[.string nm, .string tn, .int .i64 a, .int .i64 b, .int .i64 f, .slice sa n cp] 26)).alloc (.cells #[.string ⟨#[]⟩, .string ⟨#[]⟩, .int .i64 0, .int .i64 0, .int .i64 0, .slice none 0 0] 26)).heap[D]? = some (.cells #[.string nm, .string tn, .int .i64 a, .int .i64 b, .int .i64 f, .slice sa n cp] 26) from (heap_old (o := .cells #[.string ⟨#[]⟩, .string ⟨#[]⟩, .int .i64 0, .int .i64 0, .int .i64 0, .slice none 0 0] 26) (heap_new (by first | omega | (simp; omega)))))).1).trans (heap_old (o := .cells #[.string ⟨#[]⟩, .string ⟨#[]⟩, .int .i64 0, .int .i64 0, .int .i64 0, .slice none 0 0] 26) (heap_new (by first | omega | (simp; omega))))
  have cZ_v2 : v2.heap[D + 1]? = some (.cells #[.string ⟨#[]⟩, .string ⟨#[]⟩, .int .i64 0, .int .i64 0, .int .i64 0, .slice none 0 0] 26) := (hb_v2.block (D + 1) (Array.getElem?_eq_some_iff.1 (show ((w.alloc (.cells #[.string nm, .string tn, .int .i64 a, .int .i64 b, .int .i64 f, .slice sa n cp] 26)).alloc (.cells #[.string ⟨#[]⟩, .string ⟨#[]⟩, .int .i64 0, .int .i64 0, .int .i64 0, .slice none 0 0] 26)).heap[D + 1]? = some (.cells #[.string ⟨#[]⟩, .string ⟨#[]⟩, .int .i64 0, .int .i64 0, .int .i64 0, .slice none 0 0] 26) from (heap_new (by first | omega | (simp; omega))))).1).trans (heap_new (by first | omega | (simp; omega)))
  have hw_v2 : Below D w v2 := ((((Below.refl _ w).alloc (by first | omega | (simp; omega)) (.cells #[.string nm, .string tn, .int .i64 a, .int .i64 b, .int .i64 f, .slice sa n cp] 26)).alloc (by first | omega | (simp; omega)) (.cells #[.string ⟨#[]⟩, .string ⟨#[]⟩, .int .i64 0, .int .i64 0, .int .i64 0, .slice none 0 0] 26))).trans (hb_v2.mono (by first | omega | (simp; omega)))
  clear hb_v2 y1_0 y1_1 y1_2 y1_3 y1_4 y1_5
  have hp := cZ_v2
  obtain ⟨f0, f1, f2, f3, f4, f5⟩ := free6_at hp
  obtain ⟨g0, g1, g2, g3, g4, g5⟩ := cell6_at hp
  have hE := set6_all (x0 := .string ⟨#[]⟩) (x1 := .string ⟨#[]⟩) (x2 := .int .i64 0) (x3 := .int .i64 0) (x4 := .int .i64 0) (x5 := .slice none 0 0) hp
  have HW := Lib.hid (below6 (hw_v2) (show D ≤ D + 1 by omega) (.string ⟨#[]⟩) (.string ⟨#[]⟩) (.int .i64 0) (.int .i64 0) (.int .i64 0) (.slice none 0 0))
  obtain ⟨U, hU⟩ : ∃ U, ((((((v2.setCell ⟨D + 1, 0, none⟩ (.string ⟨#[]⟩)).setCell ⟨D + 1, 1, none⟩ (.string ⟨#[]⟩)).setCell ⟨D + 1, 2, none⟩ (.int .i64 0)).setCell ⟨D + 1, 3, none⟩ (.int .i64 0)).setCell ⟨D + 1, 4, none⟩ (.int .i64 0)).setCell ⟨D + 1, 5, none⟩ (.slice none 0 0)) = U := ⟨_, rfl⟩
  rw [hU] at hE HW
  obtain ⟨z0, z1, z2, z3, z4, z5⟩ := cell6_at hE
  have HUU := Lib.hid hU
  clear hU hE hp
  go_wp2
  rw [HUU.out]
  exact bodyPost_ret (v := .tuple #[.agg #[.string ⟨#[]⟩, .string ⟨#[]⟩, .int .i64 0, .int .i64 0, .int .i64 0, .slice none 0 0], .int .i64 z]) (by simp [results, Tryz.results26, go_sem, z0, z1, z2, z3, z4, z5]) rfl ⟨rfl, by first | exact HW.out | (rw [hD]; exact HW.out)⟩
end Go.Proofs.YtbkbncapgljfaaaGreatDoor
