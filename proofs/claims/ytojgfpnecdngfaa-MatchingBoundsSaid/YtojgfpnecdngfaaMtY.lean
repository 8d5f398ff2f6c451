/- The reference's Sizes, Valid and Sum. -/
import Derived.Test.YtojgfpnecdngfaaMtS
namespace Go.Proofs.Ytojgfpnecdngfaa
open Go Go.RowKit Go.Shelf

set_option maxRecDepth 100000 in
set_option maxHeartbeats 2000000 in
theorem sizes_c (B m n nr nc : Nat) (A R C : Option Addr) (cm cr cc : Nat) (f : Nat → Nat → Int) (r c : Nat → Int) (w : World) (hm : m ≤ 1000) (hn : n ≤ 1000) (hmn : m = 0 → n = 0) (hnr : nr ≤ 9223372036854775807) (hnc : nc ≤ 9223372036854775807)
    (hT : Tb w B A m (fun _ => n) f) (hR : Rd w B R nr r) (hC : Rd w B C nc c) :
    Calls Try.prog 27 #[.slice A m cm, .slice R nr cr, .slice C nc cc] w fun e w' => e = .returned (.int .i64 (szE m n nr nc r c)) ∧ w = w' := by
  have HT := Lib.hid hT
  have HR := Lib.hid hR
  have HC := Lib.hid hC
  clear hT hR hC
  go_enter Try.func27, Try.ntmps27
  by_cases hm0 : m = 0
  · obtain rfl := hmn hm0
    have hi0 : ¬ (0 : Int) < (m : Int) := by omega
    subst hm0
    clear hmn
    by_cases h1 : nr = 0
    case neg =>
      have hb1 : ((nr : Int) != 0) = true := by simp; omega
      have HN := Lib.hid (show szE 0 0 nr nc r c = 5 from if_pos (.inl h1))
      clear h1
      go_wp2_with fail
      go_ret
      exact ⟨by rw [HN.out]; first | done | rfl, rfl⟩
    by_cases h2 : nc = 0
    case neg =>
      subst h1
      have hb2 : ((nc : Int) != 0) = true := by simp; omega
      have HN := Lib.hid (show szE 0 0 0 nc r c = 5 from if_pos (.inr h2))
      clear h2
      go_wp2_with fail
      go_ret
      exact ⟨by rw [HN.out]; first | done | rfl, rfl⟩
    subst h1
    subst h2
    have HN := Lib.hid (show szE 0 0 0 0 r c = 0 from sz_0 (by simp) ⟨fun j hj => by omega, fun j hj => by omega⟩)
    go_wp2_with fail
    go_loop [8] (fun i => i = .int .i64 0) (fun i => 0)
    case atStart => rfl
    case round =>
      subst hrel
      go_wp2_with fail
      go_loop [9] (fun i => i = .int .i64 0) (fun i => 0)
      case atStart => rfl
      case round =>
        subst hrel
        go_wp2_with fail
        go_ret
        exact ⟨by rw [HN.out]; first | done | rfl, rfl⟩
  · have hi0 : (0 : Int) < (m : Int) := by omega
    obtain ⟨a, A0, ci0, rfl, _, k0, _⟩ := HT.out 0 (by omega)
    have k0' : w.cell? a = some (.slice A0 n ci0) := by simpa [Addr.add] using k0
    clear k0 hmn
    by_cases h1 : nr = m
    case neg =>
      have hb1 : ((nr : Int) != (m : Int)) = true := by simp; omega
      have HN := Lib.hid (show szE m n nr nc r c = 5 from if_pos (.inl h1))
      clear h1
      go_wp2_with fail
      go_ret
      exact ⟨by rw [HN.out]; first | done | rfl, rfl⟩
    by_cases h2 : nc = n
    case neg =>
      have hb1 : ((nr : Int) != (m : Int)) = false := by simp [h1]
      have hb2 : ((nc : Int) != (n : Int)) = true := by simp; omega
      have HN := Lib.hid (show szE m n nr nc r c = 5 from if_pos (.inr h2))
      clear h1 h2
      go_wp2_with fail
      go_ret
      exact ⟨by rw [HN.out]; first | done | rfl, rfl⟩
    have hb1 : ((nr : Int) != (m : Int)) = false := by simp [h1]
    have hb2 : ((nc : Int) != (n : Int)) = false := by simp [h2]
    have H0 := Lib.hid (show ¬ (nr ≠ m ∨ nc ≠ n) from fun h => by omega)
    clear h1 h2
    go_wp2_with fail
    go_loop [8] (fun i => ∃ t : Nat, t ≤ nr ∧ i = .int .i64 (t : Int) ∧ ∀ j, j < t → inP (r j) = true) (fun i => nr - (intOf i).toNat)
    case atStart => exact ⟨0, Nat.zero_le _, rfl, fun j hj => by omega⟩
    case round =>
      obtain ⟨t, ht, rfl, hall⟩ := hrel
      have HAHR := Lib.hid hall
      clear hall
      by_cases htn : t < nr
      · have hti : (t : Int) < (nr : Int) := by omega
        have q := wrap_in (q := (t : Int) + 1) (by omega) (by omega)
        obtain ⟨b, rfl, _, c0⟩ := HR.out t htn
        by_cases r1 : r t < -1000000000000
        · have HB := Lib.hid (show inP (r t) = false from decide_eq_false fun h => by omega)
          go_wp2_with fail
          go_ret
          exact ⟨by rw [sz_3 H0.out (fun h => by have := h.1 t htn; rw [HB.out] at this; cases this)]; first | done | rfl, rfl⟩
        by_cases r2 : 1000000000000 < r t
        · have HB := Lib.hid (show inP (r t) = false from decide_eq_false fun h => by omega)
          go_wp2_with fail
          go_ret
          exact ⟨by rw [sz_3 H0.out (fun h => by have := h.1 t htn; rw [HB.out] at this; cases this)]; first | done | rfl, rfl⟩
        have HB := Lib.hid (show inP (r t) = true from decide_eq_true ⟨by omega, by omega⟩)
        go_wp2_with fail
        go_round
        case rel => exact ⟨t + 1, htn, by go_num, fun j hj => by
          by_cases e : j = t
          · subst e; exact HB.out
          · exact HAHR.out j (by omega)⟩
        case measure => simp [intOf]; omega
      · have hti : ¬ (t : Int) < (nr : Int) := by omega
        have HFHR := Lib.hid (show ∀ j, j < nr → inP (r j) = true from fun j hj => HAHR.out j (by omega))
        clear HAHR
        go_wp2_with fail
        go_loop [9] (fun i => ∃ t : Nat, t ≤ nc ∧ i = .int .i64 (t : Int) ∧ ∀ j, j < t → inP (c j) = true) (fun i => nc - (intOf i).toNat)
        case atStart => exact ⟨0, Nat.zero_le _, rfl, fun j hj => by omega⟩
        case round =>
          obtain ⟨t, ht, rfl, hall⟩ := hrel
          have HAHC := Lib.hid hall
          clear hall
          by_cases htn : t < nc
          · have hti : (t : Int) < (nc : Int) := by omega
            have q := wrap_in (q := (t : Int) + 1) (by omega) (by omega)
            obtain ⟨b, rfl, _, c0⟩ := HC.out t htn
            by_cases r1 : c t < -1000000000000
            · have HB := Lib.hid (show inP (c t) = false from decide_eq_false fun h => by omega)
              go_wp2_with fail
              go_ret
              exact ⟨by rw [sz_3 H0.out (fun h => by have := h.2 t htn; rw [HB.out] at this; cases this)]; first | done | rfl, rfl⟩
            by_cases r2 : 1000000000000 < c t
            · have HB := Lib.hid (show inP (c t) = false from decide_eq_false fun h => by omega)
              go_wp2_with fail
              go_ret
              exact ⟨by rw [sz_3 H0.out (fun h => by have := h.2 t htn; rw [HB.out] at this; cases this)]; first | done | rfl, rfl⟩
            have HB := Lib.hid (show inP (c t) = true from decide_eq_true ⟨by omega, by omega⟩)
            go_wp2_with fail
            go_round
            case rel => exact ⟨t + 1, htn, by go_num, fun j hj => by
              by_cases e : j = t
              · subst e; exact HB.out
              · exact HAHC.out j (by omega)⟩
            case measure => simp [intOf]; omega
          · have hti : ¬ (t : Int) < (nc : Int) := by omega
            have HFHC := Lib.hid (show ∀ j, j < nc → inP (c j) = true from fun j hj => HAHC.out j (by omega))
            clear HAHC
            go_wp2_with fail
            go_ret
            exact ⟨by rw [sz_0 H0.out ⟨HFHR.out, HFHC.out⟩]; first | done | rfl, rfl⟩


set_option maxRecDepth 100000 in
set_option maxHeartbeats 1000000 in
theorem refSum_c (B nr nc : Nat) (R C : Option Addr) (cr cc : Nat) (r c : Nat → Int) (w : World) (hnr : nr ≤ 1000) (hnc : nc ≤ 1000) (hR : Rd w B R nr r) (hC : Rd w B C nc c) (hr : ∀ i, i < nr → inP (r i) = true) (hc : ∀ i, i < nc → inP (c i) = true) :
    Calls Try.prog 29 #[.slice R nr cr, .slice C nc cc] w fun e w' => e = .returned (.int .i64 (Mt.sm r nr + Mt.sm c nc)) ∧ w = w' := by
  have HR := Lib.hid hR
  have HC := Lib.hid hC
  have Hr := Lib.hid hr
  have Hc := Lib.hid hc
  clear hR hC hr hc
  go_enter Try.func29, Try.ntmps29
  go_wp2_with fail
  go_loop [5, 6] (fun s i => ∃ t : Nat, t ≤ nr ∧ i = .int .i64 (t : Int) ∧ s = .int .i64 (Mt.sm r t)) (fun _ i => nr - (intOf i).toNat)
  case atStart => exact ⟨0, Nat.zero_le _, rfl, rfl⟩
  case round =>
    obtain ⟨t, ht, rfl, rfl⟩ := hrel
    have bd := sm_bd (r := r) (n := t) fun i hi => Hr.out i (by omega)
    obtain ⟨S, hS⟩ : ∃ S, Mt.sm r t = S := ⟨_, rfl⟩
    rw [hS] at bd ⊢
    have HS := Lib.hid hS
    clear hS
    by_cases htn : t < nr
    · have hti : (t : Int) < (nr : Int) := by omega
      have q := wrap_in (q := (t : Int) + 1) (by omega) (by omega)
      obtain ⟨b, rfl, _, c0⟩ := HR.out t htn
      have i1 := of_decide_eq_true (Hr.out t htn)
      have q2 := wrap_in (q := S + r t) (by omega) (by omega)
      have HSM := Lib.hid (show Mt.sm r (t + 1) = S + r t by rw [← HS.out]; rfl)
      clear i1 bd
      go_wp2_with fail
      go_round
      case rel => exact ⟨t + 1, htn, by go_num, by rw [HSM.out]⟩
      case measure => simp [intOf]; omega
    · obtain rfl : t = nr := by omega
      have hti : ¬ (t : Int) < (t : Int) := by omega
      go_wp2_with fail
      go_loop [5, 7] (fun s i => ∃ k : Nat, k ≤ nc ∧ i = .int .i64 (k : Int) ∧ s = .int .i64 (S + Mt.sm c k)) (fun _ i => nc - (intOf i).toNat)
      case atStart => exact ⟨0, Nat.zero_le _, rfl, by show _ = Value.int .i64 (S + 0); rw [Int.add_zero]⟩
      case round =>
        obtain ⟨k, hk, rfl, rfl⟩ := hrel
        have bd2 := sm_bd (r := c) (n := k) fun i hi => Hc.out i (by omega)
        obtain ⟨S2, hS2⟩ : ∃ S2, Mt.sm c k = S2 := ⟨_, rfl⟩
        rw [hS2] at bd2 ⊢
        have HS2 := Lib.hid hS2
        clear hS2
        by_cases hkn : k < nc
        · have hki : (k : Int) < (nc : Int) := by omega
          have q := wrap_in (q := (k : Int) + 1) (by omega) (by omega)
          obtain ⟨b, rfl, _, c0⟩ := HC.out k hkn
          have i1 := of_decide_eq_true (Hc.out k hkn)
          have q2 := wrap_in (q := S + S2 + c k) (by omega) (by omega)
          have HSM := Lib.hid (show S + Mt.sm c (k + 1) = S + S2 + c k by rw [← HS2.out, Int.add_assoc]; rfl)
          clear i1 bd bd2
          go_wp2_with fail
          go_round
          case rel => exact ⟨k + 1, hkn, by go_num, by rw [HSM.out]⟩
          case measure => simp [intOf]; omega
        · obtain rfl : k = nc := by omega
          have hki : ¬ (k : Int) < (k : Int) := by omega
          clear bd bd2
          go_wp2_with fail
          go_ret
          exact ⟨by rw [HS.out, HS2.out]; first | done | rfl, rfl⟩
set_option maxRecDepth 100000 in
set_option maxHeartbeats 4000000 in
theorem refValid_c (B m n : Nat) (A R C : Option Addr) (cm cr cc : Nat) (f : Nat → Nat → Int) (r c : Nat → Int) (w : World) (hm : m ≤ 1000) (hn : n ≤ 1000) (hT : Tb w B A m (fun _ => n) f) (hR : Rd w B R m r) (hC : Rd w B C n c)
    (hr : ∀ i, i < m → inP (r i) = true) (hc : ∀ k, k < n → inP (c k) = true) :
    Calls Try.prog 28 #[.slice A m cm, .slice R m cr, .slice C n cc] w (VdRes w m n f r c 1000000000000) := by
  have HT := Lib.hid hT
  have HR := Lib.hid hR
  have HC := Lib.hid hC
  have Hr := Lib.hid hr
  have Hc := Lib.hid hc
  clear hT hR hC hr hc
  go_enter Try.func28, Try.ntmps28
  go_wp2_with fail
  go_loopw [7] (fun i wr => ∃ k : Nat, k ≤ n ∧ i = .int .i64 (k : Int) ∧ (∀ j, j < k → c j ≤ 0) ∧ wr = w) (fun i _ => n - (intOf i).toNat)
  case atStart => exact ⟨0, Nat.zero_le _, rfl, fun j hj => by omega, rfl⟩
  case round =>
    obtain ⟨k, hk, rfl, hall, hwr⟩ := hrel
    subst wr
    have HA := Lib.hid hall
    clear hall
    by_cases hkn : k < n
    · have hki : (k : Int) < (n : Int) := by omega
      have q := wrap_in (q := (k : Int) + 1) (by omega) (by omega)
      obtain ⟨b, rfl, _, c0⟩ := HC.out k hkn
      by_cases h0 : 0 < c k
      · have HN := Lib.hid (show ¬ Vd m n f r c 1000000000000 from fun h => by have := h.1 k hkn; omega)
        go_wp2_with fail
        go_ret
        exact vd_no HN.out 0
      · go_wp2_with fail
        go_roundw
        case rel => exact ⟨k + 1, hkn, rfl, fun j hj => by
          by_cases e : j = k
          · subst e; omega
          · exact HA.out j (by omega), by first | rfl | trivial⟩
        case measure => simp [intOf]; omega
    · obtain rfl : k = n := by omega
      have hki : ¬ (k : Int) < (k : Int) := by omega
      go_wp2_with fail
      go_loopw [8, 9] (fun i _ wr => ∃ t : Nat, t ≤ m ∧ i = .int .i64 (t : Int) ∧ (∀ j, j < t → ∀ l, l < k → r j + c l ≤ f j l) ∧ ∃ d, wr = w.drewN d) (fun i _ _ => m - (intOf i).toNat)
      case atStart => exact ⟨0, Nat.zero_le _, rfl, fun j hj => by omega, 0, rfl⟩
      case round =>
        obtain ⟨t, ht, rfl, hall, d, hwr⟩ := hrel
        subst wr
        have HB := Lib.hid hall
        clear hall
        by_cases htm : t < m
        · have hti : (t : Int) < (m : Int) := by omega
          have q := wrap_in (q := (t : Int) + 1) (by omega) (by omega)
          obtain ⟨a, Ai, ci, rfl, _, c0, hRd⟩ := HT.out t htm
          obtain ⟨b, rfl, _, c1⟩ := HR.out t htm
          have HRd := Lib.hid hRd
          clear hRd
          go_wp2_with fail
          go_loopw [9] (fun i wr => ∃ s : Nat, s ≤ k ∧ i = .int .i64 (s : Int) ∧ (∀ l, l < s → r t + c l ≤ f t l) ∧ ∃ d, wr = w.drewN d) (fun i _ => k - (intOf i).toNat)
          case atStart => exact ⟨0, Nat.zero_le _, rfl, fun j hj => by omega, d, rfl⟩
          case round =>
            obtain ⟨s, hs, rfl, hall, d', hwr⟩ := hrel
            subst wr
            have HD := Lib.hid hall
            clear hall
            by_cases hsk : s < k
            · have hsi : (s : Int) < (k : Int) := by omega
              have q' := wrap_in (q := (s : Int) + 1) (by omega) (by omega)
              obtain ⟨b2, rfl, _, e0⟩ := HRd.out s hsk
              obtain ⟨b3, rfl, _, e1⟩ := HC.out s hsk
              have i1 := of_decide_eq_true (Hr.out t htm)
              have i2 := of_decide_eq_true (Hc.out s hsk)
              have q2 := wrap_in (q := r t + c s) (by omega) (by omega)
              by_cases hgt : f t s < r t + c s
              · have HN := Lib.hid (show ¬ Vd m k f r c 1000000000000 from fun h => by have := (h.2 t htm).2 s hsk; omega)
                clear i1 i2
                go_wp2_with fail
                go_quiet (fail)
                go_wp2_with fail
                go_ret
                rw [World.drewN_drewN]
                exact vd_no HN.out _
              · clear i1 i2
                go_wp2_with fail
                go_quiet (fail)
                go_wp2_with fail
                go_roundw
                case rel => exact ⟨s + 1, hsk, rfl, fun l hl => by
                  by_cases e : l = s
                  · subst e; omega
                  · exact HD.out l (by omega), _, by first | rfl | exact World.drewN_drewN ..⟩
                case measure => simp [intOf]; omega
            · obtain rfl : s = k := by omega
              have hsi : ¬ (s : Int) < (s : Int) := by omega
              go_wp2_with fail
              go_roundw
              case rel => exact ⟨t + 1, htm, rfl, fun j hj => by
                by_cases e : j = t
                · subst e; exact HD.out
                · exact HB.out j (by omega), d', rfl⟩
              case measure => simp [intOf]; omega
        · obtain rfl : t = m := by omega
          have hti : ¬ (t : Int) < (t : Int) := by omega
          have HV := Lib.hid (show Vd t k f r c 1000000000000 from ⟨HA.out, fun i hi => ⟨(of_decide_eq_true (Hr.out i hi)).2, HB.out i hi⟩⟩)
          go_wp2_with fail
          go_ret
          exact vd_yes HV.out d
end Go.Proofs.Ytojgfpnecdngfaa
