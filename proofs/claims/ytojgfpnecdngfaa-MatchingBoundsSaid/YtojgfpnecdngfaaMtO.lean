/- bound and Bound. -/
import Derived.Test.YtojgfpnecdngfaaMtN
namespace Go.Proofs.Ytojgfpnecdngfaa
open Go Go.RowKit Go.Shelf

def BdPost (w : World) (m n nr nc : Nat) (f : Nat → Nat → Int) (r c : Nat → Int) (most : Int) (e : Ending) (w' : World) : Prop := (∃ v x : Int, e = .returned (.tuple #[.int .i64 v, .int .i64 x]) ∧ BdRes m n nr nc f r c most v x) ∧ ∃ d, w' = w.drewN d
section
variable {w : World} {m n nr nc : Nat} {f : Nat → Nat → Int} {r c : Nat → Int} {most : Int}
theorem bd_5 (h : nr ≠ m ∨ nc ≠ n) : BdPost w m n nr nc f r c most (.returned (.tuple #[.int .i64 0, .int .i64 5])) w := by
  have e : szE m n nr nc r c = 5 := if_pos h
  exact ⟨⟨0, 5, rfl, .inl ⟨by rw [e]; decide, rfl, e.symm⟩⟩, 0, rfl⟩
theorem sz_3 (h : ¬ (nr ≠ m ∨ nc ≠ n)) (h3 : ¬ ((∀ i, i < nr → inP (r i) = true) ∧ ∀ k, k < nc → inP (c k) = true)) : szE m n nr nc r c = 3 := by
  unfold szE; rw [if_neg h, if_pos h3]
theorem sz_0 (h : ¬ (nr ≠ m ∨ nc ≠ n)) (h3 : (∀ i, i < nr → inP (r i) = true) ∧ ∀ k, k < nc → inP (c k) = true) : szE m n nr nc r c = 0 := by
  unfold szE; rw [if_neg h, if_neg (fun h' => h' h3)]
theorem bd_3r (h : ¬ (nr ≠ m ∨ nc ≠ n)) {i : Nat} (hi : i < nr) (hf : inP (r i) = false) : BdPost w m n nr nc f r c most (.returned (.tuple #[.int .i64 0, .int .i64 3])) w := by
  have e : szE m n nr nc r c = 3 := sz_3 h (fun h' => by have := h'.1 i hi; rw [hf] at this; cases this)
  exact ⟨⟨0, 3, rfl, .inl ⟨by rw [e]; decide, rfl, e.symm⟩⟩, 0, rfl⟩
theorem bd_3c (h : ¬ (nr ≠ m ∨ nc ≠ n)) {i : Nat} (hi : i < nc) (hf : inP (c i) = false) : BdPost w m n nr nc f r c most (.returned (.tuple #[.int .i64 0, .int .i64 3])) w := by
  have e : szE m n nr nc r c = 3 := sz_3 h (fun h' => by have := h'.2 i hi; rw [hf] at this; cases this)
  exact ⟨⟨0, 3, rfl, .inl ⟨by rw [e]; decide, rfl, e.symm⟩⟩, 0, rfl⟩
theorem bd_20 (h : ¬ (nr ≠ m ∨ nc ≠ n)) (h3 : (∀ i, i < nr → inP (r i) = true) ∧ ∀ k, k < nc → inP (c k) = true) (hv : ¬ Vd m n f r c most) (d : Nat) : BdPost w m n nr nc f r c most (.returned (.tuple #[.int .i64 0, .int .i64 20])) (w.drewN d) :=
  ⟨⟨0, 20, rfl, .inr (.inl ⟨sz_0 h h3, hv, rfl, rfl⟩)⟩, d, rfl⟩
theorem bd_0 (h : ¬ (nr ≠ m ∨ nc ≠ n)) (h3 : (∀ i, i < nr → inP (r i) = true) ∧ ∀ k, k < nc → inP (c k) = true) (hv : Vd m n f r c most) (d : Nat) : BdPost w m n nr nc f r c most (.returned (.tuple #[.int .i64 (Mt.sm r m + Mt.sm c n), .int .i64 0])) (w.drewN d) :=
  ⟨⟨_, 0, rfl, .inr (.inr ⟨sz_0 h h3, hv, rfl, rfl⟩)⟩, d, rfl⟩
end
theorem sm_bd {r : Nat → Int} : ∀ {n : Nat}, (∀ i, i < n → inP (r i) = true) → -(1000000000000 * (n : Int)) ≤ Mt.sm r n ∧ Mt.sm r n ≤ 1000000000000 * (n : Int)
  | 0, _ => by have e : Mt.sm r 0 = 0 := rfl
               rw [e]; simp
  | n + 1, h => by
    have h1 := sm_bd (n := n) fun i hi => h i (by omega)
    have h2 := of_decide_eq_true (h n (by omega))
    have e : Mt.sm r (n + 1) = Mt.sm r n + r n := rfl
    rw [e]; push_cast; omega

set_option maxRecDepth 100000 in
set_option maxHeartbeats 4000000 in
theorem bound_c (B m n nr nc : Nat) (A R C : Option Addr) (cm cr cc : Nat) (f : Nat → Nat → Int) (r c : Nat → Int) (most : Int) (w : World) (hm : m ≤ 1000) (hn : n ≤ 1000) (hmn : m = 0 → n = 0) (hnr : nr ≤ 9223372036854775807) (hnc : nc ≤ 9223372036854775807)
    (hT : Tb w B A m (fun _ => n) f) (hR : Rd w B R nr r) (hC : Rd w B C nc c) :
    Calls Try.prog 36 #[.slice A m cm, .slice R nr cr, .slice C nc cc, .int .i64 most] w (BdPost w m n nr nc f r c most) := by
  have hwid : wid m (fun _ => n) = n := by
    unfold wid
    by_cases h : m = 0
    · rw [if_pos h, hmn h]
    · rw [if_neg h]
  have WI := Lib.hid (width_c m B A cm (fun _ => n) f w (by omega) hT)
  rw [hwid] at WI
  have HT := Lib.hid hT
  have HR := Lib.hid hR
  have HC := Lib.hid hC
  clear hT hR hC hwid hmn
  by_cases hr : nr = m
  · by_cases hc : nc = n
    · have HNE := Lib.hid (show ¬ (nr ≠ m ∨ nc ≠ n) by omega)
      have b1 : (((nr : Nat) : Int) != ((m : Nat) : Int)) = false := by simp [hr]
      have b2 : (((nc : Nat) : Int) != ((n : Nat) : Int)) = false := by simp [hc]
      have hnr1 : nr ≤ 1000 := by omega
      have hnc1 : nc ≤ 1000 := by omega
      have HRC := Lib.hid (And.intro hr hc)
      have ix0 : ∀ W : World, (Instr.index 77 (.agg #[.slice R nr cr, .slice C nc cc]) (.int .i64 0)).run Try.prog W = .ok (.slice R nr cr) W := fun _ => by kernel_rfl
      have ix1 : ∀ W : World, (Instr.index 77 (.agg #[.slice R nr cr, .slice C nc cc]) (.int .i64 1)).run Try.prog W = .ok (.slice C nc cc) W := fun _ => by kernel_rfl
      clear hr hc
      go_enter Try.func36, Try.ntmps36
      go_wp2_with fail
      refine WI.out.mono ?_
      rintro e w' ⟨rfl, rfl⟩
      go_wp2_with fail
      go_loopw [10, 30] (fun s i wr => wr = w ∧ ((s = .int .i64 0 ∧ i = .int .i64 0) ∨ (s = .int .i64 (Mt.sm r nr) ∧ i = .int .i64 1 ∧ (∀ j, j < nr → inP (r j) = true)) ∨ (s = .int .i64 (Mt.sm r nr + Mt.sm c nc) ∧ i = .int .i64 2 ∧ (∀ j, j < nr → inP (r j) = true) ∧ (∀ j, j < nc → inP (c j) = true)))) (fun _ i _ => (2 - intOf i).toNat)
      case atStart => exact ⟨by first | rfl | trivial, .inl ⟨rfl, rfl⟩⟩
      case round =>
        obtain ⟨hwr, hcase⟩ := hrel
        subst wr
        rcases hcase with ⟨rfl, rfl⟩ | ⟨rfl, rfl, hir⟩ | ⟨rfl, rfl, hir, hic⟩
        · have tok := True.intro
          obtain ⟨wo, hwo⟩ : ∃ wo, wo = w := ⟨_, rfl⟩
          subst hwo
          go_wp2_with fail
          go_loopw [10, 35] (fun s i wr => ∃ k : Nat, k ≤ nr ∧ i = .int .i64 (k : Int) ∧ s = .int .i64 (Mt.sm r k) ∧ (∀ j, j < k → inP (r j) = true) ∧ wr = wo) (fun _ i _ => nr - (intOf i).toNat)
          case atStart => exact ⟨0, Nat.zero_le _, rfl, rfl, fun j hj => by omega, by first | rfl | trivial⟩
          case round =>
            obtain ⟨k, hk, rfl, rfl, hall, hwr⟩ := hrel
            subst wr
            have HA := Lib.hid hall
            have hsb := sm_bd hall
            clear hall
            by_cases hkn : k < nr
            · have hki : (k : Int) < (nr : Int) := by omega
              have q := wrap_in (q := (k : Int) + 1) (by omega) (by omega)
              obtain ⟨b, hbe, _, c0⟩ := HR.out k hkn
              have HBE := Lib.hid hbe
              subst hbe
              have WT := Lib.hid (fun W => within_c (r k) 1000000000000 (by omega) W)
              cases hin : inP (r k)
              · have hin' : decide (-1000000000000 ≤ r k ∧ r k ≤ 1000000000000) = false := hin
                rw [hin'] at WT
                have HE := Lib.hid hin
                clear hin hin' hsb
                go_wp2_with fail
                refine (WT.out _).mono ?_
                rintro e w' ⟨rfl, rfl⟩
                go_wp2_with fail
                go_ret2
                exact bd_3r HNE.out hkn HE.out
              · have hin' : decide (-1000000000000 ≤ r k ∧ r k ≤ 1000000000000) = true := hin
                have hb := of_decide_eq_true hin'
                rw [hin'] at WT
                have HE := Lib.hid hin
                have q2 := wrap_in (q := Mt.sm r k + r k) (by omega) (by omega)
                have e2 : Mt.sm r (k + 1) = Mt.sm r k + r k := rfl
                have E2 := Lib.hid e2
                clear hin hin' hsb hb e2
                go_wp2_with fail
                refine (WT.out _).mono ?_
                rintro e w' ⟨rfl, rfl⟩
                go_wp2_with fail
                go_roundw
                case rel => exact ⟨k + 1, hkn, rfl, by rw [E2.out], fun j hj => by
                  by_cases e : j = k
                  · subst e; exact HE.out
                  · exact HA.out j (by omega), by first | rfl | trivial⟩
                case measure => simp [intOf]; omega
            · obtain ⟨kk, hkk⟩ : ∃ kk, kk = k := ⟨_, rfl⟩
              have hke : k = nr := by omega
              have hki : ¬ (k : Int) < (nr : Int) := by omega
              have HKE := Lib.hid hke
              clear hke hkk hsb
              go_wp2_with fail
              go_roundw
              case rel => exact ⟨by first | rfl | trivial, .inr (.inl ⟨by rw [← HKE.out], rfl, fun j hj => HA.out j (by rw [HKE.out]; exact hj)⟩)⟩
              case measure => simp [intOf]
        · have HIR := Lib.hid hir
          have hsr := sm_bd hir
          clear hir
          obtain ⟨wo, hwo⟩ : ∃ wo, wo = w := ⟨_, rfl⟩
          subst hwo
          go_wp2_with fail
          go_loopw [10, 35] (fun s i wr => ∃ k : Nat, k ≤ nc ∧ i = .int .i64 (k : Int) ∧ s = .int .i64 (Mt.sm r nr + Mt.sm c k) ∧ (∀ j, j < k → inP (c j) = true) ∧ wr = wo) (fun _ i _ => nc - (intOf i).toNat)
          case atStart => exact ⟨0, Nat.zero_le _, rfl, by show _ = Value.int .i64 (Mt.sm r nr + 0); rw [Int.add_zero], fun j hj => by omega, by first | rfl | trivial⟩
          case round =>
            obtain ⟨k, hk, rfl, rfl, hall, hwr⟩ := hrel
            subst wr
            have HA := Lib.hid hall
            have hsb := sm_bd hall
            clear hall
            by_cases hkn : k < nc
            · have hki : (k : Int) < (nc : Int) := by omega
              have q := wrap_in (q := (k : Int) + 1) (by omega) (by omega)
              obtain ⟨b, hbe, _, c0⟩ := HC.out k hkn
              have HBE := Lib.hid hbe
              subst hbe
              have WT := Lib.hid (fun W => within_c (c k) 1000000000000 (by omega) W)
              cases hin : inP (c k)
              · have hin' : decide (-1000000000000 ≤ c k ∧ c k ≤ 1000000000000) = false := hin
                rw [hin'] at WT
                have HE := Lib.hid hin
                clear hin hin' hsb
                go_wp2_with fail
                refine (WT.out _).mono ?_
                rintro e w' ⟨rfl, rfl⟩
                go_wp2_with fail
                go_ret2
                exact bd_3c HNE.out hkn HE.out
              · have hin' : decide (-1000000000000 ≤ c k ∧ c k ≤ 1000000000000) = true := hin
                have hb := of_decide_eq_true hin'
                rw [hin'] at WT
                have HE := Lib.hid hin
                have q2 := wrap_in (q := Mt.sm r nr + Mt.sm c k + c k) (by omega) (by omega)
                have e2 : Mt.sm c (k + 1) = Mt.sm c k + c k := rfl
                have E2 := Lib.hid e2
                clear hin hin' hsb hb e2
                go_wp2_with fail
                refine (WT.out _).mono ?_
                rintro e w' ⟨rfl, rfl⟩
                go_wp2_with fail
                go_roundw
                case rel => exact ⟨k + 1, hkn, rfl, by rw [E2.out, ← Int.add_assoc], fun j hj => by
                  by_cases e : j = k
                  · subst e; exact HE.out
                  · exact HA.out j (by omega), by first | rfl | trivial⟩
                case measure => simp [intOf]; omega
            · obtain ⟨kk, hkk⟩ : ∃ kk, kk = k := ⟨_, rfl⟩
              have hke : k = nc := by omega
              have hki : ¬ (k : Int) < (nc : Int) := by omega
              have HKE := Lib.hid hke
              clear hke hkk hsb
              go_wp2_with fail
              go_roundw
              case rel => exact ⟨by first | rfl | trivial, .inr (.inr ⟨by rw [← HKE.out], rfl, HIR.out, fun j hj => HA.out j (by rw [HKE.out]; exact hj)⟩)⟩
              case measure => simp [intOf]
        · obtain ⟨e1, e2⟩ := HRC.out
          have VA := Lib.hid (valid_c B m n A R C cm cr cc f r c most w hm hn HT.out (by rw [← e1]; exact HR.out) (by rw [← e2]; exact HC.out) (by rw [← e1]; exact hir) (by rw [← e2]; exact hic))
          have VA2 : Hid (Calls Try.prog 48 #[.slice A m cm, .slice R nr cr, .slice C nc cc, .int .i64 most] w (VdRes w m n f r c most)) := by rw [e1, e2]; exact VA.out
          have H3 := Lib.hid (And.intro hir hic)
          have E12 := Lib.hid (And.intro e1 e2)
          clear e1 e2 VA hir hic
          go_wp2_with fail
          refine VA2.out.mono ?_
          rintro e w' ⟨⟨b, rfl, hb⟩, d, rfl⟩
          cases b
          · have HV := Lib.hid (show ¬ Vd m n f r c most from fun h => by have := hb.2 h; cases this)
            clear hb
            go_wp2_with fail
            go_ret2
            exact bd_20 HNE.out H3.out HV.out d
          · have HV := Lib.hid (hb.1 rfl)
            clear hb
            go_wp2_with fail
            go_ret2
            have := bd_0 (w := w) HNE.out H3.out HV.out d
            rw [← E12.out.1, ← E12.out.2] at this ⊢
            exact this
    · have b1 : (((nr : Nat) : Int) != ((m : Nat) : Int)) = false := by simp [hr]
      have b2 : (((nc : Nat) : Int) != ((n : Nat) : Int)) = true := by simp; omega
      have HNE := Lib.hid (show (nr ≠ m ∨ nc ≠ n) by omega)
      clear hr hc
      go_enter Try.func36, Try.ntmps36
      go_wp2_with fail
      refine WI.out.mono ?_
      rintro e w' ⟨rfl, rfl⟩
      go_wp2_with fail
      go_ret2
      exact bd_5 HNE.out
  · have b1 : (((nr : Nat) : Int) != ((m : Nat) : Int)) = true := by simp; omega
    have HNE := Lib.hid (show (nr ≠ m ∨ nc ≠ n) by omega)
    clear hr
    go_enter Try.func36, Try.ntmps36
    go_wp2_with fail
    go_ret2
    exact bd_5 HNE.out
end Go.Proofs.Ytojgfpnecdngfaa
