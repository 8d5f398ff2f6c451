/- Bounds of potentials: valid, bound, Bound. -/
import Derived.Test.YtojgfpnecdngfaaMtL
namespace Go.Proofs.Ytojgfpnecdngfaa
open Go Go.RowKit Go.Shelf

/-- A potential in range. -/
def inP (x : Int) : Bool := decide (-1000000000000 ≤ x ∧ x ≤ 1000000000000)
/-- Valid potentials. -/
def Vd (m n : Nat) (f : Nat → Nat → Int) (r c : Nat → Int) (most : Int) : Prop := (∀ k, k < n → c k ≤ 0) ∧ ∀ i, i < m → r i ≤ most ∧ ∀ k, k < n → r i + c k ≤ f i k
/-- The error of the sizes of potentials. -/
def szE (m n nr nc : Nat) (r c : Nat → Int) : Int := if nr ≠ m ∨ nc ≠ n then 5 else if ¬ ((∀ i, i < nr → inP (r i) = true) ∧ ∀ k, k < nc → inP (c k) = true) then 3 else 0
/-- What bound returns. -/
def BdRes (m n nr nc : Nat) (f : Nat → Nat → Int) (r c : Nat → Int) (most : Int) (v e : Int) : Prop :=
  (szE m n nr nc r c ≠ 0 ∧ v = 0 ∧ e = szE m n nr nc r c) ∨ (szE m n nr nc r c = 0 ∧ ¬ Vd m n f r c most ∧ v = 0 ∧ e = 20) ∨ (szE m n nr nc r c = 0 ∧ Vd m n f r c most ∧ v = Mt.sm r m + Mt.sm c n ∧ e = 0)

def VdRes (w : World) (m n : Nat) (f : Nat → Nat → Int) (r c : Nat → Int) (most : Int) (e : Ending) (w' : World) : Prop := (∃ b : Bool, e = .returned (.bool b) ∧ (b = true ↔ Vd m n f r c most)) ∧ ∃ d, w' = w.drewN d
theorem vd_no {w : World} {m n : Nat} {f : Nat → Nat → Int} {r c : Nat → Int} {most : Int} (h : ¬ Vd m n f r c most) (d : Nat) : VdRes w m n f r c most (.returned (.bool false)) (w.drewN d) := ⟨⟨false, rfl, ⟨(fun h' => by cases h'), fun h' => absurd h' h⟩⟩, d, rfl⟩
theorem vd_yes {w : World} {m n : Nat} {f : Nat → Nat → Int} {r c : Nat → Int} {most : Int} (h : Vd m n f r c most) (d : Nat) : VdRes w m n f r c most (.returned (.bool true)) (w.drewN d) := ⟨⟨true, rfl, ⟨fun _ => h, fun _ => rfl⟩⟩, d, rfl⟩
set_option maxRecDepth 100000 in
set_option maxHeartbeats 4000000 in
theorem valid_c (B m n : Nat) (A R C : Option Addr) (cm cr cc : Nat) (f : Nat → Nat → Int) (r c : Nat → Int) (most : Int) (w : World) (hm : m ≤ 1000) (hn : n ≤ 1000) (hT : Tb w B A m (fun _ => n) f) (hR : Rd w B R m r) (hC : Rd w B C n c)
    (hr : ∀ i, i < m → inP (r i) = true) (hc : ∀ k, k < n → inP (c k) = true) :
    Calls Try.prog 48 #[.slice A m cm, .slice R m cr, .slice C n cc, .int .i64 most] w (VdRes w m n f r c most) := by
  have HT := Lib.hid hT
  have HR := Lib.hid hR
  have HC := Lib.hid hC
  have Hr := Lib.hid hr
  have Hc := Lib.hid hc
  clear hT hR hC hr hc
  go_enter Try.func48, Try.ntmps48
  go_wp2_with fail
  go_loopw [17] (fun i wr => ∃ k : Nat, k ≤ n ∧ i = .int .i64 (k : Int) ∧ (∀ j, j < k → c j ≤ 0) ∧ wr = w) (fun i _ => n - (intOf i).toNat)
  case atStart => exact ⟨0, Nat.zero_le _, rfl, fun j hj => by omega, rfl⟩
  case round =>
    obtain ⟨k, hk, rfl, hall, hwr⟩ := hrel
    subst wr
    have HA := Lib.hid hall
    clear hall
    by_cases hkn : k < n
    · have hki : (k : Int) < (n : Int) := by omega
      have q := wrap_in (q := (k : Int) + 1) (by omega) (by omega)
      obtain ⟨b, rfl, _, c0⟩ := HC.out k hkn
      by_cases h0 : 0 < c k
      · have HN := Lib.hid (show ¬ Vd m n f r c most from fun h => by have := h.1 k hkn; omega)
        go_wp2_with fail
        go_ret
        exact vd_no HN.out 0
      · go_wp2_with fail
        go_roundw
        case rel => exact ⟨k + 1, hkn, rfl, fun j hj => by
          by_cases e : j = k
          · subst e; omega
          · exact HA.out j (by omega), by first | rfl | trivial⟩
        case measure => simp [intOf]; omega
    · obtain rfl : k = n := by omega
      have hki : ¬ (k : Int) < (k : Int) := by omega
      go_wp2_with fail
      go_loopw [26] (fun i wr => ∃ t : Nat, t ≤ m ∧ i = .int .i64 (t : Int) ∧ (∀ j, j < t → r j ≤ most ∧ ∀ l, l < k → r j + c l ≤ f j l) ∧ ∃ d, wr = w.drewN d) (fun i _ => m - (intOf i).toNat)
      case atStart => exact ⟨0, Nat.zero_le _, rfl, fun j hj => by omega, 0, rfl⟩
      case round =>
        obtain ⟨t, ht, rfl, hall, d, hwr⟩ := hrel
        subst wr
        have HB := Lib.hid hall
        clear hall
        by_cases htm : t < m
        · have hti : (t : Int) < (m : Int) := by omega
          have q := wrap_in (q := (t : Int) + 1) (by omega) (by omega)
          obtain ⟨a, Ai, ci, rfl, _, c0, hRd⟩ := HT.out t htm
          obtain ⟨b, rfl, _, c1⟩ := HR.out t htm
          have HRd := Lib.hid hRd
          clear hRd
          by_cases hmost : most < r t
          · have HN := Lib.hid (show ¬ Vd m k f r c most from fun h => by have := (h.2 t htm).1; omega)
            go_wp2_with fail
            go_ret
            exact vd_no HN.out d
          · obtain ⟨wo, hwo⟩ : ∃ wo, wo = w.drewN d := ⟨_, rfl⟩
            go_wp2_with fail
            go_loopw [39] (fun i wr => ∃ s : Nat, s ≤ k ∧ i = .int .i64 (s : Int) ∧ (∀ l, l < s → r t + c l ≤ f t l) ∧ ∃ d, wr = w.drewN d) (fun i _ => k - (intOf i).toNat)
            case atStart => exact ⟨0, Nat.zero_le _, rfl, fun j hj => by omega, d, rfl⟩
            case round =>
              obtain ⟨s, hs, rfl, hall, d', hwr⟩ := hrel
              subst wr
              have HD := Lib.hid hall
              clear hall hwo
              by_cases hsk : s < k
              · have hsi : (s : Int) < (k : Int) := by omega
                have q' := wrap_in (q := (s : Int) + 1) (by omega) (by omega)
                obtain ⟨b2, rfl, _, e0⟩ := HRd.out s hsk
                obtain ⟨b3, rfl, _, e1⟩ := HC.out s hsk
                have i1 := of_decide_eq_true (Hr.out t htm)
                have i2 := of_decide_eq_true (Hc.out s hsk)
                have q2 := wrap_in (q := r t + c s) (by omega) (by omega)
                by_cases hgt : f t s < r t + c s
                · have HN := Lib.hid (show ¬ Vd m k f r c most from fun h => by have := (h.2 t htm).2 s hsk; omega)
                  clear i1 i2
                  go_wp2_with fail
                  go_quiet (fail)
                  go_wp2_with fail
                  go_ret
                  rw [World.drewN_drewN]
                  exact vd_no HN.out _
                · clear i1 i2
                  go_wp2_with fail
                  go_quiet (fail)
                  go_wp2_with fail
                  go_roundw
                  case rel => exact ⟨s + 1, hsk, rfl, fun l hl => by
                    by_cases e : l = s
                    · subst e; omega
                    · exact HD.out l (by omega), _, by first | rfl | exact World.drewN_drewN ..⟩
                  case measure => simp [intOf]; omega
              · obtain rfl : s = k := by omega
                have hsi : ¬ (s : Int) < (s : Int) := by omega
                go_wp2_with fail
                go_roundw
                case rel => exact ⟨t + 1, htm, rfl, fun j hj => by
                  by_cases e : j = t
                  · subst e; exact ⟨by omega, HD.out⟩
                  · exact HB.out j (by omega), d', rfl⟩
                case measure => simp [intOf]; omega
        · obtain rfl : t = m := by omega
          have hti : ¬ (t : Int) < (t : Int) := by omega
          have HV := Lib.hid (show Vd t k f r c most from ⟨HA.out, HB.out⟩)
          go_wp2_with fail
          go_ret
          exact vd_yes HV.out d
end Go.Proofs.Ytojgfpnecdngfaa
