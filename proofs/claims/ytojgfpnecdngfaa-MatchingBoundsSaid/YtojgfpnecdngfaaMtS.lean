/- The law's small; the reference's Check. -/
import Derived.Test.YtojgfpnecdngfaaMtR
namespace Go.Proofs.Ytojgfpnecdngfaa
open Go Go.RowKit Go.Shelf

/-- Small costs. -/
def Sml (m : Nat) (L : Nat → Nat) : Prop := (∀ i, i < m → L i ≤ 6) ∧ m ≤ 5
def SmlPost (w : World) (m : Nat) (L : Nat → Nat) (e : Ending) (w' : World) : Prop := (∃ b : Bool, e = .returned (.bool b) ∧ (b = true ↔ Sml m L)) ∧ w = w'
theorem sml_no {w : World} {m : Nat} {L : Nat → Nat} (h : ¬ Sml m L) : SmlPost w m L (.returned (.bool false)) w := ⟨⟨false, rfl, ⟨(fun h' => by cases h'), fun h' => absurd h' h⟩⟩, rfl⟩
theorem sml_yes {w : World} {m : Nat} {L : Nat → Nat} (h : Sml m L) : SmlPost w m L (.returned (.bool true)) w := ⟨⟨true, rfl, ⟨fun _ => h, fun _ => rfl⟩⟩, rfl⟩
set_option maxHeartbeats 1000000 in
theorem small_c (B m : Nat) (A : Option Addr) (cm : Nat) (L : Nat → Nat) (f : Nat → Nat → Int) (w : World) (hm : m ≤ 9223372036854775807) (hT : Tb w B A m L f) :
    Calls Try.prog 13 #[.slice A m cm] w (SmlPost w m L) := by
  have HT := Lib.hid hT
  clear hT
  go_enter Try.func13, Try.ntmps13
  go_wp2_with fail
  go_loop [3] (fun i => ∃ k : Nat, k ≤ m ∧ i = .int .i64 (k : Int) ∧ ∀ j, j < k → L j ≤ 6) (fun i => m - (intOf i).toNat)
  case atStart => exact ⟨0, Nat.zero_le _, rfl, fun j hj => by omega⟩
  case round =>
    obtain ⟨k, hk, rfl, hall⟩ := hrel
    have HA := Lib.hid hall
    clear hall
    by_cases hkm : k < m
    · have hki : (k : Int) < (m : Int) := by omega
      have q := wrap_in (q := (k : Int) + 1) (by omega) (by omega)
      obtain ⟨a, Ai, ci, rfl, _, c0, _⟩ := HT.out k hkm
      by_cases h6 : 6 < L k
      · have h6i : (6 : Int) < ((L k : Nat) : Int) := by omega
        have HN := Lib.hid (show ¬ Sml m L from fun h => by have := h.1 k hkm; omega)
        go_wp2_with fail
        go_ret
        exact sml_no HN.out
      · have h6i : ¬ (6 : Int) < ((L k : Nat) : Int) := by omega
        have HK := Lib.hid (show L k ≤ 6 by omega)
        clear h6
        go_wp2_with fail
        go_round
        case rel => exact ⟨k + 1, hkm, by go_num, fun j hj => by
          by_cases e : j = k
          · subst e; exact HK.out
          · exact HA.out j (by omega)⟩
        case measure => simp [intOf]; omega
    · have hkm' : k = m := by omega
      have hki : ¬ (k : Int) < (m : Int) := by omega
      by_cases h5 : m ≤ 5
      · have h5i : (m : Int) ≤ 5 := by omega
        have HY := Lib.hid (show Sml m L from ⟨fun i hi => HA.out i (by omega), h5⟩)
        have hd : decide ((m : Int) ≤ 5) = true := decide_eq_true h5i
        clear hkm' hkm
        go_wp2_with fail
        go_ret
        have := sml_yes (w := w) HY.out
        simpa [h5i] using this
      · have h5i : ¬ (m : Int) ≤ 5 := by omega
        have HN := Lib.hid (show ¬ Sml m L from fun h => h5 h.2)
        have hd : decide ((m : Int) ≤ 5) = false := decide_eq_false h5i
        clear hkm' hkm
        go_wp2_with fail
        go_ret
        have := sml_no (w := w) HN.out
        simpa [h5i] using this

set_option maxRecDepth 100000 in
set_option maxHeartbeats 4000000 in
theorem refCheck_c (enough : Bool) (B m : Nat) (A : Option Addr) (cm : Nat) (L : Nat → Nat) (f : Nat → Nat → Int) (w : World) (hm : m ≤ 9223372036854775807) (hL : ∀ i, i < m → L i ≤ 9223372036854775807) (hT : Tb w B A m L f) :
    Calls Try.prog 14 #[.slice A m cm, .bool enough] w fun e w' => e = .returned (.int .i64 (chT enough m L f)) ∧ ∃ d, w' = w.drewN d := by
  have HT := Lib.hid hT
  have HL := Lib.hid hL
  clear hL hT
  obtain ⟨R, hRR⟩ : ∃ R, chT enough m L f = R := ⟨_, rfl⟩
  have h4 := Lib.hid (fun h => (hRR.symm.trans (chT_4 (enough := enough) (f := f) (L := L) (m := m) h)))
  have h5 := Lib.hid (fun h (i : Nat) (hi : i < m) h' => (hRR.symm.trans (chT_5 (enough := enough) (f := f) (L := L) (m := m) h hi h')))
  have h6 := Lib.hid (fun h h' h'' => (hRR.symm.trans (chT_6 (enough := enough) (f := f) (L := L) (m := m) h h' h'')))
  have h3 := Lib.hid (fun h h' h'' (i k : Nat) (hi : i < m) (hk : k < L i) h''' => (hRR.symm.trans (chT_3 (enough := enough) (f := f) (L := L) (m := m) h h' h'' hi hk h''')))
  have h0 := Lib.hid (fun h h' h'' h''' => (hRR.symm.trans (chT_0 (enough := enough) (f := f) (L := L) (m := m) h h' h'' h''')))
  rw [hRR]
  clear hRR
  by_cases c1 : 60 < m
  · have c1i : (60 : Int) < (m : Int) := by omega
    obtain rfl := h4.out (.inl c1)
    go_enter Try.func14, Try.ntmps14
    go_wp2
    go_ret
    exact ⟨rfl, 0, rfl⟩
  have c1i : ¬ (60 : Int) < (m : Int) := by omega
  by_cases hm0 : m = 0
  · have hz : R = 0 := h0.out (by unfold wid; rw [if_pos hm0]; omega) (fun i hi => by omega) (fun h => by have := h.2; omega) (fun i hi => by omega)
    subst hz
    have hi0 : ¬ (0 : Int) < (m : Int) := by omega
    cases enough
    all_goals
      go_enter Try.func14, Try.ntmps14
      go_wp2_with fail
      go_loop [5] (fun i => i = .int .i64 0) (fun i => 0)
      case atStart => rfl
      case round =>
        subst hrel
        go_wp2_with fail
        go_loop [6] (fun i => i = .int .i64 0) (fun i => 0)
        case atStart => rfl
        case round =>
          subst hrel
          go_wp2_with fail
          go_ret
          exact ⟨rfl, 0, rfl⟩
  have hi0 : (0 : Int) < (m : Int) := by omega
  have hwid : wid m L = L 0 := if_neg hm0
  rw [hwid] at h4 h5 h6 h3 h0
  obtain ⟨a, A0, ci0, rfl, _, k0, _⟩ := HT.out 0 (by omega)
  have k0' : w.cell? a = some (.slice A0 (L 0) ci0) := by simpa [Addr.add] using k0
  have hL0 := HL.out 0 (by omega)
  obtain ⟨W, hW⟩ : ∃ W, L 0 = W := ⟨_, rfl⟩
  rw [hW] at h4 h5 h6 h3 h0 k0 k0' hL0
  clear hwid hm0 hW
  by_cases c2 : 120 < W
  · have c2i : (120 : Int) < (W : Int) := by omega
    obtain rfl := h4.out (.inr c2)
    go_enter Try.func14, Try.ntmps14
    go_wp2
    go_ret
    exact ⟨rfl, 0, rfl⟩
  have c2i : ¬ (120 : Int) < (W : Int) := by omega
  have HC := Lib.hid (show ¬ (60 < m ∨ 120 < W) by omega)
  go_enter Try.func14, Try.ntmps14
  go_wp2_with fail
  go_loopw [5] (fun i wr => ∃ k : Nat, k ≤ m ∧ i = .int .i64 (k : Int) ∧ (∀ j, j < k → L j = W) ∧ ∃ d, wr = w.drewN d) (fun i _ => m - (intOf i).toNat)
  case atStart => exact ⟨0, Nat.zero_le _, rfl, fun j hj => by omega, 0, rfl⟩
  case round =>
    obtain ⟨k, hk, rfl, hall, d, hwr⟩ := hrel
    subst wr
    have HA := Lib.hid hall
    clear hall
    by_cases hkm : k < m
    · have hki : (k : Int) < (m : Int) := by omega
      have q := wrap_in (q := (k : Int) + 1) (by omega) (by omega)
      obtain ⟨a', Ai, ci, he, _, c0, _⟩ := HT.out k hkm
      obtain rfl : a = a' := by injection he
      clear he
      have hLk := HL.out k hkm
      by_cases hl : L k = W
      · have hb : (((L k : Nat) : Int) != ((W : Nat) : Int)) = false := by simp [hl]
        have HLK := Lib.hid hl
        clear hl
        go_wp2_with fail
        go_quiet (fail)
        go_wp2_with fail
        go_roundw
        case rel => exact ⟨k + 1, hkm, rfl, fun j hj => by
          by_cases e : j = k
          · subst e; exact HLK.out
          · exact HA.out j (by omega), _, by first | rfl | exact World.drewN_drewN ..⟩
        case measure => simp [intOf]; omega
      · have hb : (((L k : Nat) : Int) != ((W : Nat) : Int)) = true := by simp; omega
        obtain rfl := h5.out HC.out k hkm hl
        clear hl
        go_wp2_with fail
        go_quiet (fail)
        go_wp2_with fail
        go_ret
        exact ⟨rfl, _, by first | rfl | exact World.drewN_drewN ..⟩
    · obtain rfl : k = m := by omega
      have hki : ¬ (k : Int) < (k : Int) := by omega
      by_cases c6 : enough = true ∧ W < k
      · obtain ⟨rfl, hw⟩ := c6
        have hwi : (W : Int) < (k : Int) := by omega
        obtain rfl := h6.out HC.out HA.out ⟨rfl, hw⟩
        go_wp2_with fail
        go_ret
        exact ⟨rfl, d, rfl⟩
      have H6 := Lib.hid c6
      have hcase : enough = false ∨ (enough = true ∧ ¬ (W : Int) < (k : Int) ∧ decide (W < k) = false) := by
        cases enough
        · left; rfl
        · right; exact ⟨rfl, fun h => c6 ⟨rfl, by omega⟩, decide_eq_false fun h => c6 ⟨rfl, by omega⟩⟩
      clear c6
      rcases hcase with rfl | ⟨rfl, hwi, hwd⟩
      all_goals
        go_wp2_with fail
        go_loopw [6, 7] (fun i _ wr => ∃ t : Nat, t ≤ k ∧ i = .int .i64 (t : Int) ∧ (∀ j, j < t → ∀ l, l < L j → inR (f j l) = true) ∧ wr = w.drewN d) (fun i _ _ => k - (intOf i).toNat)
        case atStart => exact ⟨0, Nat.zero_le _, rfl, fun j hj => by omega, rfl⟩
        case round =>
          obtain ⟨t, ht, rfl, hall, hwr⟩ := hrel
          subst wr
          have HB := Lib.hid hall
          clear hall
          by_cases htk : t < k
          · have hti : (t : Int) < (k : Int) := by omega
            have q := wrap_in (q := (t : Int) + 1) (by omega) (by omega)
            obtain ⟨a', Ai, ci, he, _, c0, hRd⟩ := HT.out t htk
            obtain rfl : a = a' := by injection he
            clear he
            have HRd := Lib.hid hRd
            clear hRd
            have hLt := HL.out t htk
            go_wp2_with fail
            go_loopw [7] (fun i wr => ∃ s : Nat, s ≤ L t ∧ i = .int .i64 (s : Int) ∧ (∀ l, l < s → inR (f t l) = true) ∧ wr = w.drewN d) (fun i _ => L t - (intOf i).toNat)
            case atStart => exact ⟨0, Nat.zero_le _, rfl, fun j hj => by omega, rfl⟩
            case round =>
              obtain ⟨s, hs, rfl, hall, hwr⟩ := hrel
              subst wr
              have HD := Lib.hid hall
              clear hall
              by_cases hsk : s < L t
              · have hsi : (s : Int) < ((L t : Nat) : Int) := by omega
                have q' := wrap_in (q := (s : Int) + 1) (by omega) (by omega)
                obtain ⟨b2, rfl, _, e0⟩ := HRd.out s hsk
                by_cases r1 : f t s < -1000000000
                · obtain rfl := h3.out HC.out HA.out H6.out t s htk hsk (decide_eq_false fun h => by omega)
                  go_wp2_with fail
                  go_ret
                  exact ⟨rfl, d, rfl⟩
                · by_cases r2 : 1000000000 < f t s
                  · obtain rfl := h3.out HC.out HA.out H6.out t s htk hsk (decide_eq_false fun h => by omega)
                    go_wp2_with fail
                    go_ret
                    exact ⟨rfl, d, rfl⟩
                  · have HI := Lib.hid (show inR (f t s) = true from decide_eq_true ⟨by omega, by omega⟩)
                    go_wp2_with fail
                    go_roundw
                    case rel => exact ⟨s + 1, hsk, rfl, fun l hl => by
                      by_cases e : l = s
                      · subst e; exact HI.out
                      · exact HD.out l (by omega), by first | rfl | trivial⟩
                    case measure => simp [intOf]; omega
              · have hsi : ¬ (s : Int) < ((L t : Nat) : Int) := by omega
                have HS := Lib.hid (show ∀ l, l < L t → inR (f t l) = true from fun l hl => HD.out l (by omega))
                go_wp2_with fail
                go_roundw
                case rel => exact ⟨t + 1, htk, rfl, fun j hj => by
                  by_cases e : j = t
                  · subst e; exact HS.out
                  · exact HB.out j (by omega), by first | rfl | trivial⟩
                case measure => simp [intOf]; omega
          · obtain rfl : t = k := by omega
            have hti : ¬ (t : Int) < (t : Int) := by omega
            obtain rfl := h0.out HC.out HA.out H6.out HB.out
            go_wp2_with fail
            go_ret
            exact ⟨rfl, d, rfl⟩
end Go.Proofs.Ytojgfpnecdngfaa
