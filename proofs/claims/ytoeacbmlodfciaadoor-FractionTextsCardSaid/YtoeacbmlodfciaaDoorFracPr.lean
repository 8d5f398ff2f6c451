/- The reference's number: the digits at the beginning of a text, and what they write. -/
import Derived.Test.YtoeacbmlodfciaaDoorFracPc
namespace Go.Proofs.YtoeacbmlodfciaaDoor
open Go Go.RowKit Go.Shelf

theorem ret_two {k k' : IntKind} {a b a' b' : Int} (h1 : a = a') (h2 : b = b') : Ending.returned (.tuple #[.int k a, .int k' b]) = .returned (.tuple #[.int k a', .int k' b']) := by rw [h1, h2]
theorem take_while_eq {l : List UInt8} {k : Nat} (hk : k ≤ l.length) (ha : (l.take k).all FracMath.isD = true) (hn : ∀ h : k < l.length, FracMath.isD l[k] = false) : l.takeWhile FracMath.isD = l.take k := by
  induction l generalizing k with
  | nil => simp
  | cons x r ih =>
    cases k with
    | zero =>
      have := hn (by simp)
      simp at this
      simp [List.takeWhile, this]
    | succ k =>
      simp only [List.take_succ_cons, List.all_cons, Bool.and_eq_true] at ha
      rw [List.takeWhile_cons, if_pos ha.1, List.take_succ_cons]
      congr 1
      exact ih (by simpa using hk) ha.2 (fun h => by have := hn (by simpa using h); simpa using this)

set_option maxHeartbeats 2000000 in
theorem number_any (s : ByteArray) (hs : s.size ≤ 1048576) (w : World) :
    Calls Tryd.prog 50 #[.string s] w fun e w' => e = .returned (.tuple #[.int .i64 ((s.data.toList.takeWhile FracMath.isD).length : Nat), .int .i64 (FracMath.valD (s.data.toList.takeWhile FracMath.isD) : Nat)]) ∧ ∃ n, w' = w.drewN n := by
  have hsl := size_list s
  have HSL := Lib.hid hsl
  obtain ⟨R, hR⟩ : ∃ R, s.data.toList.takeWhile FracMath.isD = R := ⟨_, rfl⟩
  have HR := Lib.hid hR
  rw [hR]
  clear hR hsl
  go_enter Tryd.func50, Tryd.ntmps50
  go_wp2_with fail
  go_loopw [2, 3] (fun i v wr => ∃ k : Nat, k ≤ s.size ∧ i = .int .i64 (k : Int) ∧ v = .int .i64 (FracMath.valD (s.data.toList.take k) : Nat) ∧ (s.data.toList.take k).all FracMath.isD = true ∧ ∃ n, wr = w.drewN n) (fun i _ _ => s.size - (intOf i).toNat)
  case atStart => exact ⟨0, Nat.zero_le _, rfl, rfl, rfl, 0, rfl⟩
  case round =>
    obtain ⟨k, hk, rfl, rfl, ha, n, rfl⟩ := hrel
    have HA := Lib.hid ha
    clear ha
    by_cases h1 : k < s.size
    · have hkl : k < s.data.toList.length := by rw [HSL.out]; exact h1
      have h1i : (k : Int) < (s.size : Int) := by omega
      have hg := getElem_list s k h1 hkl
      have HG := Lib.hid hg
      clear hg
      by_cases c1 : (48 : Int) ≤ (s[k].toNat : Int)
      · have k1 : decide ((48 : Int) ≤ (s[k].toNat : Int)) = true := by simpa using c1
        by_cases c2 : (s[k].toNat : Int) ≤ 57
        · have k2 : decide ((s[k].toNat : Int) ≤ 57) = true := by simpa using c2
          have hd : FracMath.isD s[k] = true := by unfold FracMath.isD; simp; omega
          have hn := take_all hkl HA.out (by rw [HG.out]; exact hd)
          have HN := Lib.hid hn
          have hv : FracMath.valD (s.data.toList.take (k + 1)) = FracMath.valStep (FracMath.valD (s.data.toList.take k)) s[k] := by
            rw [List.take_succ_eq_append_getElem hkl, FracMath.valD_snoc, HG.out]
          have HV := Lib.hid hv
          have hle := FracMath.valD_le (s.data.toList.take k)
          clear hn hd hv
          generalize FracMath.valD (s.data.toList.take k) = v at *
          go_wp2
          go_roundw
          case rel => exact ⟨k + 1, by omega, by go_num, by rw [HV.out]; unfold FracMath.valStep; congr 1; omega, HN.out, n, rfl⟩
          case measure => simp [intOf]; omega
        · have k2 : decide ((s[k].toNat : Int) ≤ 57) = false := by simpa using c2
          have hr : R = s.data.toList.take k := by
            rw [← HR.out]
            exact take_while_eq (by rw [HSL.out]; exact hk) HA.out (fun _ => by rw [HG.out]; unfold FracMath.isD; simp; omega)
          have HRR := Lib.hid hr
          have HL := Lib.hid (show R.length = k by rw [hr, List.length_take, HSL.out]; omega)
          clear hr
          go_wp2
          go_ret2
          exact ⟨ret_two (by rw [HL.out]) (by rw [HRR.out]), n, rfl⟩
      · have k1 : decide ((48 : Int) ≤ (s[k].toNat : Int)) = false := by simpa using c1
        have hr : R = s.data.toList.take k := by
          rw [← HR.out]
          exact take_while_eq (by rw [HSL.out]; exact hk) HA.out (fun _ => by rw [HG.out]; unfold FracMath.isD; simp; omega)
        have HRR := Lib.hid hr
        have HL := Lib.hid (show R.length = k by rw [hr, List.length_take, HSL.out]; omega)
        clear hr
        go_wp2
        go_ret2
        exact ⟨ret_two (by rw [HL.out]) (by rw [HRR.out]), n, rfl⟩
    · have k0 : decide ((k : Int) < (s.size : Int)) = false := by simp; omega
      have k00 : decide (k < s.size) = false := by simp; omega
      have hr : R = s.data.toList.take k := by
        rw [← HR.out]
        exact take_while_eq (by rw [HSL.out]; exact hk) HA.out (fun h => by rw [HSL.out] at h; omega)
      have HRR := Lib.hid hr
      have HL := Lib.hid (show R.length = k by rw [hr, List.length_take, HSL.out]; omega)
      clear hr
      go_wp2
      go_ret2
      exact ⟨ret_two (by rw [HL.out]) (by rw [HRR.out]), n, rfl⟩
end Go.Proofs.YtoeacbmlodfciaaDoor
