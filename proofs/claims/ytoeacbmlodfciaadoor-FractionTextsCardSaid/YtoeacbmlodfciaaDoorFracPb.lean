/- Contracts of decimal, value and parts. -/
import Derived.Test.YtoeacbmlodfciaaDoorFracPa
namespace Go.Proofs.YtoeacbmlodfciaaDoor
open Go Go.RowKit Go.Shelf

theorem ret_bool {a b : Bool} (h : a = b) : Ending.returned (.bool a) = .returned (.bool b) := by rw [h]
theorem getElem_list (s : ByteArray) (k : Nat) (_h : k < s.size) (h' : k < s.data.toList.length) : s.data.toList[k] = s[k] := by simp; rfl

theorem all_false {l : List UInt8} {k : Nat} (h : k < l.length) (hd : FracMath.isD l[k] = false) : l.all FracMath.isD = false := by
  cases hl : l.all FracMath.isD with
  | false => rfl
  | true => rw [List.all_eq_true.1 hl _ (List.getElem_mem h)] at hd; cases hd
theorem take_all {l : List UInt8} {k : Nat} (h : k < l.length) (ha : (l.take k).all FracMath.isD = true) (hd : FracMath.isD l[k] = true) : (l.take (k + 1)).all FracMath.isD = true := by
  rw [List.take_succ_eq_append_getElem h, List.all_append, ha]; simp [hd]

set_option maxHeartbeats 1000000 in
theorem decimal_any (s : ByteArray) (hs : s.size ≤ 1048576) (w : World) :
    Calls Tryd.prog 47 #[.string s] w fun e w' => e = .returned (.bool (FracMath.allD s.data.toList)) ∧ w = w' := by
  have hsl := size_list s
  have HSL := Lib.hid hsl
  obtain ⟨R, hR⟩ : ∃ R, FracMath.allD s.data.toList = R := ⟨_, rfl⟩
  have HR := Lib.hid hR
  rw [hR]
  clear hR hsl
  go_enter Tryd.func47, Tryd.ntmps47
  go_wp2_with fail
  go_loop [6] (fun i => ∃ k : Nat, k ≤ s.size ∧ i = .int .i64 (k : Int) ∧ (s.data.toList.take k).all FracMath.isD = true) (fun i => s.size - (intOf i).toNat)
  case atStart => exact ⟨0, Nat.zero_le _, rfl, rfl⟩
  case round =>
    obtain ⟨k, hk, rfl, ha⟩ := hrel
    have HA := Lib.hid ha
    clear ha
    by_cases h1 : k < s.size
    · have hkl : k < s.data.toList.length := by rw [HSL.out]; exact h1
      have hg := getElem_list s k h1 hkl
      have HG := Lib.hid hg
      clear hg
      by_cases c1 : (s[k].toNat : Int) < 48
      · have hr : R = false := by
          rw [← HR.out]; unfold FracMath.allD
          rw [all_false hkl (by rw [HG.out]; unfold FracMath.isD; rw [show decide (48 ≤ s[k].toNat) = false by simp; omega]; rfl)]; simp
        subst hr
        have k1 : decide ((s[k].toNat : Int) < 48) = true := by simpa using c1
        go_wp2
        go_ret
        exact ⟨rfl, rfl⟩
      · have k1 : decide ((s[k].toNat : Int) < 48) = false := by simpa using c1
        by_cases c2 : (57 : Int) < (s[k].toNat : Int)
        · have hr : R = false := by
            rw [← HR.out]; unfold FracMath.allD
            rw [all_false hkl (by rw [HG.out]; unfold FracMath.isD; rw [show decide (s[k].toNat ≤ 57) = false by simp; omega]; simp)]; simp
          subst hr
          go_wp2
          go_ret
          exact ⟨rfl, rfl⟩
        · have hn := take_all hkl HA.out (by rw [HG.out]; unfold FracMath.isD; simp; omega)
          have HN := Lib.hid hn
          clear hn
          go_wp2
          go_round
          case rel => exact ⟨k + 1, by omega, by go_num, HN.out⟩
          case measure => simp [intOf]; omega
    · obtain rfl : k = s.size := by omega
      have ha := HA.out
      rw [List.take_of_length_le (by rw [HSL.out]; exact Nat.le_refl _)] at ha
      have hr : (!s.toList.isEmpty) = R := by rw [← HR.out]; unfold FracMath.allD; rw [ha, Lib.toList_data]; simp
      have HRR := Lib.hid hr
      clear ha hr
      go_wp2
      go_ret
      exact ⟨ret_bool HRR.out, rfl⟩

set_option maxHeartbeats 1000000 in
theorem value_any (s : ByteArray) (hs : s.size ≤ 1048576) (ha : s.data.toList.all FracMath.isD = true) (w : World) :
    Calls Tryd.prog 48 #[.string s] w fun e w' => e = .returned (.int .i64 (FracMath.valD s.data.toList : Nat)) ∧ w = w' := by
  have hsl := size_list s
  have HSL := Lib.hid hsl
  have HA := Lib.hid ha
  clear ha hsl
  go_enter Tryd.func48, Tryd.ntmps48
  go_wp2_with fail
  go_loop [3, 7] (fun n i => ∃ k : Nat, k ≤ s.size ∧ i = .int .i64 (k : Int) ∧ n = .int .i64 (FracMath.valD (s.data.toList.take k) : Nat)) (fun _ i => s.size - (intOf i).toNat)
  case atStart => exact ⟨0, Nat.zero_le _, rfl, rfl⟩
  case round =>
    obtain ⟨k, hk, rfl, rfl⟩ := hrel
    by_cases h1 : k < s.size
    · have hkl : k < s.data.toList.length := by rw [HSL.out]; exact h1
      have hd : FracMath.isD s[k] = true := by rw [← getElem_list s k h1 hkl]; exact List.all_eq_true.1 HA.out _ (List.getElem_mem hkl)
      have hd2 : 48 ≤ s[k].toNat ∧ s[k].toNat ≤ 57 := by simpa [FracMath.isD] using hd
      obtain ⟨d1, d2⟩ := hd2
      have hn : FracMath.valD (s.data.toList.take (k + 1)) = FracMath.valStep (FracMath.valD (s.data.toList.take k)) s[k] := by
        rw [List.take_succ_eq_append_getElem hkl, FracMath.valD_snoc, getElem_list s k h1 hkl]
      have HN := Lib.hid hn
      have hle := FracMath.valD_le (s.data.toList.take k)
      clear hn hd
      generalize FracMath.valD (s.data.toList.take k) = v at *
      go_wp2
      go_round
      case rel => exact ⟨k + 1, by omega, by go_num, by rw [HN.out]; unfold FracMath.valStep; congr 1; omega⟩
      case measure => simp [intOf]; omega
    · obtain rfl : k = s.size := by omega
      go_wp2
      go_ret
      exact ⟨ret_int (by rw [List.take_of_length_le (by rw [HSL.out]; exact Nat.le_refl _)]), rfl⟩

/-- What parts returns. -/
theorem parts_any (s : ByteArray) (hs : s.size ≤ 1048576) (w : World) :
    Calls Tryd.prog 46 #[.string s] w fun e w' => e = .returned (.tuple #[.string ⟨(FracMath.partsL s.data.toList).1.toArray⟩, .string ⟨(FracMath.partsL s.data.toList).2.1.toArray⟩, .string ⟨(FracMath.partsL s.data.toList).2.2.toArray⟩]) ∧ ∃ n, w' = w.drewN n := by
  cases hc : FracMath.cutL 47 s.data.toList with
  | none =>
    have hp : FracMath.partsL s.data.toList = (s.data.toList, [48], [49]) := by unfold FracMath.partsL; rw [hc]
    rw [hp]
    have e0 : (⟨s.data.toList.toArray⟩ : ByteArray) = s := (bytes_ext rfl).symm
    show Calls _ _ _ _ fun e w' => e = .returned (.tuple #[.string ⟨s.data.toList.toArray⟩, .string ⟨#[48]⟩, .string ⟨#[49]⟩]) ∧ _
    rw [e0]
    have C := Lib.hid (fun W => cut_none s 47 hc W)
    clear hc hp e0
    go_enter Tryd.func46, Tryd.ntmps46
    go_wp2_with (first | (go_at_call 64; refine (C.out _).mono ?_; rintro e w1 ⟨rfl, n, rfl⟩) | go_in)
    go_ret3
    exact ⟨rfl, _, rfl⟩
  | some p =>
    obtain ⟨b, d⟩ := p
    have hle : b.length ≤ s.size := by
      have := (FracMath.cutL_some hc).1
      rw [← size_list, this]; simp
    have C := Lib.hid (fun W => cut_some s hs 47 b d hc W)
    cases hb : FracMath.cutL 32 b with
    | none =>
      have hp : FracMath.partsL s.data.toList = ([48], b, d) := by unfold FracMath.partsL; rw [hc]; simp only [hb]
      rw [hp]
      have C2 := Lib.hid (fun W => cut_none ⟨b.toArray⟩ 32 (by simpa using hb) W)
      show Calls _ _ _ _ fun e w' => e = .returned (.tuple #[.string ⟨#[48]⟩, .string ⟨b.toArray⟩, .string ⟨d.toArray⟩]) ∧ _
      clear hc hp hb
      obtain ⟨B, hB⟩ : ∃ B : ByteArray, ⟨b.toArray⟩ = B := ⟨_, rfl⟩
      rw [hB] at C C2 ⊢
      clear hB
      go_enter Tryd.func46, Tryd.ntmps46
      go_wp2_with (first | (go_at_call_of 64 (Value.string s); refine (C.out _).mono ?_; rintro e w1 ⟨rfl, n, rfl⟩) | (go_at_call_of 64 (Value.string B); refine (C2.out _).mono ?_; rintro e w1 ⟨rfl, n2, rfl⟩) | go_in)
      go_ret3
      exact ⟨rfl, _, rfl⟩
    | some q =>
      obtain ⟨x, y⟩ := q
      have hp : FracMath.partsL s.data.toList = (x, y, d) := by unfold FracMath.partsL; rw [hc]; simp only [hb]
      rw [hp]
      have C2 := Lib.hid (fun W => cut_some ⟨b.toArray⟩ (by show b.toArray.size ≤ _; rw [List.size_toArray]; omega) 32 x y (by simpa using hb) W)
      show Calls _ _ _ _ fun e w' => e = .returned (.tuple #[.string ⟨x.toArray⟩, .string ⟨y.toArray⟩, .string ⟨d.toArray⟩]) ∧ _
      clear hc hp hb
      obtain ⟨B, hB⟩ : ∃ B : ByteArray, ⟨b.toArray⟩ = B := ⟨_, rfl⟩
      rw [hB] at C C2
      clear hB
      go_enter Tryd.func46, Tryd.ntmps46
      go_wp2_with (first | (go_at_call_of 64 (Value.string s); refine (C.out _).mono ?_; rintro e w1 ⟨rfl, n, rfl⟩) | (go_at_call_of 64 (Value.string B); refine (C2.out _).mono ?_; rintro e w1 ⟨rfl, n2, rfl⟩) | go_in)
      go_ret3
      exact ⟨rfl, _, rfl⟩
end Go.Proofs.YtoeacbmlodfciaaDoor
