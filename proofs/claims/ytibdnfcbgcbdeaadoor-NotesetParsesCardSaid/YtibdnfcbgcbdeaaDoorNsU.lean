/- The reference's Note: the first note whose name a text is. -/
import Derived.Test.YtibdnfcbgcbdeaaDoorNsT
namespace Go.Proofs.YtibdnfcbgcbdeaaDoor
open Go Go.RowKit Go.Shelf

theorem toList_ne {t s : ByteArray} (h : t ≠ s) : (t.toList == s.toList) = false := by
  rw [beq_eq_false_iff_ne]
  intro e
  rw [Lib.toList_data, Lib.toList_data] at e
  apply h
  cases t; cases s
  exact congrArg ByteArray.mk (Array.toList_inj.1 e)

def nameIndex (s : ByteArray) : Nat := ((List.range 128).find? fun n => decide (nameOf n = s)).getD 128
theorem name_inj {a b : Nat} (ha : a < 128) (hb : b < 128) (h : nameOf a = nameOf b) : a = b := by
  have h1 : ∀ a, a < 128 → nameIndex (nameOf a) = a := by decide +kernel
  rw [← h1 a ha, h, h1 b hb]

set_option maxHeartbeats 2000000 in
theorem rnote_yes (n : Nat) (hn : n < 128) (w : World) :
    Calls Tryd.prog 17 #[.string (nameOf n)] w fun e w' => e = .returned (.int .i64 n) ∧ Below w.heap.size w w' := by
  obtain ⟨s, hs⟩ : ∃ s, nameOf n = s := ⟨_, rfl⟩
  have HS := Lib.hid hs
  rw [hs]
  clear hs
  go_enter Tryd.func17, Tryd.ntmps17
  go_wp2
  go_loopw [3] (fun i wr => ∃ k : Nat, k ≤ n ∧ i = .int .i64 (k : Int) ∧ Below w.heap.size w wr) (fun i _ => n + 1 - (intOf i).toNat)
  case atStart => exact ⟨0, Nat.zero_le _, rfl, Below.refl _ _⟩
  case round =>
    obtain ⟨k, hk, rfl, hw⟩ := hrel
    have hz := hw.size
    have hk127 : (k : Int) ≤ 127 := by omega
    have R := Lib.hid (show Calls Tryd.prog 16 #[.int .i64 k] wr fun e w' => e = .returned (.string (nameOf k)) ∧ Below wr.heap.size wr w' from by
      by_cases h : k < 12
      · exact rname_low k h wr
      · exact rname_high k (by omega) (by omega) wr)
    by_cases h1 : k = n
    · subst h1
      rw [HS.out] at R
      go_wp2_with fail
      refine R.out.mono ?_
      rintro e w1 ⟨rfl, hb1⟩
      go_wp2
      go_ret
      exact ⟨rfl, hw.trans (hb1.mono hz)⟩
    · obtain ⟨t, ht⟩ : ∃ t, nameOf k = t := ⟨_, rfl⟩
      have hne : t ≠ s := fun e => h1 (name_inj (by omega) hn (by rw [ht, HS.out, e]))
      rw [ht] at R
      have hb := toList_ne hne
      have hkn : (k : Int) < n := by omega
      clear ht h1
      go_wp2_with fail
      refine R.out.mono ?_
      rintro e w1 ⟨rfl, hb1⟩
      go_wp2
      go_roundw
      case rel => exact ⟨k + 1, by omega, by go_num, hw.trans (hb1.mono hz)⟩
      case measure => simp [intOf]; omega

set_option maxHeartbeats 2000000 in
theorem rnote_no (s : ByteArray) (h : ∀ n, n < 128 → nameOf n ≠ s) (w : World) :
    Calls Tryd.prog 17 #[.string s] w fun e w' => e = .returned (.int .i64 (-1)) ∧ Below w.heap.size w w' := by
  have HH := Lib.hid h
  clear h
  go_enter Tryd.func17, Tryd.ntmps17
  go_wp2
  go_loopw [3] (fun i wr => ∃ k : Nat, k ≤ 128 ∧ i = .int .i64 (k : Int) ∧ Below w.heap.size w wr) (fun i _ => 128 - (intOf i).toNat)
  case atStart => exact ⟨0, Nat.zero_le _, rfl, Below.refl _ _⟩
  case round =>
    obtain ⟨k, hk, rfl, hw⟩ := hrel
    have hz := hw.size
    by_cases h1 : k < 128
    · have hk127 : (k : Int) ≤ 127 := by omega
      have R := Lib.hid (show Calls Tryd.prog 16 #[.int .i64 k] wr fun e w' => e = .returned (.string (nameOf k)) ∧ Below wr.heap.size wr w' from by
        by_cases h : k < 12
        · exact rname_low k h wr
        · exact rname_high k (by omega) h1 wr)
      have hne := HH.out k h1
      generalize nameOf k = t at R hne
      have hb := toList_ne hne
      go_wp2_with fail
      refine R.out.mono ?_
      rintro e w1 ⟨rfl, hb1⟩
      go_wp2
      go_roundw
      case rel => exact ⟨k + 1, by omega, by go_num, hw.trans (hb1.mono hz)⟩
      case measure => simp [intOf]; omega
    · obtain rfl : k = 128 := by omega
      go_wp2
      go_ret
      exact ⟨rfl, hw⟩
end Go.Proofs.YtibdnfcbgcbdeaaDoor
