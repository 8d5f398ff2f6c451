/- Contracts of the functions that Parse of fractions is made of: cutting at a byte, digits, values, parts. -/
import Derived.Test.YtoeacbmlodfciaaDoorFracPm
import Derived.Test.YtoeacbmlodfciaaDoorFracD
import Derived.Test.YtoeacbmlodfciaaDoorFracShelf
namespace Go.Proofs.YtoeacbmlodfciaaDoor
open Go Go.RowKit Go.Shelf

theorem ext_bytes {s t : ByteArray} (h : s.data.toList = t.data.toList) : s = t := by
  cases s; cases t; congr 1; exact Array.toList_inj.1 h
theorem bytes_ext {s : ByteArray} {l : List UInt8} (h : s.data.toList = l) : s = ⟨l.toArray⟩ := ext_bytes (by rw [h])
theorem size_list (s : ByteArray) : s.data.toList.length = s.size := Array.length_toList
theorem extract_take (s : ByteArray) (k : Nat) : s.extract 0 k = ⟨(s.data.toList.take k).toArray⟩ := bytes_ext (by rw [Lib.extract_data]; simp)
theorem extract_drop (s : ByteArray) (k : Nat) : s.extract k s.size = ⟨(s.data.toList.drop k).toArray⟩ := bytes_ext (by rw [Lib.extract_data, List.take_of_length_le (by rw [List.length_drop, size_list]; exact Nat.le_refl _)])

set_option maxHeartbeats 1000000 in
theorem cut_none (s : ByteArray) (c : UInt8) (h : FracMath.cutL c s.data.toList = none) (w : World) :
    Calls Tryd.prog 64 #[.string s, .string ⟨#[c]⟩] w fun e w' => e = .returned (.tuple #[.string s, .string ⟨#[]⟩, .bool false]) ∧ ∃ n, w' = w.drewN n := by
  have hi : Lib.indexByte s.data.toList c = -1 := by
    rcases FracMath.cutL_index c s.data.toList with ⟨h1, _⟩ | ⟨o, _, _, h2⟩
    · exact h1
    · rw [h] at h2; cases h2
  have I := Lib.hid (fun W => Tryd.stringslite_Index_one s c W)
  rw [hi] at I
  clear hi h
  go_enter Tryd.func64, Tryd.ntmps64
  go_wp2_with fail
  refine (I.out _).mono ?_
  rintro e w1 ⟨rfl, rfl⟩
  go_wp2
  go_ret3
  exact ⟨rfl, 0, rfl⟩

set_option maxHeartbeats 1000000 in
theorem cut_some (s : ByteArray) (hs : s.size ≤ 1048576) (c : UInt8) (a b : List UInt8) (h : FracMath.cutL c s.data.toList = some (a, b)) (w : World) :
    Calls Tryd.prog 64 #[.string s, .string ⟨#[c]⟩] w fun e w' => e = .returned (.tuple #[.string ⟨a.toArray⟩, .string ⟨b.toArray⟩, .bool true]) ∧ ∃ n, w' = w.drewN n := by
  obtain ⟨o, hi, ho, e1, e2⟩ : ∃ o : Nat, Lib.indexByte s.data.toList c = o ∧ o < s.size ∧ s.extract 0 o = ⟨a.toArray⟩ ∧ s.extract (o + 1) s.size = ⟨b.toArray⟩ := by
    rcases FracMath.cutL_index c s.data.toList with ⟨_, h1⟩ | ⟨o, h1, h2, h3⟩
    · rw [h] at h1; cases h1
    · rw [h] at h3
      simp only [Option.some.injEq, Prod.mk.injEq] at h3
      exact ⟨o, h1, by rw [← size_list]; exact h2, by rw [extract_take, h3.1], by rw [extract_drop, h3.2]⟩
  have I := Lib.hid (fun W => Tryd.stringslite_Index_one s c W)
  rw [hi] at I
  have E1 := Lib.hid e1
  have E2 := Lib.hid e2
  have c1 : (0 : Int) ≤ (o : Int) := by omega
  have c2 : (o : Int) ≤ (s.size : Int) := by omega
  have c3 : (0 : Int) ≤ (o : Int) + 1 := by omega
  have c4 : (o : Int) + 1 ≤ (s.size : Int) := by omega
  have c5 : IntKind.i64.wrap ((o : Int) + 1) = (o : Int) + 1 := by rw [IntKind.wrap_i64]; omega
  have c6 : ((o : Int) + 1).toNat = o + 1 := by omega
  clear hi h e1 e2
  go_enter Tryd.func64, Tryd.ntmps64
  go_wp2_with fail
  refine (I.out _).mono ?_
  rintro e w1 ⟨rfl, rfl⟩
  go_wp2
  go_quiet (fail)
  go_wp2
  go_ret3
  rw [E1.out, E2.out]
  exact ⟨rfl, _, rfl⟩
end Go.Proofs.YtoeacbmlodfciaaDoor
