/- Note: the letter's length, texts that are no octave, and every text. -/
import Derived.Test.YtibdnfcbgcbdeaaDoorNsV
namespace Go.Proofs.YtibdnfcbgcbdeaaDoor
open Go Go.RowKit Go.Shelf

theorem letterLength_nil (w : World) : Calls Tryd.prog 45 #[.string ⟨#[]⟩] w fun e w' => e = .returned (.int .i64 0) ∧ w = w' := by
  go_enter Tryd.func45, Tryd.ntmps45
  go_wp2
  go_ret
  exact ⟨rfl, rfl⟩
theorem letterLength_one (a : UInt8) (w : World) : Calls Tryd.prog 45 #[.string ⟨#[a]⟩] w fun e w' => e = .returned (.int .i64 1) ∧ w = w' := by
  go_enter Tryd.func45, Tryd.ntmps45
  go_wp2
  go_ret
  exact ⟨rfl, rfl⟩
set_option maxHeartbeats 1000000 in
theorem letterLength_two (s : ByteArray) (b : UInt8) (h2 : 2 ≤ s.size) (hmax : s.size ≤ 9223372036854775807) (hb : s[1]'(by omega) = b) (w : World) : Calls Tryd.prog 45 #[.string s] w fun e w' => e = .returned (.int .i64 (if b = 35 then 2 else 1)) ∧ w = w' := by
  have h1 : (1 : Int) < (s.size : Int) := by omega
  have h1n : 1 < s.size := by omega
  by_cases hc : b = 35
  · rw [if_pos hc]
    have hbt : ((b.toNat : Int) == 35) = true := by rw [hc]; rfl
    go_enter Tryd.func45, Tryd.ntmps45
    go_wp2
    go_ret
    exact ⟨rfl, rfl⟩
  · rw [if_neg hc]
    have hbt : ((b.toNat : Int) == 35) = false := by
      rw [beq_eq_false_iff_ne]
      intro e
      exact hc (UInt8.toNat_inj.1 (by show b.toNat = 35; omega))
    have hmin : min 1 (s.size : Int) = 1 := by omega
    go_enter Tryd.func45, Tryd.ntmps45
    go_wp2
    go_ret
    exact ⟨rfl, rfl⟩

set_option maxHeartbeats 1000000 in
theorem octaveOf_long (r : ByteArray) (h0 : r ≠ ⟨#[45, 49]⟩) (h1 : r.size ≠ 1) (_hmax : r.size ≤ 9223372036854775807) (w : World) : Calls Tryd.prog 46 #[.string r] w fun e w' => e = .returned (.tuple #[.int .i64 0, .bool false]) ∧ w = w' := by
  have b0 : (r.toList == [45, 49]) = false := by
    have h := toList_ne h0
    rwa [show (⟨#[45, 49]⟩ : ByteArray).toList = [45, 49] from by rw [Lib.toList_data]] at h
  have b1 : ((r.size : Int) == 1) = false := by rw [beq_eq_false_iff_ne]; omega
  go_enter Tryd.func46, Tryd.ntmps46
  go_wp2
  go_ret2
  exact ⟨rfl, rfl⟩

set_option maxHeartbeats 1000000 in
theorem octaveOf_byte (c : UInt8) (hc : c.toNat < 48 ∨ 57 < c.toNat) (w : World) : Calls Tryd.prog 46 #[.string ⟨#[c]⟩] w fun e w' => e = .returned (.tuple #[.int .i64 0, .bool false]) ∧ w = w' := by
  have b0 := toList_ne (show (⟨#[c]⟩ : ByteArray) ≠ ⟨#[45, 49]⟩ from fun h => by have := congrArg ByteArray.size h; cases this)
  by_cases h1 : c.toNat < 48
  · have h2 : ¬ (48 : Int) ≤ (c.toNat : Int) := by omega
    go_enter Tryd.func46, Tryd.ntmps46
    go_wp2
    go_ret2
    exact ⟨rfl, rfl⟩
  · have h2 : (48 : Int) ≤ (c.toNat : Int) := by omega
    have h3 : ¬ (c.toNat : Int) ≤ 57 := by omega
    go_enter Tryd.func46, Tryd.ntmps46
    go_wp2
    go_ret2
    exact ⟨rfl, rfl⟩
end Go.Proofs.YtibdnfcbgcbdeaaDoor
