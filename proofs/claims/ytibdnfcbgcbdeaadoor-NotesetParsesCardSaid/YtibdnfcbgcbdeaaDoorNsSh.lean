/- Plain mathematics of moving sets of notes. -/
import Derived.Test.YtibdnfcbgcbdeaaDoorNsMath
namespace Go.Proofs.YtibdnfcbgcbdeaaDoor.Ns

def shl (a k : Nat) : Nat := a * 2 ^ k % 2 ^ 64
theorem shl_lt (a k : Nat) : shl a k < 18446744073709551616 := Nat.mod_lt _ (by decide)
theorem shr_lt {a : Nat} (k : Nat) (h : a < 18446744073709551616) : a / 2 ^ k < 18446744073709551616 := Nat.lt_of_le_of_lt (Nat.div_le_self _ _) h
theorem shl_testBit (a k i : Nat) (hi : i < 64) : (shl a k).testBit i = (decide (k ≤ i) && a.testBit (i - k)) := by
  unfold shl
  rw [Nat.testBit_mod_two_pow, Nat.testBit_mul_two_pow]
  simp [hi]

def upLo (lo k : Nat) : Nat := if 64 ≤ k then 0 else shl lo k
def upHi (lo hi k : Nat) : Nat := if 64 ≤ k then shl lo (k - 64) else shl hi k ||| lo / 2 ^ (64 - k)
def dnLo (lo hi k : Nat) : Nat := if 64 ≤ k then hi / 2 ^ (k - 64) else lo / 2 ^ k ||| shl hi (64 - k)
def dnHi (hi k : Nat) : Nat := if 64 ≤ k then 0 else hi / 2 ^ k

theorem up_lt (lo hi k : Nat) (hl : lo < 18446744073709551616) : upLo lo k < 18446744073709551616 ∧ upHi lo hi k < 18446744073709551616 := by
  unfold upLo upHi
  split
  · exact ⟨by decide, shl_lt _ _⟩
  · exact ⟨shl_lt _ _, or_lt (shl_lt _ _) (shr_lt _ hl)⟩
theorem dn_lt (lo hi k : Nat) (hl : lo < 18446744073709551616) (hh : hi < 18446744073709551616) : dnLo lo hi k < 18446744073709551616 ∧ dnHi hi k < 18446744073709551616 := by
  unfold dnLo dnHi
  split
  · exact ⟨shr_lt _ hh, by decide⟩
  · exact ⟨or_lt (shr_lt _ hl) (shl_lt _ _), shr_lt _ hh⟩

theorem has_up (lo hi k m : Nat) (hl : lo < 18446744073709551616) (hk : k < 128) (hm : m < 128) : has (upLo lo k) (upHi lo hi k) m = (decide (k ≤ m) && has lo hi (m - k)) := by
  unfold has upLo upHi
  by_cases h1 : 64 ≤ k
  · by_cases h2 : m < 64
    · simp [h1, h2]; omega
    · rw [if_neg h2, if_pos h1, shl_testBit _ _ _ (by omega), if_pos (by omega : m - k < 64)]
      rw [show m - 64 - (k - 64) = m - k by omega]
      congr 1
      rw [decide_eq_decide]; omega
  · by_cases h2 : m < 64
    · rw [if_pos h2, if_neg h1, shl_testBit _ _ _ h2, if_pos (by omega : m - k < 64)]
    · rw [if_neg h2, if_neg h1, Nat.testBit_or, shl_testBit _ _ _ (by omega), Nat.testBit_div_two_pow, show m - 64 + (64 - k) = m - k by omega]
      by_cases h3 : m - k < 64
      · rw [if_pos h3]
        simp [show ¬ k ≤ m - 64 by omega, show k ≤ m by omega]
      · rw [if_neg h3, testBit_ge hl (by omega : 64 ≤ m - k), show m - 64 - k = m - k - 64 by omega]
        simp [show k ≤ m - 64 by omega, show k ≤ m by omega]

theorem has_dn (lo hi k m : Nat) (hl : lo < 18446744073709551616) (hh : hi < 18446744073709551616) (hk : k < 128) (hm : m < 128) : has (dnLo lo hi k) (dnHi hi k) m = has lo hi (m + k) := by
  unfold has dnLo dnHi
  by_cases h1 : 64 ≤ k
  · by_cases h2 : m < 64
    · rw [if_pos h2, if_pos h1, Nat.testBit_div_two_pow, if_neg (by omega), show m + (k - 64) = m + k - 64 by omega]
    · rw [if_neg h2, if_pos h1, if_neg (by omega), testBit_ge hh (by omega)]
      exact Nat.zero_testBit _
  · by_cases h2 : m < 64
    · rw [if_pos h2, if_neg h1, Nat.testBit_or, Nat.testBit_div_two_pow, shl_testBit _ _ _ h2]
      by_cases h3 : m + k < 64
      · rw [if_pos h3]
        simp [show ¬ 64 - k ≤ m by omega]
      · rw [if_neg h3, testBit_ge hl (by omega : 64 ≤ m + k), show m - (64 - k) = m + k - 64 by omega]
        simp [show 64 - k ≤ m by omega]
    · rw [if_neg h2, if_neg h1, if_neg (by omega), Nat.testBit_div_two_pow, show m - 64 + k = m + k - 64 by omega]

/-- Whether a moved set has a note. -/
def movedB (lo hi : Nat) (by_ : Int) (k m : Nat) : Bool := decide (0 ≤ (m : Int) - by_ ∧ (m : Int) - by_ < k) && has lo hi ((m : Int) - by_).toNat

/-- The words of a moved set. -/
def shLo (lo hi : Nat) (b : Int) : Nat := if b < -127 ∨ 127 < b then 0 else if b < 0 then dnLo lo hi (-b).toNat else upLo lo b.toNat
def shHi (lo hi : Nat) (b : Int) : Nat := if b < -127 ∨ 127 < b then 0 else if b < 0 then dnHi hi (-b).toNat else upHi lo hi b.toNat
theorem sh_lt (lo hi : Nat) (b : Int) (hl : lo < 18446744073709551616) (hh : hi < 18446744073709551616) : shLo lo hi b < 18446744073709551616 ∧ shHi lo hi b < 18446744073709551616 := by
  unfold shLo shHi
  split
  · exact ⟨by decide, by decide⟩
  · split
    · exact dn_lt lo hi _ hl hh
    · exact up_lt lo hi _ hl
theorem has_ge {lo hi n : Nat} (hh : hi < 18446744073709551616) (h : 128 ≤ n) : has lo hi n = false := by
  unfold has; rw [if_neg (by omega)]; exact testBit_ge hh (by omega)
theorem has_sh (lo hi m : Nat) (b : Int) (hl : lo < 18446744073709551616) (hh : hi < 18446744073709551616) (hm : m < 128) : has (shLo lo hi b) (shHi lo hi b) m = movedB lo hi b 128 m := by
  unfold shLo shHi movedB
  by_cases h1 : b < -127 ∨ 127 < b
  · rw [if_pos h1, if_pos h1]
    have e : has 0 0 m = false := by unfold has; split <;> exact Nat.zero_testBit _
    rw [e]
    simp
    intro h2 h3
    omega
  · rw [if_neg h1, if_neg h1]
    by_cases h2 : b < 0
    · rw [if_pos h2, if_pos h2, has_dn lo hi _ m hl hh (by omega) hm]
      by_cases h3 : (m : Int) - b < 128
      · rw [show ((m : Int) - b).toNat = m + (-b).toNat by omega]
        simp [h3]; intro; omega
      · rw [has_ge hh (by omega : 128 ≤ m + (-b).toNat)]
        simp [h3]
    · rw [if_neg h2, if_neg h2, has_up lo hi _ m hl (by omega) hm, show ((m : Int) - b).toNat = m - b.toNat by omega]
      congr 1
      rw [decide_eq_decide]; omega

theorem moved_zero (lo hi : Nat) (b : Int) (m : Nat) : movedB lo hi b 0 m = false := by
  unfold movedB
  simp
  intro h1 h2; omega
theorem moved_hit (lo hi ol oh : Nat) (b : Int) (k x : Nat) (hx : x < 128) (e : (x : Int) = k + b) (h : has lo hi k = true) (hI : ∀ m, m < 128 → has ol oh m = movedB lo hi b k m) :
    ∀ m, m < 128 → has (ol ||| sLo x) (oh ||| sHi x) m = movedB lo hi b (k + 1) m := fun m hm => by
  rw [has_or, hI m hm, has_single x m hx hm]
  unfold movedB
  by_cases hmx : x = m
  · subst hmx
    rw [show ((x : Int) - b).toNat = k by omega, h]
    simp; omega
  · have : decide (0 ≤ (m : Int) - b ∧ (m : Int) - b < k) = decide (0 ≤ (m : Int) - b ∧ (m : Int) - b < (k + 1 : Nat)) := by rw [decide_eq_decide]; omega
    rw [this]; simp [hmx]
theorem moved_miss (lo hi : Nat) (b : Int) (k : Nat) (h : ¬ (has lo hi k = true ∧ 0 ≤ (k : Int) + b ∧ (k : Int) + b ≤ 127)) (m : Nat) (hm : m < 128) : movedB lo hi b (k + 1) m = movedB lo hi b k m := by
  unfold movedB
  by_cases e : (m : Int) = k + b
  · have hh : has lo hi k = false := by
      cases hc : has lo hi k with
      | false => rfl
      | true => exact absurd ⟨hc, by omega, by omega⟩ h
    rw [show ((m : Int) - b).toNat = k by omega, hh]
    simp
  · have : decide (0 ≤ (m : Int) - b ∧ (m : Int) - b < k) = decide (0 ≤ (m : Int) - b ∧ (m : Int) - b < (k + 1 : Nat)) := by rw [decide_eq_decide]; omega
    rw [this]
end Go.Proofs.YtibdnfcbgcbdeaaDoor.Ns
