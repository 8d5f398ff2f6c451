/- Plain mathematics of sets of notes, as two words of 64 bits: members, the least one, taking one away. -/
import Derived.Lib.TrailingZeros
import Derived.Laws.BitsAllLaws
namespace Go.Proofs.YtibdnfcbgcbdeaaDoor.Ns

def has (lo hi n : Nat) : Bool := if n < 64 then lo.testBit n else hi.testBit (n - 64)
def notes (lo hi : Nat) : List Nat := (List.range' 0 128).filter (fun n => has lo hi n && decide (n < 128))
def sLo (n : Nat) : Nat := if n < 64 then 2 ^ n else 0
def sHi (n : Nat) : Nat := if n < 64 then 0 else 2 ^ (n - 64)
def wo (a b : Nat) : Nat := a &&& (18446744073709551615 - b)
def least (lo hi : Nat) : Nat := if lo = 0 then 64 + Lib.ctz 64 hi else Lib.ctz 64 lo
def some_ (lo hi : Nat) : Bool := !(lo == 0 && hi == 0)

theorem wo_lt (a b : Nat) (ha : a < 18446744073709551616) : wo a b < 18446744073709551616 := Nat.lt_of_le_of_lt Nat.and_le_left ha
theorem or_lt {a b : Nat} (ha : a < 18446744073709551616) (hb : b < 18446744073709551616) : a ||| b < 18446744073709551616 :=
  Nat.or_lt_two_pow (n := 64) ha hb
theorem and_lt {a : Nat} (b : Nat) (ha : a < 18446744073709551616) : a &&& b < 18446744073709551616 := Nat.lt_of_le_of_lt Nat.and_le_left ha
theorem sLo_lt (n : Nat) : sLo n < 18446744073709551616 := by
  unfold sLo; split
  · exact Nat.pow_lt_pow_right (by decide) (by omega : n < 64)
  · decide
theorem sHi_lt (n : Nat) (h : n < 128) : sHi n < 18446744073709551616 := by
  unfold sHi; split
  · decide
  · exact Nat.pow_lt_pow_right (by decide) (by omega : n - 64 < 64)

theorem compl_testBit (b i : Nat) (hb : b < 18446744073709551616) (hi : i < 64) : (18446744073709551615 - b).testBit i = !b.testBit i := by
  have := Nat.testBit_two_pow_sub_succ (n := 64) (x := b) hb i
  rw [show (2 : Nat) ^ 64 - (b + 1) = 18446744073709551615 - b by omega] at this
  rw [this]; simp [hi]

theorem testBit_ge {a i : Nat} (ha : a < 18446744073709551616) (hi : 64 ≤ i) : a.testBit i = false :=
  Nat.testBit_lt_two_pow (Nat.lt_of_lt_of_le ha (Nat.pow_le_pow_right (by decide) hi : 2 ^ 64 ≤ 2 ^ i))

theorem wo_testBit (a b i : Nat) (ha : a < 18446744073709551616) (hb : b < 18446744073709551616) : (wo a b).testBit i = (a.testBit i && !b.testBit i) := by
  unfold wo
  rw [Nat.testBit_and]
  by_cases hi : i < 64
  · rw [compl_testBit b i hb hi]
  · rw [testBit_ge ha (by omega)]; simp

theorem has_wo (a b c d n : Nat) (ha : a < 18446744073709551616) (hb : b < 18446744073709551616) (hc : c < 18446744073709551616) (hd : d < 18446744073709551616) :
    has (wo a c) (wo b d) n = (has a b n && !has c d n) := by
  unfold has
  split
  · exact wo_testBit a c n ha hc
  · exact wo_testBit b d _ hb hd

theorem has_or (a b c d n : Nat) : has (a ||| c) (b ||| d) n = (has a b n || has c d n) := by
  unfold has
  split <;> exact Nat.testBit_or ..
theorem has_and (a b c d n : Nat) : has (a &&& c) (b &&& d) n = (has a b n && has c d n) := by
  unfold has
  split <;> exact Nat.testBit_and ..

theorem has_single (m n : Nat) (hm : m < 128) (hn : n < 128) : has (sLo m) (sHi m) n = decide (m = n) := by
  unfold has sLo sHi
  by_cases h1 : n < 64 <;> by_cases h2 : m < 64 <;> simp [h1, h2, Nat.testBit_two_pow] <;> omega

/-- The lowest set bit. -/
theorem ctz_spec (x : Nat) (h0 : x ≠ 0) (h : x < 18446744073709551616) : Lib.ctz 64 x < 64 ∧ x.testBit (Lib.ctz 64 x) = true ∧ ∀ i, i < Lib.ctz 64 x → x.testBit i = false := by
  have hc : Lib.ctz 64 x = Lib.ctzFrom 64 x := by unfold Lib.ctz; rw [if_neg h0]
  obtain ⟨m, hm, hk⟩ := Lib.ctzFrom_spec 64 x (by omega) h
  rw [hc]
  clear hc
  generalize Lib.ctzFrom 64 x = k at hm hk ⊢
  refine ⟨hk, ?_, fun i hi => ?_⟩
  · rw [hm, Nat.mul_comm, Nat.testBit_mul_two_pow]
    simp
  · rw [hm, Nat.mul_comm, Nat.testBit_mul_two_pow]
    simp; omega

theorem least_spec (lo hi : Nat) (hl : lo < 18446744073709551616) (hh : hi < 18446744073709551616) (h : ¬ (lo = 0 ∧ hi = 0)) :
    least lo hi < 128 ∧ has lo hi (least lo hi) = true ∧ ∀ i, i < least lo hi → has lo hi i = false := by
  unfold least
  by_cases h0 : lo = 0
  · obtain ⟨h1, h2, h3⟩ := ctz_spec hi (fun e => h ⟨h0, e⟩) hh
    rw [if_pos h0]
    refine ⟨by omega, ?_, fun i hi' => ?_⟩
    · unfold has; rw [if_neg (by omega), show 64 + Lib.ctz 64 hi - 64 = Lib.ctz 64 hi by omega]; exact h2
    · unfold has; split
      · rw [h0]; exact Nat.zero_testBit i
      · exact h3 _ (by omega)
  · obtain ⟨h1, h2, h3⟩ := ctz_spec lo h0 hl
    rw [if_neg h0]
    refine ⟨by omega, ?_, fun i hi' => ?_⟩
    · unfold has; rw [if_pos h1]; exact h2
    · unfold has; rw [if_pos (by omega)]; exact h3 i hi'

def withinB (a b c d : Nat) : Bool := decide (wo a c = 0 ∧ wo b d = 0)
theorem notes_nil : notes 0 0 = [] := by decide +kernel

theorem notes_cons (lo hi : Nat) (hl : lo < 18446744073709551616) (hh : hi < 18446744073709551616) (h : ¬ (lo = 0 ∧ hi = 0)) :
    notes lo hi = least lo hi :: notes (wo lo (sLo (least lo hi))) (wo hi (sHi (least lo hi))) := by
  obtain ⟨h1, h2, h3⟩ := least_spec lo hi hl hh h
  obtain ⟨k, hk⟩ : ∃ k, least lo hi = k := ⟨_, rfl⟩
  rw [hk] at h1 h2 h3 ⊢
  have hw : ∀ n, n < 128 → has (wo lo (sLo k)) (wo hi (sHi k)) n = (has lo hi n && !decide (k = n)) := fun n hn => by
    rw [has_wo _ _ _ _ _ hl hh (sLo_lt k) (sHi_lt k h1), has_single k n h1 hn]
  unfold notes
  have e : List.range' 0 128 = List.range' 0 k ++ k :: List.range' (k + 1) (127 - k) := by
    have a := List.range'_append (s := 0) (m := k) (n := 128 - k) (step := 1)
    rw [show k + (128 - k) = 128 by omega, show 0 + 1 * k = k by omega, show 128 - k = (127 - k) + 1 by omega, List.range'_succ] at a
    exact a.symm
  rw [e, List.filter_append, List.filter_append, List.filter_cons, List.filter_cons]
  have l1 : (List.range' 0 k).filter (fun n => has lo hi n && decide (n < 128)) = [] := List.filter_eq_nil_iff.2 fun n hn => by
    have : n < k := by have := (List.mem_range'_1.1 hn).2; omega
    simp [h3 n this]
  have l2 : (List.range' 0 k).filter (fun n => has (wo lo (sLo k)) (wo hi (sHi k)) n && decide (n < 128)) = [] := List.filter_eq_nil_iff.2 fun n hn => by
    have : n < k := by have := (List.mem_range'_1.1 hn).2; omega
    rw [hw n (by omega), h3 n this]; simp
  rw [l1, l2]
  have l3 : (List.range' (k + 1) (127 - k)).filter (fun n => has (wo lo (sLo k)) (wo hi (sHi k)) n && decide (n < 128)) = (List.range' (k + 1) (127 - k)).filter (fun n => has lo hi n && decide (n < 128)) := by
    apply List.filter_congr
    intro n hn
    have := List.mem_range'_1.1 hn
    rw [hw n (by omega)]
    simp [show k ≠ n by omega]
  rw [l3]
  simp [h2, h1, hw k h1]

theorem notes_lt {lo hi n : Nat} (h : n ∈ notes lo hi) : n < 128 := by
  have := (List.mem_filter.1 h).2
  simp at this; exact this.2
theorem notes_length (lo hi : Nat) : (notes lo hi).length ≤ 128 := by
  have := List.length_filter_le (fun n => has lo hi n && decide (n < 128)) (List.range' 0 128)
  unfold notes; simpa using this
theorem mem_notes {lo hi n : Nat} : n ∈ notes lo hi ↔ n < 128 ∧ has lo hi n = true := by
  unfold notes
  rw [List.mem_filter]
  simp
  omega

/-- Two sets with the same notes are the same words. -/
theorem ext {a b c d : Nat} (ha : a < 18446744073709551616) (hb : b < 18446744073709551616) (hc : c < 18446744073709551616) (hd : d < 18446744073709551616)
    (h : ∀ n, n < 128 → has a b n = has c d n) : a = c ∧ b = d := by
  constructor
  · apply Nat.eq_of_testBit_eq
    intro i
    by_cases hi : i < 64
    · have := h i (by omega); unfold has at this; rwa [if_pos hi, if_pos hi] at this
    · rw [testBit_ge ha (by omega), testBit_ge hc (by omega)]
  · apply Nat.eq_of_testBit_eq
    intro i
    by_cases hi : i < 64
    · have := h (64 + i) (by omega)
      unfold has at this
      rwa [if_neg (by omega), if_neg (by omega), show 64 + i - 64 = i by omega] at this
    · rw [testBit_ge hb (by omega), testBit_ge hd (by omega)]
end Go.Proofs.YtibdnfcbgcbdeaaDoor.Ns
