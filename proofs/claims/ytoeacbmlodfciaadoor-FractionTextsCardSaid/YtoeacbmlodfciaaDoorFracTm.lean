/- Plain mathematics of the texts that fractions are written in: they are read back; no program is named here. -/
import Derived.Test.YtoeacbmlodfciaaDoorFracPt
import Derived.Test.YtoeacbmlodfciaaDoorFracV
import Derived.Lib.ItoaNum
namespace Go.Proofs.YtoeacbmlodfciaaDoor.FracMath
open Go

theorem snoc_ind {α : Type} {P : List α → Prop} (h0 : P []) (h1 : ∀ l c, P l → P (l ++ [c])) (l : List α) : P l := by
  rw [← List.reverse_reverse l]
  induction l.reverse with
  | nil => exact h0
  | cons c r ih => rw [List.reverse_cons]; exact h1 _ _ ih
theorem dig_byte {d : Nat} (h : d < 10) : isD (UInt8.ofNat (48 + d)) = true ∧ (UInt8.ofNat (48 + d)).toNat = 48 + d := by
  have : (UInt8.ofNat (48 + d)).toNat = 48 + d := by rw [UInt8.toNat_ofNat']; omega
  exact ⟨by unfold isD; rw [this]; simp; omega, this⟩
theorem dec_small {u : Nat} (h : u < 10) : Lib.decDigits u = [UInt8.ofNat (48 + u)] := by rw [Lib.decDigits, dif_pos h]
theorem dec_big {u : Nat} (h : ¬ u < 10) : Lib.decDigits u = Lib.decDigits (u / 10) ++ [UInt8.ofNat (48 + u % 10)] := by rw [Lib.decDigits, dif_neg h]
theorem dec_ne (u : Nat) : Lib.decDigits u ≠ [] := by
  by_cases h : u < 10
  · rw [dec_small h]; simp
  · rw [dec_big h]; simp
theorem dec_all (u : Nat) : (Lib.decDigits u).all isD = true := by
  induction u using Nat.strongRecOn with
  | _ u ih =>
    by_cases h : u < 10
    · rw [dec_small h, List.all_cons, (dig_byte h).1]; rfl
    · rw [dec_big h, List.all_append, ih _ (by omega), List.all_cons, (dig_byte (Nat.mod_lt _ (by decide))).1]; rfl
theorem dec_allD (u : Nat) : allD (Lib.decDigits u) = true := allD_iff.2 ⟨dec_ne u, dec_all u⟩
theorem dec_len (u k : Nat) (h : u < 10 ^ k) (hk : 0 < k) : (Lib.decDigits u).length ≤ k := by
  induction k generalizing u with
  | zero => omega
  | succ k ih =>
    by_cases h1 : u < 10
    · rw [dec_small h1]; simp
    · rw [dec_big h1, List.length_append, List.length_singleton]
      have hk : 0 < k := by
        rcases Nat.eq_zero_or_pos k with h2 | h2
        · subst h2; omega
        · exact h2
      have := ih (u / 10) (by rw [Nat.pow_succ] at h; omega) hk
      omega
theorem valD_dec (u : Nat) (h : u ≤ 1000000) : valD (Lib.decDigits u) = u := by
  induction u using Nat.strongRecOn with
  | _ u ih =>
    by_cases h1 : u < 10
    · rw [dec_small h1]
      show valD ([] ++ [UInt8.ofNat (48 + u)]) = u
      rw [valD_snoc]
      unfold valStep
      rw [(dig_byte h1).2, show valD [] = 0 from rfl]
      omega
    · rw [dec_big h1, valD_snoc, ih _ (by omega) (by omega)]
      unfold valStep
      rw [(dig_byte (Nat.mod_lt _ (by decide))).2]
      omega

/-- The text of a number that is not negative: its integer part, and the rest as a fraction. -/
def textM (a d : Nat) : List UInt8 :=
  if a % d = 0 then Lib.decDigits (a / d)
  else if a < d then Lib.decDigits (a % d) ++ 47 :: Lib.decDigits d
  else Lib.decDigits (a / d) ++ 32 :: (Lib.decDigits (a % d) ++ 47 :: Lib.decDigits d)
def textL (n : Int) (d : Nat) : List UInt8 := if n < 0 then 45 :: textM n.natAbs d else textM n.natAbs d

theorem textM_form (a d : Nat) : ∃ w n e, Form (textM a d) w n e ∧ ((a % d = 0 ∧ w = Lib.decDigits (a / d) ∧ n = [48] ∧ e = [49]) ∨ (a % d ≠ 0 ∧ a < d ∧ w = [48] ∧ n = Lib.decDigits (a % d) ∧ e = Lib.decDigits d) ∨ (a % d ≠ 0 ∧ d ≤ a ∧ w = Lib.decDigits (a / d) ∧ n = Lib.decDigits (a % d) ∧ e = Lib.decDigits d)) := by
  unfold textM
  by_cases h : a % d = 0
  · rw [if_pos h]
    exact ⟨_, _, _, .whole (dec_allD _), .inl ⟨h, rfl, rfl, rfl⟩⟩
  · rw [if_neg h]
    by_cases h2 : a < d
    · rw [if_pos h2]
      exact ⟨_, _, _, .frac (dec_allD _) (dec_allD _), .inr (.inl ⟨h, h2, rfl, rfl, rfl⟩)⟩
    · rw [if_neg h2]
      exact ⟨_, _, _, .mixed (dec_allD _) (dec_allD _) (dec_allD _), .inr (.inr ⟨h, by omega, rfl, rfl, rfl⟩)⟩
theorem textM_len (a d : Nat) (ha : a ≤ 1000000) (hd : d ≤ 1000000) (h1 : 1 ≤ d) : (textM a d).length ≤ 30 ∧ textM a d ≠ [] ∧ (textM a d).head? ≠ some 45 := by
  have q := dec_len (a / d) 7 (Nat.lt_of_le_of_lt (Nat.div_le_self _ _) (by omega)) (by decide)
  have r := dec_len (a % d) 7 (Nat.lt_of_le_of_lt (Nat.mod_le _ _) (by omega)) (by decide)
  have e := dec_len d 7 (by omega) (by decide)
  have hd : ∀ u l, (Lib.decDigits u ++ l).head? ≠ some 45 := fun u l he => by
    have := dec_all u
    cases hl : Lib.decDigits u with
    | nil => exact dec_ne u hl
    | cons x t =>
      rw [hl] at he this
      simp at he
      subst he
      simp [isD] at this
  unfold textM
  split
  · exact ⟨by omega, dec_ne _, by have := hd (a / d) []; rwa [List.append_nil] at this⟩
  · split
    · exact ⟨by simp; omega, by simp, hd _ _⟩
    · exact ⟨by simp; omega, by simp, hd _ _⟩

theorem text_back {n d : Int} (h : rightB n d = true) : parseE (textL n d.toNat) = (n, d, 0) := by
  obtain ⟨h1, h2, h3, h4, h5⟩ := right_of h
  obtain ⟨a, ha⟩ : ∃ a, n.natAbs = a := ⟨_, rfl⟩
  obtain ⟨e, he⟩ : ∃ e : Nat, d = e := ⟨d.toNat, by omega⟩
  subst he
  rw [Int.toNat_natCast]
  have hal : a ≤ 1000000 := by omega
  obtain ⟨l1, l2, l3⟩ := textM_len a e hal (by omega) (by omega)
  obtain ⟨w, m, k, hf, hcase⟩ := textM_form a e
  have hmk : ∀ x : Nat, x = a → mk (if decide (n < 0) = true then -((x : Nat) : Int) else ((x : Nat) : Int)) (e : Nat) = (n, (e : Int), 0) := fun x hx => by
    subst hx
    have : (if decide (n < 0) = true then -((x : Nat) : Int) else ((x : Nat) : Int)) = n := by
      by_cases hn : n < 0
      · rw [if_pos (by simpa using hn)]; omega
      · rw [if_neg (by simpa using hn)]; omega
    rw [this]
    exact mk_unique (by omega) h1 h2 h3 h4 h5 rfl
  have hval : parseM (decide (n < 0)) (partsL (textM a e)) = (n, (e : Int), 0) := by
    rw [parse_form hf]
    have hdiv := Nat.div_add_mod a e
    have hq : a / e ≤ 1000000 := Nat.le_trans (Nat.div_le_self _ _) hal
    have hr : a % e ≤ 1000000 := Nat.le_trans (Nat.mod_le _ _) hal
    rcases hcase with ⟨hm, rfl, rfl, rfl⟩ | ⟨hm, hlt, rfl, rfl, rfl⟩ | ⟨hm, hge, rfl, rfl, rfl⟩
    · rw [valD_dec _ hq, show valD [48] = 0 by decide, show valD [49] = 1 by decide, if_neg (by omega)]
      have hg : e = 1 := by
        have hdv : e ∣ a := Nat.dvd_of_mod_eq_zero hm
        have : Nat.gcd n.natAbs e = 1 := by have := h5; unfold gg at this; simpa using this
        rw [ha, Nat.gcd_eq_right hdv] at this
        exact this
      subst hg
      rw [Nat.div_one, Nat.mul_one, Nat.zero_add]
      exact hmk a rfl
    · rw [valD_dec _ hr, valD_dec e (by omega), show valD [48] = 0 by decide, if_neg (by omega), Nat.zero_mul, Nat.add_zero]
      exact hmk _ (Nat.mod_eq_of_lt hlt)
    · rw [valD_dec _ hr, valD_dec e (by omega), valD_dec _ hq, if_neg (by omega)]
      refine hmk _ ?_
      rw [Nat.mul_comm]; omega
  unfold textL parseE
  rw [ha]
  by_cases hn : n < 0
  · rw [if_pos hn, if_neg (by simp), if_neg (by simp; omega)]
    rw [show decide (n < 0) = true by simpa using hn] at hval
    simpa using hval
  · rw [if_neg hn, if_neg l2, if_neg (by omega), if_neg l3, show decide ((textM a e).head? = some 45) = false by simpa using l3]
    rw [show decide (n < 0) = false by simpa using hn] at hval
    exact hval
end Go.Proofs.YtoeacbmlodfciaaDoor.FracMath
