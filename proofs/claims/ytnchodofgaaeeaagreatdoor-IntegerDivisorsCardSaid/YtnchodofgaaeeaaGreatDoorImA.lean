/- Plain arithmetic of digits to a base: sums and products digit by digit, with carries; decimal numerals are unique; no program is named here. -/
import Derived.Lib.ItoaNum
namespace Go.Proofs.YtnchodofgaaeeaaGreatDoor.Im

section
variable {b : Nat}

/-- Digit number k of n to the base b. -/
def dg (b n k : Nat) : Nat := n / b ^ k % b

/-- How many digits n has to the base b (none for 0). -/
def nd (b n : Nat) : Nat := if h : 2 ≤ b ∧ 0 < n then nd b (n / b) + 1 else 0
termination_by n
decreasing_by exact Nat.div_lt_self h.2 h.1

theorem nd_zero : nd b 0 = 0 := by rw [nd, dif_neg (by omega)]
theorem nd_pos (hb : 2 ≤ b) {n : Nat} (h : 0 < n) : nd b n = nd b (n / b) + 1 := by rw [nd, dif_pos ⟨hb, h⟩]
theorem dg_lt (hb : 2 ≤ b) (n k : Nat) : dg b n k < b := Nat.mod_lt _ (by omega)

theorem nd_unique (hb : 2 ≤ b) : ∀ (k n : Nat), b ^ k ≤ n → n < b ^ (k + 1) → nd b n = k + 1
  | 0, n, h1, h2 => by
    rw [Nat.pow_zero] at h1
    rw [Nat.zero_add, Nat.pow_one] at h2
    rw [nd_pos hb (by omega), Nat.div_eq_of_lt h2, nd_zero]
  | k + 1, n, h1, h2 => by
    have hp : 0 < b ^ (k + 1) := Nat.pow_pos (by omega)
    rw [nd_pos hb (by omega), nd_unique hb k (n / b) ((Nat.le_div_iff_mul_le (by omega)).2 (by rw [← Nat.pow_succ]; exact h1)) ((Nat.div_lt_iff_lt_mul (by omega)).2 (by rw [← Nat.pow_succ]; exact h2))]
theorem lt_pow_nd (hb : 2 ≤ b) (n : Nat) : n < b ^ nd b n := by
  induction n using Nat.strongRecOn with
  | _ n ih =>
    by_cases h : n = 0
    · subst h; rw [nd_zero]; simp
    · rw [nd_pos hb (by omega), Nat.pow_succ]
      exact (Nat.div_lt_iff_lt_mul (by omega)).1 (ih _ (Nat.div_lt_self (by omega) hb))
theorem pow_nd_le (hb : 2 ≤ b) {n : Nat} (h : 0 < n) : b ^ (nd b n - 1) ≤ n := by
  induction n using Nat.strongRecOn with
  | _ n ih =>
    rw [nd_pos hb h, Nat.add_sub_cancel]
    by_cases h1 : n / b = 0
    · rw [h1, nd_zero, Nat.pow_zero]; exact h
    · have h2 := Nat.pos_of_ne_zero h1
      have := ih _ (Nat.div_lt_self h hb) h2
      rw [nd_pos hb (n := n / b) h2] at this ⊢
      rw [Nat.add_sub_cancel] at this
      rw [Nat.pow_succ]
      exact (Nat.le_div_iff_mul_le (by omega)).1 this
theorem nd_le (hb : 2 ≤ b) {n k : Nat} (h : n < b ^ k) : nd b n ≤ k := by
  by_cases h0 : n = 0
  · subst h0; rw [nd_zero]; omega
  · have h1 := pow_nd_le hb (n := n) (by omega)
    rcases Nat.lt_or_ge k (nd b n) with h2 | h2
    · have := Nat.pow_le_pow_right (n := b) (by omega) (show k ≤ nd b n - 1 by omega)
      omega
    · exact h2
theorem nd_eq_zero (hb : 2 ≤ b) {n : Nat} (h : nd b n = 0) : n = 0 := by
  rcases Nat.eq_zero_or_pos n with h0 | h0
  · exact h0
  · rw [nd_pos hb h0] at h; omega
theorem nd_mono (hb : 2 ≤ b) {m n : Nat} (h : m ≤ n) : nd b m ≤ nd b n := nd_le hb (Nat.lt_of_le_of_lt h (lt_pow_nd hb n))

theorem dg_high {n k : Nat} (h : n < b ^ k) : dg b n k = 0 := by
  unfold dg
  rw [Nat.div_eq_of_lt h, Nat.zero_mod]
theorem dg_above (hb : 2 ≤ b) {n k : Nat} (h : nd b n ≤ k) : dg b n k = 0 :=
  dg_high (Nat.lt_of_lt_of_le (lt_pow_nd hb n) (Nat.pow_le_pow_right (by omega) h))
/-- A number below b to k + 1 whose digit k is 0 is below b to k. -/
theorem lt_of_dg {n k : Nat} (hb : 2 ≤ b) (h : n < b ^ (k + 1)) (h0 : dg b n k = 0) : n < b ^ k := by
  unfold dg at h0
  have h1 : n / b ^ k < b := (Nat.div_lt_iff_lt_mul (Nat.pow_pos (by omega))).2 (by rw [Nat.mul_comm, ← Nat.pow_succ]; exact h)
  rw [Nat.mod_eq_of_lt h1] at h0
  rcases (Nat.div_eq_zero_iff).1 h0 with h2 | h2
  · have := Nat.pow_pos (n := k) (show 0 < b by omega); omega
  · exact h2
theorem nd_of_dg {n k : Nat} (hb : 2 ≤ b) (h : n < b ^ (k + 1)) (h0 : dg b n k ≠ 0) : nd b n = k + 1 := by
  refine nd_unique hb k n ?_ h
  rcases Nat.lt_or_ge n (b ^ k) with h1 | h1
  · exact absurd (dg_high h1) h0
  · exact h1
theorem dg_top (hb : 2 ≤ b) {n : Nat} (h : 0 < n) : dg b n (nd b n - 1) ≠ 0 := fun h0 => by
  have h1 := nd_pos hb h
  have := lt_of_dg (b := b) (n := n) (k := nd b n - 1) hb (by rw [show nd b n - 1 + 1 = nd b n by omega]; exact lt_pow_nd hb n) h0
  have := pow_nd_le hb h
  omega

theorem mod_succ (n k : Nat) : n % b ^ (k + 1) = n % b ^ k + b ^ k * dg b n k := Nat.mod_pow_succ
theorem mod_full (hb : 2 ≤ b) (n : Nat) : n % b ^ nd b n = n := Nat.mod_eq_of_lt (lt_pow_nd hb n)
theorem dg_mod {m n k : Nat} (h : m % b ^ (k + 1) = n % b ^ (k + 1)) : dg b m k = dg b n k := by
  unfold dg
  rw [← Nat.mod_mul_right_div_self, ← Nat.mod_mul_right_div_self, ← Nat.pow_succ, h]
/-- Numbers with the same digits are the same. -/
theorem eq_of_dg {k : Nat} : ∀ {m n : Nat}, (∀ j, j < k → dg b m j = dg b n j) → m % b ^ k = n % b ^ k := by
  induction k with
  | zero => intro m n _; simp [Nat.mod_one]
  | succ k ih => intro m n h; rw [mod_succ, mod_succ, ih (fun j hj => h j (by omega)), h k (by omega)]

/-- A step of a sum: x has its digits below i replaced by what y and the lower digits of x make, with a carry; d is added at place i. -/
theorem carry_sum (hb : 2 ≤ b) (x y d i : Nat) : (x % b ^ i + y) / b ^ i + dg b x i + d = (x % b ^ (i + 1) + (y + b ^ i * d)) / b ^ i := by
  have hp : 0 < b ^ i := Nat.pow_pos (by omega)
  rw [mod_succ, show x % b ^ i + b ^ i * dg b x i + (y + b ^ i * d) = (x % b ^ i + y) + b ^ i * (dg b x i + d) by rw [Nat.mul_add]; omega, Nat.add_mul_div_left _ _ hp]
  omega
theorem carry_digit (hb : 2 ≤ b) (x y d i : Nat) : ((x % b ^ i + y) / b ^ i + dg b x i + d) % b = dg b (x + (y + b ^ i * d)) i := by
  rw [carry_sum hb]
  exact dg_mod (by simp [Nat.add_mod])
theorem carry_next (hb : 2 ≤ b) (x y d i : Nat) : ((x % b ^ i + y) / b ^ i + dg b x i + d) / b = (x % b ^ (i + 1) + (y + b ^ i * d)) / b ^ (i + 1) := by
  rw [carry_sum hb, Nat.div_div_eq_div_mul, ← Nat.pow_succ]
end
end Go.Proofs.YtnchodofgaaeeaaGreatDoor.Im
