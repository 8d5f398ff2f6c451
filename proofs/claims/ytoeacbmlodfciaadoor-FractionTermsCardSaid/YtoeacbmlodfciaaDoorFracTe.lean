/- Plain mathematics of the terms of continued fractions: Euclid's way down, and back; no program is named here. -/
import Derived.Test.YtoeacbmlodfciaaDoorFracVr
namespace Go.Proofs.YtoeacbmlodfciaaDoor.FracMath

/-- Euclid's way from a / b. -/
def eu (a b : Int) : Nat → Int × Int
  | 0 => (a, b)
  | j + 1 => ((eu a b j).2, (eu a b j).1 % (eu a b j).2)
theorem eu_succ (a b : Int) (j : Nat) : eu a b (j + 1) = ((eu a b j).2, (eu a b j).1 % (eu a b j).2) := rfl
theorem eu_shift (a b : Int) (j : Nat) : eu a b (j + 1) = eu b (a % b) j := by
  induction j with
  | zero => rfl
  | succ j ih => rw [eu_succ, ih, eu_succ b (a % b) j]
/-- The terms. -/
def te (a b : Int) (j : Nat) : Int := (eu a b j).1 / (eu a b j).2

/-- n terms: then nothing is left. -/
def Ends (a b : Int) (n : Nat) : Prop := (eu a b n).2 = 0 ∧ ∀ j, j < n → 0 < (eu a b j).2
theorem ends_any (k : Nat) : ∀ a b : Int, 0 ≤ b → b < 2 ^ k → ∃ n, n ≤ 2 * k ∧ Ends a b n := by
  induction k with
  | zero => intro a b h1 h2; exact ⟨0, Nat.le_refl _, by show b = 0; simp at h2; omega, fun j hj => absurd hj (Nat.not_lt_zero _)⟩
  | succ k ih =>
    intro a b h1 h2
    by_cases hb : b = 0
    · exact ⟨0, Nat.zero_le _, hb, fun j hj => absurd hj (Nat.not_lt_zero _)⟩
    · have hr1 := Int.emod_nonneg a hb
      have hr2 := Int.emod_lt_of_pos a (show 0 < b by omega)
      by_cases hr : a % b = 0
      · refine ⟨1, by omega, ?_, fun j hj => ?_⟩
        · rw [eu_shift]; exact hr
        · obtain rfl : j = 0 := by omega
          show 0 < b; omega
      · have hs1 := Int.emod_nonneg b hr
        have hs2 := Int.emod_lt_of_pos b (show 0 < a % b by omega)
        have hd := Int.mul_ediv_add_emod b (a % b)
        have hq : 1 ≤ b / (a % b) := Int.le_ediv_of_mul_le (by omega) (by omega)
        have hm := Int.mul_le_mul_of_nonneg_left hq (show 0 ≤ a % b by omega)
        rw [Int.mul_one] at hm
        have hlt : b % (a % b) < 2 ^ k := by rw [Int.pow_succ] at h2; omega
        obtain ⟨n, hn, he1, he2⟩ := ih (a % b) (b % (a % b)) hs1 hlt
        refine ⟨n + 2, by omega, ?_, fun j hj => ?_⟩
        · rw [eu_shift, eu_shift]; exact he1
        · rcases j with _ | _ | j
          · show 0 < b; omega
          · rw [eu_shift]; show 0 < a % b; omega
          · rw [eu_shift, eu_shift]; exact he2 j (by omega)

theorem eu_gcd {a b : Int} (hg : gg a b = 1) (j : Nat) : gg (eu a b j).1 (eu a b j).2 = 1 := by
  induction j with
  | zero => exact hg
  | succ j ih =>
    rw [eu_succ]
    unfold gg at *
    show Int.gcd (eu a b j).2 ((eu a b j).1 % (eu a b j).2) = 1
    have e : (eu a b j).1 % (eu a b j).2 = (eu a b j).1 + (-((eu a b j).1 / (eu a b j).2)) * (eu a b j).2 := by
      have := Int.mul_ediv_add_emod (eu a b j).1 (eu a b j).2
      rw [Int.neg_mul, Int.mul_comm ((eu a b j).1 / (eu a b j).2)]
      omega
    rw [e, Int.gcd_add_mul_right_right, Int.gcd_comm]
    exact ih
theorem eu_last {a b : Int} {n : Nat} (hg : gg a b = 1) (hn : 0 < n) (h : Ends a b n) : eu a b n = (1, 0) := by
  have h1 := eu_gcd hg n
  have h2 := h.1
  obtain ⟨m, rfl⟩ : ∃ m, n = m + 1 := ⟨n - 1, by omega⟩
  have h3 := h.2 m (by omega)
  have e := eu_succ a b m
  have e1 : (eu a b (m + 1)).1 = (eu a b m).2 := by rw [e]
  rw [h2] at h1
  unfold gg at h1
  simp at h1
  rw [e1] at h1
  exact Prod.ext (by rw [e1]; omega) h2
theorem cfs_eu {a b : Int} {n : Nat} (hg : gg a b = 1) (hn : 0 < n) (h : Ends a b n) {r : Nat} (hr : r ≤ n) : cfs (te a b) n r = eu a b (n - r) := by
  induction r with
  | zero => rw [Nat.sub_zero, eu_last hg hn h]; rfl
  | succ r ih =>
    rw [cfs_succ, ih (by omega), show n - r = (n - 1 - r) + 1 by omega, eu_succ, show n - (r + 1) = n - 1 - r by omega]
    unfold te
    refine Prod.ext ?_ rfl
    show (eu a b (n - 1 - r)).1 / (eu a b (n - 1 - r)).2 * (eu a b (n - 1 - r)).2 + (eu a b (n - 1 - r)).1 % (eu a b (n - 1 - r)).2 = _
    rw [Int.mul_comm]
    exact Int.mul_ediv_add_emod _ _
theorem eu_bound {a b : Int} {n : Nat} (hb : b ≤ 1000000) (h : Ends a b n) {j : Nat} (hj : j < n) : 0 < (eu a b j).2 ∧ (eu a b j).2 ≤ 1000000 := by
  refine ⟨h.2 j hj, ?_⟩
  induction j with
  | zero => exact hb
  | succ j ih =>
    rw [eu_succ]
    have := Int.emod_lt_of_pos (eu a b j).1 (h.2 j (by omega))
    have := ih (by omega)
    simp only
    omega
theorem eu_num {a b : Int} {n : Nat} (ha1 : -1000000 ≤ a) (ha2 : a ≤ 1000000) (hb : b ≤ 1000000) (h : Ends a b n) {j : Nat} (hj : j ≤ n) : -1000000 ≤ (eu a b j).1 ∧ (eu a b j).1 ≤ 1000000 := by
  cases j with
  | zero => exact ⟨ha1, ha2⟩
  | succ j =>
    have := eu_bound hb h (show j < n by omega)
    rw [eu_succ]
    simp only
    omega
theorem te_bound {a b : Int} {n : Nat} (ha1 : -1000000 ≤ a) (ha2 : a ≤ 1000000) (hb : b ≤ 1000000) (h : Ends a b n) {j : Nat} (hj : j < n) : -1000000 ≤ te a b j ∧ te a b j ≤ 1000000 := by
  obtain ⟨h1, h2⟩ := eu_bound hb h hj
  obtain ⟨h3, h4⟩ := eu_num ha1 ha2 hb h (show j ≤ n by omega)
  unfold te
  generalize (eu a b j).1 = p at *
  generalize (eu a b j).2 = q at *
  constructor
  · refine Int.le_ediv_of_mul_le h1 ?_
    have := Int.mul_le_mul_of_nonneg_left (show (1 : Int) ≤ q by omega) (show (0 : Int) ≤ 1000000 by decide)
    omega
  · refine Int.le_of_lt_add_one (Int.ediv_lt_of_lt_mul h1 ?_)
    have := Int.mul_le_mul_of_nonneg_left (show (1 : Int) ≤ q by omega) (show (0 : Int) ≤ 1000000 + 1 by decide)
    omega
theorem te_pos {a b : Int} {n : Nat} (h : Ends a b n) {j : Nat} (h1 : 1 ≤ j) (hj : j < n) : 1 ≤ te a b j := by
  obtain ⟨i, rfl⟩ : ∃ i, j = i + 1 := ⟨j - 1, by omega⟩
  have h2 := h.2 _ hj
  have h3 := h.2 i (by omega)
  unfold te
  rw [eu_succ] at h2 ⊢
  have := Int.emod_lt_of_pos (eu a b i).1 h3
  refine Int.le_ediv_of_mul_le h2 ?_
  simp only
  omega
/-- The value of the terms of a number is the number. -/
theorem terms_value {a b : Int} (hr : rightB a b = true) : ∃ n, 0 < n ∧ n ≤ 40 ∧ Ends a b n ∧ CfForm (te a b) n (a, b, 0) := by
  obtain ⟨h1, h2, h3, h4, h5⟩ := right_of hr
  obtain ⟨n, hn, he⟩ := ends_any 20 a b (by omega) (by omega)
  have hn0 : 0 < n := by
    rcases Nat.eq_zero_or_pos n with h | h
    · subst h
      have := he.1
      change b = 0 at this
      omega
    · exact h
  refine ⟨n, hn0, by omega, he, .inr ⟨fun i hi hin => te_pos he hi hin, ?_⟩⟩
  rw [cf_doneP, cfs_eu h5 hn0 he (Nat.le_refl _), Nat.sub_self]
  · exact (mk_unique (by show b ≠ 0; omega) h1 h2 h3 h4 h5 rfl).symm
  · intro r hrn
    rw [cfs_eu h5 hn0 he (by omega)]
    have t := te_bound h1 h2 h4 he (show n - 1 - r < n by omega)
    have p := (eu_num h1 h2 h4 he (show n - r ≤ n by omega)).2
    unfold okP
    simp
    omega
/-- What is left at each step. -/
theorem eu_step (a b : Int) (j : Nat) : (eu a b j).1 - te a b j * (eu a b j).2 = (eu a b (j + 1)).2 := by
  rw [eu_succ]
  unfold te
  have := Int.mul_ediv_add_emod (eu a b j).1 (eu a b j).2
  rw [Int.mul_comm]
  simp only
  omega
end Go.Proofs.YtoeacbmlodfciaaDoor.FracMath
