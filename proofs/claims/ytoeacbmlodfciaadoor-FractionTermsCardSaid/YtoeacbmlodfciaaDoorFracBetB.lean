/- More on the simplest fraction: bounds of quotients, and what lies at which denominator; no program is named here. -/
import Derived.Test.YtoeacbmlodfciaaDoorFracBet
namespace Go.Proofs.YtoeacbmlodfciaaDoor.FracMath
open Go.RowKit
theorem ediv_bd (n d : Int) (h : 1 ≤ d) : -(n.natAbs : Int) ≤ n / d ∧ n / d ≤ n.natAbs := by
  have h1 := Int.mul_ediv_add_emod n d
  have h2 := Int.emod_nonneg n (b := d) (by omega)
  have h3 := Int.emod_lt_of_pos n (b := d) (by omega)
  have h4 : (n / d).natAbs ≤ n.natAbs := Int.natAbs_ediv_le_natAbs n d
  omega
theorem ceil_min {n b p : Int} (hb : 1 ≤ b) (h : n ≤ p * b) : ceil n b ≤ p := by
  have h1 := (ceil_bd n b hb).2
  have h2 : (ceil n b - 1) * b < p * b := by rw [Int.sub_mul]; omega
  have := lt_of_mul h2 hb
  omega
theorem ediv_mul_le1 (n d : Int) (h : 1 ≤ d) : n / d * d ≤ n := Int.ediv_mul_le n (by omega)
theorem le_ediv {n d p : Int} (hd : 1 ≤ d) (h : p * d ≤ n) : p ≤ n / d := (Int.le_ediv_iff_mul_le (by omega)).2 h
theorem mul_le {x y d : Int} (h : x ≤ y) (hd : 1 ≤ d) : x * d ≤ y * d := Int.mul_le_mul_of_nonneg_right h (by omega)

theorem at_pos {a b c d p q : Int} (hb : 1 ≤ b) (hd : 1 ≤ d) (h : Best a b c d p q) :
    (∀ k, 1 ≤ k → k < q → c * k / d < ceil (a * k) b) ∧ ceil (a * q) b ≤ c * q / d ∧ 1 ≤ ceil (a * q) b ∧ p = ceil (a * q) b := by
  obtain ⟨h1, h2, h3, h4, h5⟩ := h
  have c1 : ceil (a * q) b ≤ p := ceil_min hb h3
  have c2 : p ≤ c * q / d := le_ediv hd h4
  have c3 := h5 (ceil (a * q) b) q h2 (ceil_bd (a * q) b hb).1 (by
    have e1 := mul_le (show ceil (a * q) b ≤ c * q / d by omega) hd
    have e2 := ediv_mul_le1 (c * q) d hd
    omega)
  refine ⟨fun k hk hq => ?_, by omega, by omega, by omega⟩
  by_cases hh : c * k / d < ceil (a * k) b
  · exact hh
  · have e1 := mul_le (show ceil (a * k) b ≤ c * k / d by omega) hd
    have e2 := ediv_mul_le1 (c * k) d hd
    have := h5 (ceil (a * k) b) k hk (ceil_bd (a * k) b hb).1 (by omega)
    omega

theorem at_neg {a b c d p q : Int} (hb : 1 ≤ b) (hd : 1 ≤ d) (ho : a * d ≤ c * b) (h : Best (-c) d (-a) b p q) :
    q ≤ b ∧ (∀ k, 1 ≤ k → k < q → c * k / d < ceil (a * k) b) ∧ ceil (a * q) b ≤ c * q / d ∧ ceil (a * q) b ≤ 0 ∧ c * q / d < 0 ∧ -p = c * q / d := by
  obtain ⟨h1, h2, h3, h4, h5⟩ := h
  have hqb := (h5 (-a) b hb (by rw [Int.neg_mul, Int.neg_mul]; omega) (Int.le_refl _)).1
  have n3 : -p * d ≤ c * q := by rw [Int.neg_mul] at h3 ⊢; omega
  have n4 : a * q ≤ -p * b := by rw [Int.neg_mul] at h4 ⊢; omega
  have c1 : ceil (a * q) b ≤ -p := ceil_min hb n4
  have c2 : -p ≤ c * q / d := le_ediv hd n3
  have inside : ∀ k, 1 ≤ k → ceil (a * k) b ≤ c * k / d → q ≤ k ∧ p ≤ -(c * k / d) := fun k hk hh => h5 (-(c * k / d)) k hk
    (by have e2 := ediv_mul_le1 (c * k) d hd
        rw [Int.neg_mul, Int.neg_mul]; omega)
    (by have e1 := mul_le hh hb
        have e3 := (ceil_bd (a * k) b hb).1
        rw [Int.neg_mul, Int.neg_mul]; omega)
  have c3 := inside q h2 (by omega)
  refine ⟨hqb, fun k hk hq => ?_, by omega, by omega, by omega, by omega⟩
  by_cases hh : c * k / d < ceil (a * k) b
  · exact hh
  · have := inside k hk (by omega); omega

theorem at_zero {a b c d : Int} (hb : 1 ≤ b) (hd : 1 ≤ d) (ha : a ≤ 0) (hc : 0 ≤ c) : ceil (a * 1) b ≤ 0 ∧ 0 ≤ c * 1 / d := by
  refine ⟨ceil_min hb (by omega), le_ediv hd (by omega)⟩

/-- the simplest number from a right fraction to itself -/
theorem best_self {a b p q : Int} (ha : 1 ≤ a) (hb : 1 ≤ b) (hg : gg a b = 1) (h : Best a b a b p q) : p = a ∧ q = b := by
  obtain ⟨k1, k2, k3, k4⟩ := best_bd ha hb ha hb (Int.le_refl _) h
  obtain ⟨h1, h2, h3, h4, h5⟩ := h
  have e : a * q = p * b := by omega
  have d1 : (b.natAbs) ∣ q.natAbs := by
    have hc : Nat.Coprime b.natAbs a.natAbs := by unfold gg at hg; exact Nat.Coprime.symm hg
    refine hc.dvd_of_dvd_mul_left ?_
    rw [← Int.natAbs_mul, e, Int.natAbs_mul]
    exact Nat.dvd_mul_left _ _
  have hq : q = b := by
    have := Nat.le_of_dvd (by omega) d1
    omega
  subst hq
  have := Int.eq_of_mul_eq_mul_right (show q ≠ 0 by omega) e
  exact ⟨this.symm, rfl⟩
end Go.Proofs.YtoeacbmlodfciaaDoor.FracMath
