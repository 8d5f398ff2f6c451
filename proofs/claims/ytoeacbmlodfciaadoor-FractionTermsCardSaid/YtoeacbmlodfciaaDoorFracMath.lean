/- Plain arithmetic on fractions (quotients in lowest terms, rounding down): no program is named here; no condition. -/
import Derived.WalkKit
namespace Go.Proofs.YtoeacbmlodfciaaDoor.FracMath
open Go.RowKit

def gg (a b : Int) : Nat := Nat.gcd a.natAbs b.natAbs
def rightB (n d : Int) : Bool := decide (1 ≤ d ∧ d ≤ 1000000 ∧ -1000000 ≤ n ∧ n ≤ 1000000 ∧ gg n d = 1)
def qn (n d : Int) : Int := if (decide (n < 0)) != (decide (d < 0)) then -((n.natAbs / gg n d : Nat) : Int) else ((n.natAbs / gg n d : Nat) : Int)
def qd (n d : Int) : Int := ((d.natAbs / gg n d : Nat) : Int)
def overB (n d : Int) : Bool := decide (1000000 < n.natAbs / gg n d ∨ 1000000 < d.natAbs / gg n d)
/-- numerator, denominator, error of the quotient of two ints -/
def mk (n d : Int) : Int × Int × Int := if d = 0 then (0, 0, 17) else if overB n d then (0, 0, 4) else (qn n d, qd n d, 0)

theorem gg_pos {n d : Int} (h : d ≠ 0) : 0 < gg n d := Nat.gcd_pos_of_pos_right _ (Int.natAbs_pos.2 h)
theorem gg_dvd_l (n d : Int) : gg n d ∣ n.natAbs := Nat.gcd_dvd_left _ _
theorem gg_dvd_r (n d : Int) : gg n d ∣ d.natAbs := Nat.gcd_dvd_right _ _
theorem gg_le {n d : Int} (h : d ≠ 0) : gg n d ≤ d.natAbs := Nat.le_of_dvd (Int.natAbs_pos.2 h) (gg_dvd_r n d)

/-- the exact division of n by s * g, where s is the sign of d -/
theorem tdiv_pos (n : Int) (g : Nat) : n.tdiv (g : Int) = if n < 0 then -((n.natAbs / g : Nat) : Int) else ((n.natAbs / g : Nat) : Int) := by
  rcases Int.natAbs_eq n with h | h
  · rw [if_neg (by omega)]; rw [h]; simp
  · by_cases h0 : n < 0
    · rw [if_pos h0]; rw [h, Int.neg_tdiv]; simp
    · have : n = 0 := by omega
      subst this; simp
theorem tdiv_neg' (n : Int) (g : Nat) : n.tdiv (-(g : Int)) = if n < 0 then ((n.natAbs / g : Nat) : Int) else -((n.natAbs / g : Nat) : Int) := by
  rw [Int.tdiv_neg, tdiv_pos]; split <;> simp
theorem qn_of_pos {n d : Int} (h : 0 ≤ d) : qn n d = n.tdiv (gg n d) := by
  unfold qn; rw [tdiv_pos]
  by_cases h0 : n < 0 <;> simp [h0, show ¬ d < 0 by omega]
theorem qn_of_neg {n d : Int} (h : d < 0) : qn n d = n.tdiv (-(gg n d : Int)) := by
  unfold qn; rw [tdiv_neg']
  by_cases h0 : n < 0 <;> simp [h0, h]
theorem qd_of_pos {n d : Int} (h : 0 ≤ d) : qd n d = d.tdiv (gg n d) := by
  unfold qd; rw [tdiv_pos, if_neg (by omega)]
theorem qd_of_neg {n d : Int} (h : d < 0) : qd n d = d.tdiv (-(gg n d : Int)) := by
  unfold qd; rw [tdiv_neg', if_pos h]
theorem natAbs_qn (n d : Int) : (qn n d).natAbs = n.natAbs / gg n d := by
  unfold qn; split
  · rw [Int.natAbs_neg, Int.natAbs_natCast]
  · rw [Int.natAbs_natCast]
theorem natAbs_qd (n d : Int) : (qd n d).natAbs = d.natAbs / gg n d := by unfold qd; rw [Int.natAbs_natCast]
theorem gg_quot {n d : Int} (h : d ≠ 0) : gg (qn n d) (qd n d) = 1 := by
  unfold gg; rw [natAbs_qn, natAbs_qd]
  exact Nat.gcd_div_gcd_div_gcd_of_pos_right (Int.natAbs_pos.2 h)
theorem qd_pos {n d : Int} (h : d ≠ 0) : 1 ≤ qd n d := by
  unfold qd
  have := Nat.div_pos (gg_le (n := n) h) (gg_pos (n := n) h)
  omega
theorem right_quot {n d : Int} (h : d ≠ 0) : rightB (qn n d) (qd n d) = !overB n d := by
  have h1 := gg_quot (n := n) h
  have h2 := qd_pos (n := n) h
  have h3 := natAbs_qn n d
  have h4 : qd n d = ((d.natAbs / gg n d : Nat) : Int) := rfl
  unfold rightB overB
  rw [h1]
  rw [Bool.eq_iff_iff]; simp only [decide_eq_true_eq, Bool.not_eq_true', decide_eq_false_iff_not, not_or, and_true]
  generalize qn n d = a at h3 ⊢; generalize n.natAbs / gg n d = x at h3 ⊢; generalize d.natAbs / gg n d = y at h4 ⊢
  generalize qd n d = b at h2 h4 ⊢
  omega

theorem quot_bounds (n d : Int) (h1 : -9223372036854775808 ≤ n) (h2 : n ≤ 9223372036854775807) (h3 : -9223372036854775808 ≤ d) (h4 : d ≤ 9223372036854775807) (hg : 1 ≤ Nat.gcd n.natAbs d.natAbs) :
    0 ≤ (n.natAbs : Int) / (Nat.gcd n.natAbs d.natAbs : Nat) ∧ (n.natAbs : Int) / (Nat.gcd n.natAbs d.natAbs : Nat) ≤ 9223372036854775808 ∧ 0 ≤ (d.natAbs : Int) / (Nat.gcd n.natAbs d.natAbs : Nat) ∧ (d.natAbs : Int) / (Nat.gcd n.natAbs d.natAbs : Nat) ≤ 9223372036854775808 := by
  have a1 : (n.natAbs : Int) / (Nat.gcd n.natAbs d.natAbs : Nat) ≤ n.natAbs := by
    have := Nat.div_le_self n.natAbs (Nat.gcd n.natAbs d.natAbs)
    rw [← Int.natCast_ediv]; omega
  have a2 : (d.natAbs : Int) / (Nat.gcd n.natAbs d.natAbs : Nat) ≤ d.natAbs := by
    have := Nat.div_le_self d.natAbs (Nat.gcd n.natAbs d.natAbs)
    rw [← Int.natCast_ediv]; omega
  exact ⟨Int.ediv_nonneg (by omega) (by omega), by omega, Int.ediv_nonneg (by omega) (by omega), by omega⟩
theorem over_right {n d : Int} (h : overB n d = true) (h1 : ¬ 1000000 < (n.natAbs : Int) / (Nat.gcd n.natAbs d.natAbs : Nat)) : 1000000 < (d.natAbs : Int) / (Nat.gcd n.natAbs d.natAbs : Nat) := by
  unfold overB gg at h
  rw [← Int.natCast_ediv] at h1 ⊢
  simp only [decide_eq_true_eq] at h
  omega
theorem not_over {n d : Int} (h : overB n d = false) : (n.natAbs : Int) / (Nat.gcd n.natAbs d.natAbs : Nat) ≤ 1000000 ∧ (d.natAbs : Int) / (Nat.gcd n.natAbs d.natAbs : Nat) ≤ 1000000 := by
  unfold overB gg at h
  rw [← Int.natCast_ediv, ← Int.natCast_ediv]
  simp only [decide_eq_false_iff_not, not_or] at h
  omega
theorem qn_same {n d : Int} (h : (decide (n < 0) != decide (d < 0)) = false) : qn n d = (n.natAbs : Int) / (Nat.gcd n.natAbs d.natAbs : Nat) := by
  unfold qn gg; rw [h, if_neg (by decide), Int.natCast_ediv]
theorem qn_other {n d : Int} (h : (decide (n < 0) != decide (d < 0)) = true) : qn n d = -((n.natAbs : Int) / (Nat.gcd n.natAbs d.natAbs : Nat)) := by
  unfold qn gg; rw [h, if_pos rfl, Int.natCast_ediv]
theorem qd_cast (n d : Int) : qd n d = (d.natAbs : Int) / (Nat.gcd n.natAbs d.natAbs : Nat) := by
  unfold qd gg; rw [Int.natCast_ediv]

theorem mk_zero (n : Int) : mk n 0 = (0, 0, 17) := rfl
theorem mk_over {n d : Int} (hd : d ≠ 0) (h : overB n d = true) : mk n d = (0, 0, 4) := by unfold mk; rw [if_neg hd, h, if_pos rfl]
theorem mk_ok {n d : Int} (hd : d ≠ 0) (h : overB n d = false) : mk n d = (qn n d, qd n d, 0) := by unfold mk; rw [if_neg hd, h, if_neg (by decide)]

/-! ## The reference's way to the same quotient: the divisor may be the least int, where it wraps. -/
theorem gg_bound {n d : Int} (h : d ≠ 0) (hd : -9223372036854775808 ≤ d) (hd' : d ≤ 9223372036854775807) : gg n d ≤ 9223372036854775808 := by
  have := gg_le (n := n) h; omega
theorem big_gg {n d : Int} (h : d ≠ 0) (hn : -9223372036854775808 ≤ n) (hn' : n ≤ 9223372036854775807) (hd : -9223372036854775808 ≤ d) (hd' : d ≤ 9223372036854775807)
    (hg : gg n d = 9223372036854775808) : d = -9223372036854775808 ∧ (n = 0 ∨ n = -9223372036854775808) := by
  have h1 := gg_le (n := n) h
  obtain ⟨k, hk⟩ := gg_dvd_l n d
  rw [hg] at h1 hk
  omega
theorem tm (a b : Int) : (0 ≤ a → a.tmod b = a % b ∧ a.tdiv b = a / b) ∧ (a < 0 → a.tmod b = -((-a) % b) ∧ a.tdiv b = -((-a) / b)) := by
  constructor
  · intro h; exact ⟨Int.tmod_eq_emod_of_nonneg h, Int.tdiv_eq_ediv_of_nonneg h⟩
  · intro h
    have h1 : a.tmod b = -((-a).tmod b) := by rw [Int.neg_tmod]; omega
    have h2 : a.tdiv b = -((-a).tdiv b) := by rw [Int.neg_tdiv]; omega
    rw [h1, h2, Int.tmod_eq_emod_of_nonneg (by omega), Int.tdiv_eq_ediv_of_nonneg (by omega)]; exact ⟨rfl, rfl⟩
theorem ediv_uniq {a b q r : Int} (hb : 0 < b) (h : a = b * q + r) (h0 : 0 ≤ r) (h1 : r < b) : a / b = q := by
  rw [h, Int.add_comm, Int.add_mul_ediv_left _ _ (by omega), Int.ediv_eq_zero_of_lt h0 h1]; omega
theorem floor1 (a b : Int) (hb : 0 < b) : (if a.tmod b < 0 then a.tdiv b - 1 else a.tdiv b) = a / b := by
  have e : a.tdiv b * b + a.tmod b = a := Int.tdiv_mul_add_tmod a b
  have r1 := Int.tmod_lt_of_pos a hb
  have r2 := Int.lt_tmod_of_pos a hb
  split
  · refine (ediv_uniq (r := a.tmod b + b) hb ?_ (by omega) (by omega)).symm
    rw [Int.mul_sub, Int.mul_comm b]; omega
  · refine (ediv_uniq (r := a.tmod b) hb ?_ (by omega) (by omega)).symm
    rw [Int.mul_comm b]; omega
theorem floor2 (a b : Int) (hb : 0 < b) : (if a < a.tdiv b * b then a.tdiv b - 1 else a.tdiv b) = a / b := by
  have e : a.tdiv b * b + a.tmod b = a := Int.tdiv_mul_add_tmod a b
  rw [← floor1 a b hb]
  split <;> split <;> first | rfl | omega

theorem qn_bd {n d : Int} (h1 : -9223372036854775808 ≤ n) (h2 : n ≤ 9223372036854775807) : -9223372036854775808 ≤ qn n d ∧ qn n d ≤ 9223372036854775808 := by
  have := natAbs_qn n d
  have := Nat.div_le_self n.natAbs (gg n d)
  omega
theorem qd_bd {n d : Int} (h3 : -9223372036854775808 ≤ d) (h4 : d ≤ 9223372036854775807) : 0 ≤ qd n d ∧ qd n d ≤ 9223372036854775808 := by
  have h5 := Nat.div_le_self d.natAbs (gg n d)
  unfold qd
  generalize d.natAbs / gg n d = x at h5 ⊢
  omega
theorem wrap_quot {n d : Int} (h1 : -9223372036854775808 ≤ n) (h2 : n ≤ 9223372036854775807) (h3 : -9223372036854775808 ≤ d) (h4 : d ≤ 9223372036854775807) (hd : d ≠ 0) :
    rightB (wrap64 (qn n d)) (wrap64 (qd n d)) = !overB n d := by
  obtain ⟨a1, a2⟩ := qn_bd (d := d) h1 h2
  obtain ⟨b1, b2⟩ := qd_bd (n := n) h3 h4
  have hr := right_quot (n := n) hd
  have k1 := natAbs_qn n d
  have k2 := natAbs_qd n d
  cases ho : overB n d
  · rw [ho] at hr
    unfold overB at ho
    simp only [decide_eq_false_iff_not, not_or] at ho
    have e1 : wrap64 (qn n d) = qn n d := by unfold wrap64; omega
    have e2 : wrap64 (qd n d) = qd n d := by unfold wrap64; omega
    rw [e1, e2]; exact hr
  · unfold overB at ho
    simp only [decide_eq_true_eq] at ho
    unfold rightB
    simp only [Bool.not_true, decide_eq_false_iff_not]
    intro h
    obtain ⟨g1, g2, g3, g4, _⟩ := h
    unfold wrap64 at g1 g2 g3 g4
    omega
theorem quot_in {n d : Int} (ho : overB n d = false) : wrap64 (qn n d) = qn n d ∧ wrap64 (qd n d) = qd n d := by
  have k1 := natAbs_qn n d
  have k2 := natAbs_qd n d
  have k3 : 0 ≤ qd n d := Int.natCast_nonneg _
  unfold overB at ho
  simp only [decide_eq_false_iff_not, not_or] at ho
  constructor
  · unfold wrap64; omega
  · unfold wrap64; omega
theorem right_in {n d : Int} (h1 : -1000000 ≤ n) (h2 : n ≤ 1000000) (h3 : 1 ≤ d) (h4 : d ≤ 1000000) : rightB n d = decide ((gg n d : Int) = 1) := by
  unfold rightB
  rw [Bool.eq_iff_iff]; simp only [decide_eq_true_eq]; omega
theorem right_out {n d : Int} (h : ¬ (-1000000 ≤ n ∧ n ≤ 1000000 ∧ 1 ≤ d ∧ d ≤ 1000000)) : rightB n d = false := by
  unfold rightB
  simp only [decide_eq_false_iff_not]; omega
theorem right_of {n d : Int} (h : rightB n d = true) : -1000000 ≤ n ∧ n ≤ 1000000 ∧ 1 ≤ d ∧ d ≤ 1000000 ∧ gg n d = 1 := by
  unfold rightB at h
  simp only [decide_eq_true_eq] at h; omega
theorem right_pos {n d : Int} (h : 1 ≤ d) : rightB (n.tdiv (gg n d : Nat)) (d / (gg n d : Nat)) = !overB n d := by
  rw [← right_quot (n := n) (d := d) (by omega), qn_of_pos (by omega), qd_of_pos (by omega), Int.tdiv_eq_ediv_of_nonneg (a := d) (by omega)]
theorem quot_pos {n d : Int} (h : 1 ≤ d) (_ : overB n d = false) : n.tdiv (gg n d : Nat) = qn n d ∧ d / (gg n d : Nat) = qd n d := by
  rw [qn_of_pos (by omega), qd_of_pos (by omega), Int.tdiv_eq_ediv_of_nonneg (a := d) (by omega)]; exact ⟨rfl, rfl⟩
theorem qn_neg {n d : Int} (h : d < 0) : qn n d = -(n.tdiv (gg n d : Nat)) := by rw [qn_of_neg h, Int.tdiv_neg]
theorem qd_neg {n d : Int} (h : d < 0) : qd n d = -(d.tdiv (gg n d : Nat)) := by rw [qd_of_neg h, Int.tdiv_neg]
theorem right_neg {n d : Int} (h1 : -9223372036854775808 ≤ n) (h2 : n ≤ 9223372036854775807) (h : d < 0) (h3 : -9223372036854775808 ≤ d) : rightB (wrap64 (-(n.tdiv (gg n d : Nat)))) (wrap64 (-(d.tdiv (gg n d : Nat)))) = !overB n d := by
  rw [← qn_neg h, ← qd_neg h]; exact wrap_quot h1 h2 h3 (by omega) (by omega)
theorem quot_neg {n d : Int} (h : d < 0) (ho : overB n d = false) : wrap64 (-(n.tdiv (gg n d : Nat))) = qn n d ∧ wrap64 (-(d.tdiv (gg n d : Nat))) = qd n d := by
  rw [← qn_neg h, ← qd_neg h]; exact quot_in ho
theorem gg_one (n : Int) : gg n 1 = 1 := Nat.gcd_one_right _
theorem mk_one_ok {n : Int} (h : n ≤ 1000000 ∧ -1000000 ≤ n) : mk n 1 = (n, 1, 0) := by
  have ho : overB n 1 = false := by
    unfold overB; rw [gg_one, Nat.div_one]
    simp only [decide_eq_false_iff_not]; omega
  rw [mk_ok (by decide) ho]
  have e1 : qn n 1 = n := by rw [qn_of_pos (by decide), gg_one]; exact Int.tdiv_one n
  have e2 : qd n 1 = 1 := by rw [qd_of_pos (by decide), gg_one]; rfl
  rw [e1, e2]
theorem mk_one_over {n : Int} (h : ¬ (n ≤ 1000000 ∧ -1000000 ≤ n)) : mk n 1 = (0, 0, 4) := by
  refine mk_over (by decide) ?_
  unfold overB; rw [gg_one, Nat.div_one]
  simp only [decide_eq_true_eq]; omega
theorem prod_bd {x y : Int} (hx : -1000000 ≤ x ∧ x ≤ 1000000) (hy : -1000000 ≤ y ∧ y ≤ 1000000) : -1000000000000 ≤ x * y ∧ x * y ≤ 1000000000000 := by
  have h : (x * y).natAbs ≤ 1000000 * 1000000 := by rw [Int.natAbs_mul]; exact Nat.mul_le_mul (by omega) (by omega)
  omega
theorem den_bd {x y : Int} (hx : 1 ≤ x ∧ x ≤ 1000000) (hy : 1 ≤ y ∧ y ≤ 1000000) : 1 ≤ x * y ∧ x * y ≤ 1000000000000 := by
  have h1 := Int.mul_pos (a := x) (b := y) (by omega) (by omega)
  have h2 := (prod_bd (x := x) (y := y) ⟨by omega, by omega⟩ ⟨by omega, by omega⟩).2
  omega
/-- numerator and denominator of a described fraction -/
def sn (p q : Int) : Int := qn p (q + 1)
def sd (p q : Int) : Int := qd p (q + 1)
theorem small_over {p q : Int} (h1 : -32768 ≤ p) (h2 : p ≤ 32767) (h3 : 0 ≤ q) (h4 : q ≤ 255) : overB p (q + 1) = false := by
  unfold overB
  simp only [decide_eq_false_iff_not, not_or]
  have a := Nat.div_le_self p.natAbs (gg p (q + 1))
  have b := Nat.div_le_self (q + 1).natAbs (gg p (q + 1))
  omega
theorem mk_small {p q : Int} (h1 : -32768 ≤ p) (h2 : p ≤ 32767) (h3 : 0 ≤ q) (h4 : q ≤ 255) : mk p (q + 1) = (sn p q, sd p q, 0) :=
  mk_ok (by omega) (small_over h1 h2 h3 h4)
theorem small_right {p q : Int} (h1 : -32768 ≤ p) (h2 : p ≤ 32767) (h3 : 0 ≤ q) (h4 : q ≤ 255) : rightB (sn p q) (sd p q) = true := by
  unfold sn sd
  rw [right_quot (by omega), small_over h1 h2 h3 h4]; rfl
end Go.Proofs.YtoeacbmlodfciaaDoor.FracMath
