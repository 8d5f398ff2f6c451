/- Plain arithmetic on fractions (quotients in lowest terms, rounding down): no program is named here; no condition. -/
import Derived.WalkKit
import Derived.Lib.ItoaNum
namespace Go.Proofs.YthdoadkdofgenaaGreatDoor.FracMath
open Go.RowKit

def gg (a b : Int) : Nat := Nat.gcd a.natAbs b.natAbs
def rightB (n d : Int) : Bool := decide (1 ≤ d ∧ d ≤ 1000000 ∧ -1000000 ≤ n ∧ n ≤ 1000000 ∧ gg n d = 1)
def qn (n d : Int) : Int := if (decide (n < 0)) != (decide (d < 0)) then -((n.natAbs / gg n d : Nat) : Int) else ((n.natAbs / gg n d : Nat) : Int)
def qd (n d : Int) : Int := ((d.natAbs / gg n d : Nat) : Int)
def overB (n d : Int) : Bool := decide (1000000 < n.natAbs / gg n d ∨ 1000000 < d.natAbs / gg n d)
/-- numerator, denominator, error of the quotient of two ints -/
def mk (n d : Int) : Int × Int × Int := if d = 0 then (0, 0, 17) else if overB n d then (0, 0, 4) else (qn n d, qd n d, 0)

theorem gg_pos {n d : Int} (h : d ≠ 0) : 0 < gg n d := Nat.gcd_pos_of_pos_right _ (Int.natAbs_pos.2 h)
theorem gg_dvd_l (n d : Int) : gg n d ∣ n.natAbs := Nat.gcd_dvd_left _ _
theorem gg_dvd_r (n d : Int) : gg n d ∣ d.natAbs := Nat.gcd_dvd_right _ _
theorem gg_le {n d : Int} (h : d ≠ 0) : gg n d ≤ d.natAbs := Nat.le_of_dvd (Int.natAbs_pos.2 h) (gg_dvd_r n d)

/-- the exact division of n by s * g, where s is the sign of d -/
theorem tdiv_pos (n : Int) (g : Nat) : n.tdiv (g : Int) = if n < 0 then -((n.natAbs / g : Nat) : Int) else ((n.natAbs / g : Nat) : Int) := by
  rcases Int.natAbs_eq n with h | h
  · rw [if_neg (by omega)]; rw [h]; simp
  · by_cases h0 : n < 0
    · rw [if_pos h0]; rw [h, Int.neg_tdiv]; simp
    · have : n = 0 := by omega
      subst this; simp
theorem tdiv_neg' (n : Int) (g : Nat) : n.tdiv (-(g : Int)) = if n < 0 then ((n.natAbs / g : Nat) : Int) else -((n.natAbs / g : Nat) : Int) := by
  rw [Int.tdiv_neg, tdiv_pos]; split <;> simp
theorem qn_of_pos {n d : Int} (h : 0 ≤ d) : qn n d = n.tdiv (gg n d) := by
  unfold qn; rw [tdiv_pos]
  by_cases h0 : n < 0 <;> simp [h0, show ¬ d < 0 by omega]
theorem qn_of_neg {n d : Int} (h : d < 0) : qn n d = n.tdiv (-(gg n d : Int)) := by
  unfold qn; rw [tdiv_neg']
  by_cases h0 : n < 0 <;> simp [h0, h]
theorem qd_of_pos {n d : Int} (h : 0 ≤ d) : qd n d = d.tdiv (gg n d) := by
  unfold qd; rw [tdiv_pos, if_neg (by omega)]
theorem qd_of_neg {n d : Int} (h : d < 0) : qd n d = d.tdiv (-(gg n d : Int)) := by
  unfold qd; rw [tdiv_neg', if_pos h]
theorem natAbs_qn (n d : Int) : (qn n d).natAbs = n.natAbs / gg n d := by
  unfold qn; split
  · rw [Int.natAbs_neg, Int.natAbs_natCast]
  · rw [Int.natAbs_natCast]
theorem natAbs_qd (n d : Int) : (qd n d).natAbs = d.natAbs / gg n d := by unfold qd; rw [Int.natAbs_natCast]
theorem gg_quot {n d : Int} (h : d ≠ 0) : gg (qn n d) (qd n d) = 1 := by
  unfold gg; rw [natAbs_qn, natAbs_qd]
  exact Nat.gcd_div_gcd_div_gcd_of_pos_right (Int.natAbs_pos.2 h)
theorem qd_pos {n d : Int} (h : d ≠ 0) : 1 ≤ qd n d := by
  unfold qd
  have := Nat.div_pos (gg_le (n := n) h) (gg_pos (n := n) h)
  omega
theorem right_quot {n d : Int} (h : d ≠ 0) : rightB (qn n d) (qd n d) = !overB n d := by
  have h1 := gg_quot (n := n) h
  have h2 := qd_pos (n := n) h
  have h3 := natAbs_qn n d
  have h4 : qd n d = ((d.natAbs / gg n d : Nat) : Int) := rfl
  unfold rightB overB
  rw [h1]
  rw [Bool.eq_iff_iff]; simp only [decide_eq_true_eq, Bool.not_eq_true', decide_eq_false_iff_not, not_or, and_true]
  generalize qn n d = a at h3 ⊢; generalize n.natAbs / gg n d = x at h3 ⊢; generalize d.natAbs / gg n d = y at h4 ⊢
  generalize qd n d = b at h2 h4 ⊢
  omega

theorem quot_bounds (n d : Int) (h1 : -9223372036854775808 ≤ n) (h2 : n ≤ 9223372036854775807) (h3 : -9223372036854775808 ≤ d) (h4 : d ≤ 9223372036854775807) (hg : 1 ≤ Nat.gcd n.natAbs d.natAbs) :
    0 ≤ (n.natAbs : Int) / (Nat.gcd n.natAbs d.natAbs : Nat) ∧ (n.natAbs : Int) / (Nat.gcd n.natAbs d.natAbs : Nat) ≤ 9223372036854775808 ∧ 0 ≤ (d.natAbs : Int) / (Nat.gcd n.natAbs d.natAbs : Nat) ∧ (d.natAbs : Int) / (Nat.gcd n.natAbs d.natAbs : Nat) ≤ 9223372036854775808 := by
  have a1 : (n.natAbs : Int) / (Nat.gcd n.natAbs d.natAbs : Nat) ≤ n.natAbs := by
    have := Nat.div_le_self n.natAbs (Nat.gcd n.natAbs d.natAbs)
    rw [← Int.natCast_ediv]; omega
  have a2 : (d.natAbs : Int) / (Nat.gcd n.natAbs d.natAbs : Nat) ≤ d.natAbs := by
    have := Nat.div_le_self d.natAbs (Nat.gcd n.natAbs d.natAbs)
    rw [← Int.natCast_ediv]; omega
  exact ⟨Int.ediv_nonneg (by omega) (by omega), by omega, Int.ediv_nonneg (by omega) (by omega), by omega⟩
theorem over_right {n d : Int} (h : overB n d = true) (h1 : ¬ 1000000 < (n.natAbs : Int) / (Nat.gcd n.natAbs d.natAbs : Nat)) : 1000000 < (d.natAbs : Int) / (Nat.gcd n.natAbs d.natAbs : Nat) := by
  unfold overB gg at h
  rw [← Int.natCast_ediv] at h1 ⊢
  simp only [decide_eq_true_eq] at h
  omega
theorem not_over {n d : Int} (h : overB n d = false) : (n.natAbs : Int) / (Nat.gcd n.natAbs d.natAbs : Nat) ≤ 1000000 ∧ (d.natAbs : Int) / (Nat.gcd n.natAbs d.natAbs : Nat) ≤ 1000000 := by
  unfold overB gg at h
  rw [← Int.natCast_ediv, ← Int.natCast_ediv]
  simp only [decide_eq_false_iff_not, not_or] at h
  omega
theorem qn_same {n d : Int} (h : (decide (n < 0) != decide (d < 0)) = false) : qn n d = (n.natAbs : Int) / (Nat.gcd n.natAbs d.natAbs : Nat) := by
  unfold qn gg; rw [h, if_neg (by decide), Int.natCast_ediv]
theorem qn_other {n d : Int} (h : (decide (n < 0) != decide (d < 0)) = true) : qn n d = -((n.natAbs : Int) / (Nat.gcd n.natAbs d.natAbs : Nat)) := by
  unfold qn gg; rw [h, if_pos rfl, Int.natCast_ediv]
theorem qd_cast (n d : Int) : qd n d = (d.natAbs : Int) / (Nat.gcd n.natAbs d.natAbs : Nat) := by
  unfold qd gg; rw [Int.natCast_ediv]

theorem mk_zero (n : Int) : mk n 0 = (0, 0, 17) := rfl
theorem mk_over {n d : Int} (hd : d ≠ 0) (h : overB n d = true) : mk n d = (0, 0, 4) := by unfold mk; rw [if_neg hd, h, if_pos rfl]
theorem mk_ok {n d : Int} (hd : d ≠ 0) (h : overB n d = false) : mk n d = (qn n d, qd n d, 0) := by unfold mk; rw [if_neg hd, h, if_neg (by decide)]

/-! ## The reference's way to the same quotient: the divisor may be the least int, where it wraps. -/
theorem gg_bound {n d : Int} (h : d ≠ 0) (hd : -9223372036854775808 ≤ d) (hd' : d ≤ 9223372036854775807) : gg n d ≤ 9223372036854775808 := by
  have := gg_le (n := n) h; omega
theorem big_gg {n d : Int} (h : d ≠ 0) (hn : -9223372036854775808 ≤ n) (hn' : n ≤ 9223372036854775807) (hd : -9223372036854775808 ≤ d) (hd' : d ≤ 9223372036854775807)
    (hg : gg n d = 9223372036854775808) : d = -9223372036854775808 ∧ (n = 0 ∨ n = -9223372036854775808) := by
  have h1 := gg_le (n := n) h
  obtain ⟨k, hk⟩ := gg_dvd_l n d
  rw [hg] at h1 hk
  omega
theorem tm (a b : Int) : (0 ≤ a → a.tmod b = a % b ∧ a.tdiv b = a / b) ∧ (a < 0 → a.tmod b = -((-a) % b) ∧ a.tdiv b = -((-a) / b)) := by
  constructor
  · intro h; exact ⟨Int.tmod_eq_emod_of_nonneg h, Int.tdiv_eq_ediv_of_nonneg h⟩
  · intro h
    have h1 : a.tmod b = -((-a).tmod b) := by rw [Int.neg_tmod]; omega
    have h2 : a.tdiv b = -((-a).tdiv b) := by rw [Int.neg_tdiv]; omega
    rw [h1, h2, Int.tmod_eq_emod_of_nonneg (by omega), Int.tdiv_eq_ediv_of_nonneg (by omega)]; exact ⟨rfl, rfl⟩
theorem ediv_uniq {a b q r : Int} (hb : 0 < b) (h : a = b * q + r) (h0 : 0 ≤ r) (h1 : r < b) : a / b = q := by
  rw [h, Int.add_comm, Int.add_mul_ediv_left _ _ (by omega), Int.ediv_eq_zero_of_lt h0 h1]; omega
theorem floor1 (a b : Int) (hb : 0 < b) : (if a.tmod b < 0 then a.tdiv b - 1 else a.tdiv b) = a / b := by
  have e : a.tdiv b * b + a.tmod b = a := Int.tdiv_mul_add_tmod a b
  have r1 := Int.tmod_lt_of_pos a hb
  have r2 := Int.lt_tmod_of_pos a hb
  split
  · refine (ediv_uniq (r := a.tmod b + b) hb ?_ (by omega) (by omega)).symm
    rw [Int.mul_sub, Int.mul_comm b]; omega
  · refine (ediv_uniq (r := a.tmod b) hb ?_ (by omega) (by omega)).symm
    rw [Int.mul_comm b]; omega
theorem floor2 (a b : Int) (hb : 0 < b) : (if a < a.tdiv b * b then a.tdiv b - 1 else a.tdiv b) = a / b := by
  have e : a.tdiv b * b + a.tmod b = a := Int.tdiv_mul_add_tmod a b
  rw [← floor1 a b hb]
  split <;> split <;> first | rfl | omega

theorem qn_bd {n d : Int} (h1 : -9223372036854775808 ≤ n) (h2 : n ≤ 9223372036854775807) : -9223372036854775808 ≤ qn n d ∧ qn n d ≤ 9223372036854775808 := by
  have := natAbs_qn n d
  have := Nat.div_le_self n.natAbs (gg n d)
  omega
theorem qd_bd {n d : Int} (h3 : -9223372036854775808 ≤ d) (h4 : d ≤ 9223372036854775807) : 0 ≤ qd n d ∧ qd n d ≤ 9223372036854775808 := by
  have h5 := Nat.div_le_self d.natAbs (gg n d)
  unfold qd
  generalize d.natAbs / gg n d = x at h5 ⊢
  omega
theorem wrap_quot {n d : Int} (h1 : -9223372036854775808 ≤ n) (h2 : n ≤ 9223372036854775807) (h3 : -9223372036854775808 ≤ d) (h4 : d ≤ 9223372036854775807) (hd : d ≠ 0) :
    rightB (wrap64 (qn n d)) (wrap64 (qd n d)) = !overB n d := by
  obtain ⟨a1, a2⟩ := qn_bd (d := d) h1 h2
  obtain ⟨b1, b2⟩ := qd_bd (n := n) h3 h4
  have hr := right_quot (n := n) hd
  have k1 := natAbs_qn n d
  have k2 := natAbs_qd n d
  cases ho : overB n d
  · rw [ho] at hr
    unfold overB at ho
    simp only [decide_eq_false_iff_not, not_or] at ho
    have e1 : wrap64 (qn n d) = qn n d := by unfold wrap64; omega
    have e2 : wrap64 (qd n d) = qd n d := by unfold wrap64; omega
    rw [e1, e2]; exact hr
  · unfold overB at ho
    simp only [decide_eq_true_eq] at ho
    unfold rightB
    simp only [Bool.not_true, decide_eq_false_iff_not]
    intro h
    obtain ⟨g1, g2, g3, g4, _⟩ := h
    unfold wrap64 at g1 g2 g3 g4
    omega
theorem quot_in {n d : Int} (ho : overB n d = false) : wrap64 (qn n d) = qn n d ∧ wrap64 (qd n d) = qd n d := by
  have k1 := natAbs_qn n d
  have k2 := natAbs_qd n d
  have k3 : 0 ≤ qd n d := Int.natCast_nonneg _
  unfold overB at ho
  simp only [decide_eq_false_iff_not, not_or] at ho
  constructor
  · unfold wrap64; omega
  · unfold wrap64; omega
theorem right_in {n d : Int} (h1 : -1000000 ≤ n) (h2 : n ≤ 1000000) (h3 : 1 ≤ d) (h4 : d ≤ 1000000) : rightB n d = decide ((gg n d : Int) = 1) := by
  unfold rightB
  rw [Bool.eq_iff_iff]; simp only [decide_eq_true_eq]; omega
theorem right_out {n d : Int} (h : ¬ (-1000000 ≤ n ∧ n ≤ 1000000 ∧ 1 ≤ d ∧ d ≤ 1000000)) : rightB n d = false := by
  unfold rightB
  simp only [decide_eq_false_iff_not]; omega
theorem right_of {n d : Int} (h : rightB n d = true) : -1000000 ≤ n ∧ n ≤ 1000000 ∧ 1 ≤ d ∧ d ≤ 1000000 ∧ gg n d = 1 := by
  unfold rightB at h
  simp only [decide_eq_true_eq] at h; omega
theorem right_pos {n d : Int} (h : 1 ≤ d) : rightB (n.tdiv (gg n d : Nat)) (d / (gg n d : Nat)) = !overB n d := by
  rw [← right_quot (n := n) (d := d) (by omega), qn_of_pos (by omega), qd_of_pos (by omega), Int.tdiv_eq_ediv_of_nonneg (a := d) (by omega)]
theorem quot_pos {n d : Int} (h : 1 ≤ d) (_ : overB n d = false) : n.tdiv (gg n d : Nat) = qn n d ∧ d / (gg n d : Nat) = qd n d := by
  rw [qn_of_pos (by omega), qd_of_pos (by omega), Int.tdiv_eq_ediv_of_nonneg (a := d) (by omega)]; exact ⟨rfl, rfl⟩
theorem qn_neg {n d : Int} (h : d < 0) : qn n d = -(n.tdiv (gg n d : Nat)) := by rw [qn_of_neg h, Int.tdiv_neg]
theorem qd_neg {n d : Int} (h : d < 0) : qd n d = -(d.tdiv (gg n d : Nat)) := by rw [qd_of_neg h, Int.tdiv_neg]
theorem right_neg {n d : Int} (h1 : -9223372036854775808 ≤ n) (h2 : n ≤ 9223372036854775807) (h : d < 0) (h3 : -9223372036854775808 ≤ d) : rightB (wrap64 (-(n.tdiv (gg n d : Nat)))) (wrap64 (-(d.tdiv (gg n d : Nat)))) = !overB n d := by
  rw [← qn_neg h, ← qd_neg h]; exact wrap_quot h1 h2 h3 (by omega) (by omega)
theorem quot_neg {n d : Int} (h : d < 0) (ho : overB n d = false) : wrap64 (-(n.tdiv (gg n d : Nat))) = qn n d ∧ wrap64 (-(d.tdiv (gg n d : Nat))) = qd n d := by
  rw [← qn_neg h, ← qd_neg h]; exact quot_in ho
theorem gg_one (n : Int) : gg n 1 = 1 := Nat.gcd_one_right _
theorem mk_one_ok {n : Int} (h : n ≤ 1000000 ∧ -1000000 ≤ n) : mk n 1 = (n, 1, 0) := by
  have ho : overB n 1 = false := by
    unfold overB; rw [gg_one, Nat.div_one]
    simp only [decide_eq_false_iff_not]; omega
  rw [mk_ok (by decide) ho]
  have e1 : qn n 1 = n := by rw [qn_of_pos (by decide), gg_one]; exact Int.tdiv_one n
  have e2 : qd n 1 = 1 := by rw [qd_of_pos (by decide), gg_one]; rfl
  rw [e1, e2]
theorem mk_one_over {n : Int} (h : ¬ (n ≤ 1000000 ∧ -1000000 ≤ n)) : mk n 1 = (0, 0, 4) := by
  refine mk_over (by decide) ?_
  unfold overB; rw [gg_one, Nat.div_one]
  simp only [decide_eq_true_eq]; omega
theorem prod_bd {x y : Int} (hx : -1000000 ≤ x ∧ x ≤ 1000000) (hy : -1000000 ≤ y ∧ y ≤ 1000000) : -1000000000000 ≤ x * y ∧ x * y ≤ 1000000000000 := by
  have h : (x * y).natAbs ≤ 1000000 * 1000000 := by rw [Int.natAbs_mul]; exact Nat.mul_le_mul (by omega) (by omega)
  omega
theorem den_bd {x y : Int} (hx : 1 ≤ x ∧ x ≤ 1000000) (hy : 1 ≤ y ∧ y ≤ 1000000) : 1 ≤ x * y ∧ x * y ≤ 1000000000000 := by
  have h1 := Int.mul_pos (a := x) (b := y) (by omega) (by omega)
  have h2 := (prod_bd (x := x) (y := y) ⟨by omega, by omega⟩ ⟨by omega, by omega⟩).2
  omega
/-- numerator and denominator of a described fraction -/
def sn (p q : Int) : Int := qn p (q + 1)
def sd (p q : Int) : Int := qd p (q + 1)
theorem small_over {p q : Int} (h1 : -32768 ≤ p) (h2 : p ≤ 32767) (h3 : 0 ≤ q) (h4 : q ≤ 255) : overB p (q + 1) = false := by
  unfold overB
  simp only [decide_eq_false_iff_not, not_or]
  have a := Nat.div_le_self p.natAbs (gg p (q + 1))
  have b := Nat.div_le_self (q + 1).natAbs (gg p (q + 1))
  omega
theorem mk_small {p q : Int} (h1 : -32768 ≤ p) (h2 : p ≤ 32767) (h3 : 0 ≤ q) (h4 : q ≤ 255) : mk p (q + 1) = (sn p q, sd p q, 0) :=
  mk_ok (by omega) (small_over h1 h2 h3 h4)
theorem small_right {p q : Int} (h1 : -32768 ≤ p) (h2 : p ≤ 32767) (h3 : 0 ≤ q) (h4 : q ≤ 255) : rightB (sn p q) (sd p q) = true := by
  unfold sn sd
  rw [right_quot (by omega), small_over h1 h2 h3 h4]; rfl
end Go.Proofs.YthdoadkdofgenaaGreatDoor.FracMath
/- The arithmetic of sizes of intervals: exponents over one denominator. -/
namespace Go.Proofs.YthdoadkdofgenaaGreatDoor.Iv
open FracMath

theorem gg_scale (n d : Int) (k : Nat) : gg (n * k) (d * k) = gg n d * k := by
  unfold gg
  rw [Int.natAbs_mul, Int.natAbs_mul, Int.natAbs_natCast, Nat.gcd_mul_right]
theorem qn_scale (n d : Int) {k : Nat} (hk : 0 < k) : qn (n * k) (d * k) = qn n d := by
  have e : ∀ x : Int, (x * (k : Int) < 0) = (x < 0) := fun x => by
    apply propext
    refine ⟨fun h => ?_, fun h => Int.mul_neg_of_neg_of_pos h (by omega)⟩
    rcases Int.lt_or_le x 0 with h1 | h1
    · exact h1
    · have := Int.mul_nonneg h1 (show (0 : Int) ≤ k by omega)
      omega
  unfold qn
  rw [gg_scale, Int.natAbs_mul, Int.natAbs_natCast, Nat.mul_div_mul_right _ _ hk]
  simp only [e]
theorem qd_scale (n d : Int) {k : Nat} (hk : 0 < k) : qd (n * k) (d * k) = qd n d := by
  unfold qd
  rw [gg_scale, Int.natAbs_mul, Int.natAbs_natCast, Nat.mul_div_mul_right _ _ hk]
theorem qn_right {n d : Int} (h : rightB n d = true) : qn n d = n := by
  obtain ⟨_, _, h3, _, h5⟩ := right_of h
  rw [qn_of_pos (by omega), h5]
  simp
theorem qd_right {n d : Int} (h : rightB n d = true) : qd n d = d := by
  obtain ⟨_, _, h3, _, h5⟩ := right_of h
  rw [qd_of_pos (by omega), h5]
  simp

theorem lcm_div {D a b : Nat} (hD : 0 < D) (ha : a ∣ D) (hb : b ∣ D) : Nat.lcm (D / a) (D / b) = D / Nat.gcd a b := by
  have ha0 : 0 < a := Nat.pos_of_dvd_of_pos ha hD
  have hg0 : 0 < Nat.gcd a b := Nat.gcd_pos_of_pos_left _ ha0
  have hgD : Nat.gcd a b ∣ D := Nat.dvd_trans (Nat.gcd_dvd_left a b) ha
  have key : ∀ x : Nat, x ∣ D → Nat.gcd a b ∣ x → D / x ∣ D / Nat.gcd a b := fun x hx hg => by
    obtain ⟨p, hp⟩ := hx
    obtain ⟨u, hu⟩ := hg
    have hx0 : 0 < x := Nat.pos_of_dvd_of_pos ⟨p, hp⟩ hD
    refine ⟨u, ?_⟩
    have e1 : D / x = p := by rw [hp]; exact Nat.mul_div_cancel_left _ hx0
    rw [e1, hp]
    conv => lhs; lhs; rw [hu, Nat.mul_assoc]
    rw [Nat.mul_div_cancel_left _ hg0, Nat.mul_comm]
  apply Nat.dvd_antisymm
  · exact Nat.lcm_dvd (key a ha (Nat.gcd_dvd_left a b)) (key b hb (Nat.gcd_dvd_right a b))
  · obtain ⟨x, hx⟩ := Nat.dvd_lcm_left (D / a) (D / b)
    obtain ⟨y, hy⟩ := Nat.dvd_lcm_right (D / a) (D / b)
    generalize Nat.lcm (D / a) (D / b) = L at *
    have h1 : D ∣ a * L := ⟨x, by rw [hx, ← Nat.mul_assoc, Nat.mul_div_cancel' ha]⟩
    have h2 : D ∣ b * L := ⟨y, by rw [hy, ← Nat.mul_assoc, Nat.mul_div_cancel' hb]⟩
    have h3 : D ∣ Nat.gcd a b * L := by rw [← Nat.gcd_mul_right]; exact Nat.dvd_gcd h1 h2
    obtain ⟨z, hz⟩ := h3
    refine ⟨z, Nat.eq_of_mul_eq_mul_left hg0 ?_⟩
    rw [hz, ← Nat.mul_assoc, Nat.mul_div_cancel' hgD]

/-- The common divisor of three numerators and a denominator. -/
def g4 (a b c d : Int) : Nat := Nat.gcd c.natAbs (Nat.gcd b.natAbs (Nat.gcd a.natAbs d.natAbs))
theorem g4_scale (a b c d : Int) (k : Nat) : g4 (a * k) (b * k) (c * k) (d * k) = g4 a b c d * k := by
  unfold g4
  simp only [Int.natAbs_mul, Int.natAbs_natCast, Nat.gcd_mul_right]
theorem g4_pos {a b c d : Int} (h : 0 < d) : 0 < g4 a b c d :=
  Nat.gcd_pos_of_pos_right _ (Nat.gcd_pos_of_pos_right _ (Nat.gcd_pos_of_pos_right _ (Int.natAbs_pos.2 (by omega))))
theorem g4_a (a b c d : Int) : (g4 a b c d : Int) ∣ a := Int.ofNat_dvd_left.2 (Nat.dvd_trans (Nat.gcd_dvd_right ..) (Nat.dvd_trans (Nat.gcd_dvd_right ..) (Nat.gcd_dvd_left ..)))
theorem g4_b (a b c d : Int) : (g4 a b c d : Int) ∣ b := Int.ofNat_dvd_left.2 (Nat.dvd_trans (Nat.gcd_dvd_right ..) (Nat.gcd_dvd_left ..))
theorem g4_c (a b c d : Int) : (g4 a b c d : Int) ∣ c := Int.ofNat_dvd_left.2 (Nat.gcd_dvd_left ..)
theorem g4_d (a b c d : Int) : (g4 a b c d : Int) ∣ d := Int.ofNat_dvd_left.2 (Nat.dvd_trans (Nat.gcd_dvd_right ..) (Nat.dvd_trans (Nat.gcd_dvd_right ..) (Nat.gcd_dvd_right ..)))
/-- Parts in lowest terms are those of a right size. -/
def inB (a b c d : Int) : Bool := decide (-6000 ≤ a ∧ a ≤ 6000 ∧ -6000 ≤ b ∧ b ≤ 6000 ∧ -6000 ≤ c ∧ c ≤ 6000 ∧ d ≤ 240)
def okB (a b c d : Int) : Bool := inB (a.tdiv (g4 a b c d)) (b.tdiv (g4 a b c d)) (c.tdiv (g4 a b c d)) (d.tdiv (g4 a b c d))
theorem tdiv_scale (x : Int) (g : Nat) {k : Nat} (hk : 0 < k) : (x * (k : Int)).tdiv ((g * k : Nat) : Int) = x.tdiv g := by
  rw [Int.natCast_mul]
  exact Int.mul_tdiv_mul_of_pos_left _ _ (by omega)
theorem okB_scale (a b c d : Int) {k : Nat} (hk : 0 < k) : okB (a * k) (b * k) (c * k) (d * k) = okB a b c d := by
  unfold okB
  rw [g4_scale]
  simp only [tdiv_scale _ _ hk]

/-- Three right fractions over their least common denominator. -/
def D3 (d e f : Int) : Nat := Nat.lcm (Nat.lcm d.natAbs e.natAbs) f.natAbs
def up (n d : Int) (D : Nat) : Int := n * ((D / d.natAbs : Nat) : Int)
/-- What a size reads as: numerators, denominator, error. -/
def rdE (n2 d2 n3 d3 n5 d5 : Int) : Int :=
  if rightB n2 d2 && rightB n3 d3 && rightB n5 d5 then (if inB (up n2 d2 (D3 d2 d3 d5)) (up n3 d3 (D3 d2 d3 d5)) (up n5 d5 (D3 d2 d3 d5)) (D3 d2 d3 d5) then 0 else 4) else 2
theorem D3_pos {d e f : Int} (h1 : 0 < d) (h2 : 0 < e) (h3 : 0 < f) : 0 < D3 d e f :=
  Nat.lcm_pos (Nat.lcm_pos (Int.natAbs_pos.2 (by omega)) (Int.natAbs_pos.2 (by omega))) (Int.natAbs_pos.2 (by omega))
theorem D3_a (d e f : Int) : d.natAbs ∣ D3 d e f := Nat.dvd_trans (Nat.dvd_lcm_left ..) (Nat.dvd_lcm_left ..)
theorem D3_b (d e f : Int) : e.natAbs ∣ D3 d e f := Nat.dvd_trans (Nat.dvd_lcm_right ..) (Nat.dvd_lcm_left ..)
theorem D3_c (d e f : Int) : f.natAbs ∣ D3 d e f := Nat.dvd_lcm_right ..
/-- A right fraction over a multiple of its denominator is itself. -/
theorem qn_up {n d : Int} {D : Nat} (h : rightB n d = true) (hD : 0 < D) (hd : d.natAbs ∣ D) : qn (up n d D) D = n ∧ qd (up n d D) D = d := by
  obtain ⟨h1, h2, h3, h4, h5⟩ := right_of h
  obtain ⟨k, rfl⟩ := hd
  have hk : 0 < k := Nat.pos_of_ne_zero (fun e => by subst e; simp at hD)
  have hd0 : 0 < d.natAbs := Int.natAbs_pos.2 (by omega)
  have e1 : up n d (d.natAbs * k) = n * (k : Int) := by unfold up; rw [Nat.mul_div_cancel_left _ hd0]
  have e2 : ((d.natAbs * k : Nat) : Int) = d * (k : Int) := by rw [Int.natCast_mul]; congr 1; omega
  rw [e1, e2, qn_scale _ _ hk, qd_scale _ _ hk]
  exact ⟨qn_right h, qd_right h⟩

/-- Parts in lowest terms, written as fractions, read as themselves. -/
theorem qd_nat (a : Int) (D : Nat) : (qd a (D : Int)).natAbs = D / Nat.gcd a.natAbs D := by
  rw [natAbs_qd]; rfl
theorem D3_write {a b c : Int} {D : Nat} (hD : 0 < D) (hg : g4 a b c D = 1) : D3 (qd a D) (qd b D) (qd c D) = D := by
  unfold D3
  rw [qd_nat, qd_nat, qd_nat]
  have ga : Nat.gcd a.natAbs D ∣ D := Nat.gcd_dvd_right ..
  have gb : Nat.gcd b.natAbs D ∣ D := Nat.gcd_dvd_right ..
  have gc : Nat.gcd c.natAbs D ∣ D := Nat.gcd_dvd_right ..
  have gab : Nat.gcd (Nat.gcd a.natAbs D) (Nat.gcd b.natAbs D) ∣ D := Nat.dvd_trans (Nat.gcd_dvd_left ..) ga
  rw [lcm_div hD ga gb, lcm_div hD gab gc]
  have e : Nat.gcd (Nat.gcd (Nat.gcd a.natAbs D) (Nat.gcd b.natAbs D)) (Nat.gcd c.natAbs D) = 1 := by
    apply Nat.dvd_antisymm
    · unfold g4 at hg
      rw [← hg, Int.natAbs_natCast]
      have h1 := Nat.gcd_dvd_left (Nat.gcd (Nat.gcd a.natAbs D) (Nat.gcd b.natAbs D)) (Nat.gcd c.natAbs D)
      have h2 := Nat.gcd_dvd_right (Nat.gcd (Nat.gcd a.natAbs D) (Nat.gcd b.natAbs D)) (Nat.gcd c.natAbs D)
      refine Nat.dvd_gcd (Nat.dvd_trans h2 (Nat.gcd_dvd_left ..)) (Nat.dvd_gcd (Nat.dvd_trans (Nat.dvd_trans h1 (Nat.gcd_dvd_right ..)) (Nat.gcd_dvd_left ..)) (Nat.dvd_trans h1 (Nat.gcd_dvd_left ..)))
    · exact Nat.one_dvd _
  rw [e, Nat.div_one]
theorem up_write {a : Int} {D : Nat} (hD : 0 < D) : up (qn a D) (qd a D) D = a := by
  unfold up
  rw [qd_nat]
  have ga : Nat.gcd a.natAbs D ∣ D := Nat.gcd_dvd_right ..
  have hg0 : 0 < Nat.gcd a.natAbs D := Nat.gcd_pos_of_pos_right _ hD
  have e1 : D / (D / Nat.gcd a.natAbs D) = Nat.gcd a.natAbs D := by
    obtain ⟨k, hk⟩ := ga
    have hk0 : 0 < k := Nat.pos_of_ne_zero (fun e => by rw [e] at hk; omega)
    have e2 : D / Nat.gcd a.natAbs D = k := by conv => lhs; lhs; rw [hk]
                                               exact Nat.mul_div_cancel_left _ hg0
    rw [e2]
    conv => lhs; lhs; rw [hk]
    exact Nat.mul_div_cancel _ hk0
  rw [e1, qn_of_pos (by omega)]
  have e3 : gg a (D : Int) = Nat.gcd a.natAbs D := by unfold gg; rw [Int.natAbs_natCast]
  rw [e3]
  exact Int.tdiv_mul_cancel (Int.ofNat_dvd_left.2 (Nat.gcd_dvd_left ..))
theorem tdiv_mul_g {x : Int} {g : Nat} (h : (g : Int) ∣ x) : x.tdiv g * (g : Int) = x := Int.tdiv_mul_cancel h
theorem g4_low {a b c d : Int} (h : 0 < d) : g4 (a.tdiv (g4 a b c d)) (b.tdiv (g4 a b c d)) (c.tdiv (g4 a b c d)) (d.tdiv (g4 a b c d)) = 1 := by
  have h0 := g4_pos (a := a) (b := b) (c := c) h
  have e := g4_scale (a.tdiv (g4 a b c d)) (b.tdiv (g4 a b c d)) (c.tdiv (g4 a b c d)) (d.tdiv (g4 a b c d)) (g4 a b c d)
  rw [tdiv_mul_g (g4_a ..), tdiv_mul_g (g4_b ..), tdiv_mul_g (g4_c ..), tdiv_mul_g (g4_d ..)] at e
  exact Nat.eq_of_mul_eq_mul_right h0 (by rw [← e, Nat.one_mul])
theorem tdiv_nat {D g : Nat} : ((D : Int)).tdiv (g : Int) = ((D / g : Nat) : Int) := by simp
theorem low_pos {a b c : Int} {D : Nat} (hD : 0 < D) : 0 < D / g4 a b c D := by
  have h0 := g4_pos (a := a) (b := b) (c := c) (d := (D : Int)) (by omega)
  have h1 := g4_d a b c (D : Int)
  exact Nat.div_pos (Nat.le_of_dvd hD (Int.ofNat_dvd.1 h1)) h0
theorem right_in_ {a : Int} {D : Nat} (hD : 0 < D) (h1 : -6000 ≤ a) (h2 : a ≤ 6000) (h3 : D ≤ 240) : rightB (qn a D) (qd a D) = true := by
  rw [right_quot (by omega)]
  have h4 : a.natAbs / gg a (D : Int) ≤ a.natAbs := Nat.div_le_self _ _
  have h5 : (D : Int).natAbs / gg a (D : Int) ≤ (D : Int).natAbs := Nat.div_le_self _ _
  unfold overB
  simp only [Bool.not_eq_true', decide_eq_false_iff_not]
  omega
/-- Parts, written as fractions, read as a right size exactly if they are those of one in lowest terms; they then read in lowest terms. -/
theorem rd_low {a b c : Int} {D : Nat} (hD : 0 < D) (hg : g4 a b c D = 1) :
    (rdE (qn a D) (qd a D) (qn b D) (qd b D) (qn c D) (qd c D) = 0 ↔ inB a b c D = true) := by
  have e := D3_write hD hg
  unfold rdE
  rw [e, up_write hD, up_write hD, up_write hD]
  by_cases h : inB a b c D = true
  · have h' := h
    unfold inB at h'
    simp only [decide_eq_true_eq] at h'
    rw [right_in_ hD h'.1 h'.2.1 (by omega), right_in_ hD h'.2.2.1 h'.2.2.2.1 (by omega), right_in_ hD h'.2.2.2.2.1 h'.2.2.2.2.2.1 (by omega), h]
    simp
  · rw [Bool.not_eq_true] at h
    rw [h]
    split <;> simp
theorem qn_low {a : Int} {D g : Nat} (hg : 0 < g) (h1 : (g : Int) ∣ a) (h2 : g ∣ D) : qn a D = qn (a.tdiv g) ((D / g : Nat) : Int) ∧ qd a D = qd (a.tdiv g) ((D / g : Nat) : Int) := by
  have e1 := tdiv_mul_g h1
  have e2 : (((D / g : Nat) : Int)) * (g : Int) = D := by rw [← Int.natCast_mul, Nat.div_mul_cancel h2]
  constructor
  · conv => lhs; rw [← e1, ← e2]
    exact qn_scale _ _ hg
  · conv => lhs; rw [← e1, ← e2]
    exact qd_scale _ _ hg
theorem rd_write {a b c : Int} {D : Nat} (hD : 0 < D) : (rdE (qn a D) (qd a D) (qn b D) (qd b D) (qn c D) (qd c D) = 0 ↔ okB a b c D = true) := by
  have h0 := g4_pos (a := a) (b := b) (c := c) (d := (D : Int)) (by omega)
  have hl := g4_low (a := a) (b := b) (c := c) (d := (D : Int)) (by omega)
  rw [tdiv_nat] at hl
  have hd : g4 a b c D ∣ D := Int.ofNat_dvd.1 (g4_d a b c (D : Int))
  rw [(qn_low h0 (g4_a a b c D) hd).1, (qn_low h0 (g4_a a b c D) hd).2, (qn_low h0 (g4_b a b c D) hd).1, (qn_low h0 (g4_b a b c D) hd).2, (qn_low h0 (g4_c a b c D) hd).1, (qn_low h0 (g4_c a b c D) hd).2]
  rw [rd_low (low_pos hD) hl]
  unfold okB
  rw [tdiv_nat]
/-- A right size over its least common denominator is in lowest terms, or becomes so without leaving the range. -/
theorem ok_of_in {a b c : Int} {D : Nat} (h : inB a b c D = true) : okB a b c D = true := by
  unfold inB at h
  simp only [decide_eq_true_eq] at h
  obtain ⟨h1, h2, h3, h4, h5, h6, h7⟩ := h
  have k : ∀ x : Int, ∀ g : Nat, (x.tdiv (g : Int)).natAbs ≤ x.natAbs := fun x g => by rw [Int.natAbs_tdiv]; exact Nat.div_le_self _ _
  have ka := k a (g4 a b c D)
  have kb := k b (g4 a b c D)
  have kc := k c (g4 a b c D)
  have kd := k (D : Int) (g4 a b c D)
  unfold okB inB
  simp only [decide_eq_true_eq]
  omega
end Go.Proofs.YthdoadkdofgenaaGreatDoor.Iv
/- Sums, multiples and comparisons of sizes, over any denominators. -/
namespace Go.Proofs.YthdoadkdofgenaaGreatDoor.Iv
open FracMath

/-- What a quotient is depends on its value only. -/
theorem qn_eqv {n n' : Int} {d d' : Nat} (h1 : 0 < d) (h2 : 0 < d') (h : n * d' = n' * d) : qn n d = qn n' d' ∧ qd n d = qd n' d' := by
  have e : (d : Int) * d' = d' * d := Int.mul_comm ..
  constructor
  · rw [← qn_scale n d h2, h, e, qn_scale n' d' h1]
  · rw [← qd_scale n d h2, h, e, qd_scale n' d' h1]
theorem okB_eqv {a b c a' b' c' : Int} {d d' : Nat} (h1 : 0 < d) (h2 : 0 < d') (ha : a * d' = a' * d) (hb : b * d' = b' * d) (hc : c * d' = c' * d) : okB a b c d = okB a' b' c' d' := by
  have e : (d : Int) * d' = d' * d := Int.mul_comm ..
  rw [← okB_scale a b c d h2, ha, hb, hc, e, okB_scale a' b' c' d' h1]

/-- Two denominators and their least common multiple. -/
theorem lcm_parts {d e : Nat} (hd : 0 < d) (he : 0 < e) : Nat.lcm d e * Nat.gcd d e = d * e ∧ Nat.lcm d e / d * Nat.gcd d e = e ∧ Nat.lcm d e / e * Nat.gcd d e = d := by
  have h1 : Nat.lcm d e * Nat.gcd d e = d * e := by rw [Nat.mul_comm]; exact Nat.gcd_mul_lcm d e
  refine ⟨h1, ?_, ?_⟩
  · apply Nat.eq_of_mul_eq_mul_left hd
    rw [← Nat.mul_assoc, Nat.mul_div_cancel' (Nat.dvd_lcm_left d e), h1]
  · apply Nat.eq_of_mul_eq_mul_left he
    rw [← Nat.mul_assoc, Nat.mul_div_cancel' (Nat.dvd_lcm_right d e), h1, Nat.mul_comm]
def cb (a b : Int) (d e : Nat) (k : Int) : Int := a * ((Nat.lcm d e / d : Nat) : Int) + k * (b * ((Nat.lcm d e / e : Nat) : Int))
theorem cb_eqv {d e : Nat} (hd : 0 < d) (he : 0 < e) (a b k : Int) : cb a b d e k * ((d * e : Nat) : Int) = (a * e + k * b * d) * ((Nat.lcm d e : Nat) : Int) := by
  obtain ⟨h1, h2, h3⟩ := lcm_parts hd he
  have hg : 0 < Nat.gcd d e := Nat.gcd_pos_of_pos_left _ hd
  have e2 : (e : Int) = ((Nat.lcm d e / d : Nat) : Int) * ((Nat.gcd d e : Nat) : Int) := by rw [← Int.natCast_mul, h2]
  have e3 : (d : Int) = ((Nat.lcm d e / e : Nat) : Int) * ((Nat.gcd d e : Nat) : Int) := by rw [← Int.natCast_mul, h3]
  have e1 : ((d * e : Nat) : Int) = ((Nat.lcm d e : Nat) : Int) * ((Nat.gcd d e : Nat) : Int) := by rw [← Int.natCast_mul, h1]
  unfold cb
  rw [e1]
  generalize hL : ((Nat.lcm d e : Nat) : Int) = L at *
  generalize hG : ((Nat.gcd d e : Nat) : Int) = g at *
  generalize hU : ((Nat.lcm d e / d : Nat) : Int) = u at *
  generalize hV : ((Nat.lcm d e / e : Nat) : Int) = v at *
  have e4 : a * (e : Int) + k * b * (d : Int) = (a * u + k * (b * v)) * g := by
    rw [e2, e3, Int.add_mul, Int.mul_assoc, Int.mul_assoc, Int.mul_assoc, Int.mul_assoc]
  rw [e4]
  generalize a * u + k * (b * v) = s
  rw [Int.mul_comm L g, ← Int.mul_assoc]

/-- The sign of a number. -/
def sg (z : Int) : Int := if z = 0 then 0 else if z < 0 then -1 else 1
theorem sg_scale (z : Int) {k : Nat} (hk : 0 < k) : sg (z * k) = sg z := by
  unfold sg
  have h1 : (z * (k : Int) = 0) = (z = 0) := by
    apply propext
    rw [Int.mul_eq_zero]
    constructor
    · rintro (h | h)
      · exact h
      · omega
    · exact .inl
  have h2 : (z * (k : Int) < 0) = (z < 0) := by
    apply propext
    refine ⟨fun h => ?_, fun h => Int.mul_neg_of_neg_of_pos h (by omega)⟩
    rcases Int.lt_or_le z 0 with h1 | h1
    · exact h1
    · have := Int.mul_nonneg h1 (show (0 : Int) ≤ k by omega)
      omega
  simp only [h1, h2]
theorem sg_eqv {z z' : Int} {d d' : Nat} (h1 : 0 < d) (h2 : 0 < d') (h : z * d' = z' * d) : sg z = sg z' := by
  rw [← sg_scale z h2, h, sg_scale z' h1]
theorem sg_neg (z : Int) : sg (-z) = -sg z := by
  unfold sg
  by_cases h : z = 0
  · simp [h]
  · by_cases h2 : z < 0
    · rw [if_neg (by omega), if_neg (by omega), if_neg h, if_pos h2]; rfl
    · rw [if_neg (by omega), if_pos (by omega), if_neg h, if_neg h2]

/-- The logarithm, in units of 10^-30. -/
def L2 : Int := 1000000000000000000000000000000
def L3 : Int := 1584962500721156181453738943947
def L5 : Int := 2321928094887362347870319429489
def lg (a b c : Int) : Int := a * L2 + b * L3 + c * L5
theorem lg_scale (a b c k : Int) : lg (a * k) (b * k) (c * k) = lg a b c * k := by
  unfold lg
  rw [Int.add_mul, Int.add_mul, Int.mul_right_comm a, Int.mul_right_comm b, Int.mul_right_comm c]
theorem lg_eqv {a b c a' b' c' : Int} {d d' : Nat} (ha : a * d' = a' * d) (hb : b * d' = b' * d) (hc : c * d' = c' * d) : lg a b c * d' = lg a' b' c' * d := by
  rw [← lg_scale, ha, hb, hc, lg_scale]
/-- Hundredths of a cent. -/
def cn (z : Int) (D : Nat) : Int := (240000 * z + D * L2) / (2 * (D * L2))
theorem cn_mono {z z' : Int} {d d' : Nat} (h1 : 0 < d) (h2 : 0 < d') (h : z * d' ≤ z' * d) : cn z d ≤ cn z' d' := by
  unfold cn
  have hd : (0 : Int) < 2 * (d * L2) := by unfold L2; omega
  have hd' : (0 : Int) < 2 * (d' * L2) := by unfold L2; omega
  rw [Int.le_ediv_iff_mul_le hd']
  have h3 := Int.ediv_mul_le (240000 * z + d * L2) (Int.ne_of_gt hd)
  generalize (240000 * z + d * L2) / (2 * (d * L2)) = q at *
  have hd0 : (0 : Int) < d := by omega
  have hd0' : (0 : Int) < d' := by omega
  -- q * 2 d L ≤ 240000 z + d L; times d'; then over d
  have h4 := Int.mul_le_mul_of_nonneg_right h3 (Int.le_of_lt hd0')
  have h5 : (240000 * z + d * L2) * d' ≤ (240000 * z' + d' * L2) * d := by
    rw [Int.add_mul, Int.add_mul, Int.mul_assoc 240000, Int.mul_assoc 240000]
    have e : (d : Int) * L2 * d' = d' * L2 * d := by rw [Int.mul_right_comm, Int.mul_comm (d : Int) (d' : Int), Int.mul_right_comm]
    omega
  have h6 := Int.le_trans h4 h5
  have e7 : q * (2 * (d * L2)) * d' = q * (2 * (d' * L2)) * d := by
    have e8 : (2 * ((d : Int) * L2)) * d' = (2 * (d' * L2)) * d := by
      rw [Int.mul_assoc 2, Int.mul_assoc 2]
      have e : (d : Int) * L2 * d' = d' * L2 * d := by rw [Int.mul_right_comm, Int.mul_comm (d : Int) (d' : Int), Int.mul_right_comm]
      rw [e]
    rw [Int.mul_assoc q, e8, ← Int.mul_assoc q]
  rw [e7] at h6
  exact Int.le_of_mul_le_mul_right h6 hd0
theorem cn_eqv {z z' : Int} {d d' : Nat} (h1 : 0 < d) (h2 : 0 < d') (h : z * d' = z' * d) : cn z d = cn z' d' :=
  Int.le_antisymm (cn_mono h1 h2 (Int.le_of_eq h)) (cn_mono h2 h1 (Int.le_of_eq h.symm))
end Go.Proofs.YthdoadkdofgenaaGreatDoor.Iv
/- Plain arithmetic of digits to a base: sums and products digit by digit, with carries; decimal numerals are unique; no program is named here. -/
namespace Go.Proofs.YthdoadkdofgenaaGreatDoor.Im

section
variable {b : Nat}

/-- Digit number k of n to the base b. -/
def dg (b n k : Nat) : Nat := n / b ^ k % b

/-- How many digits n has to the base b (none for 0). -/
def nd (b n : Nat) : Nat := if h : 2 ≤ b ∧ 0 < n then nd b (n / b) + 1 else 0
termination_by n
decreasing_by exact Nat.div_lt_self h.2 h.1

theorem nd_zero : nd b 0 = 0 := by rw [nd, dif_neg (by omega)]
theorem nd_pos (hb : 2 ≤ b) {n : Nat} (h : 0 < n) : nd b n = nd b (n / b) + 1 := by rw [nd, dif_pos ⟨hb, h⟩]
theorem dg_lt (hb : 2 ≤ b) (n k : Nat) : dg b n k < b := Nat.mod_lt _ (by omega)

theorem nd_unique (hb : 2 ≤ b) : ∀ (k n : Nat), b ^ k ≤ n → n < b ^ (k + 1) → nd b n = k + 1
  | 0, n, h1, h2 => by
    rw [Nat.pow_zero] at h1
    rw [Nat.zero_add, Nat.pow_one] at h2
    rw [nd_pos hb (by omega), Nat.div_eq_of_lt h2, nd_zero]
  | k + 1, n, h1, h2 => by
    have hp : 0 < b ^ (k + 1) := Nat.pow_pos (by omega)
    rw [nd_pos hb (by omega), nd_unique hb k (n / b) ((Nat.le_div_iff_mul_le (by omega)).2 (by rw [← Nat.pow_succ]; exact h1)) ((Nat.div_lt_iff_lt_mul (by omega)).2 (by rw [← Nat.pow_succ]; exact h2))]
theorem lt_pow_nd (hb : 2 ≤ b) (n : Nat) : n < b ^ nd b n := by
  induction n using Nat.strongRecOn with
  | _ n ih =>
    by_cases h : n = 0
    · subst h; rw [nd_zero]; simp
    · rw [nd_pos hb (by omega), Nat.pow_succ]
      exact (Nat.div_lt_iff_lt_mul (by omega)).1 (ih _ (Nat.div_lt_self (by omega) hb))
theorem pow_nd_le (hb : 2 ≤ b) {n : Nat} (h : 0 < n) : b ^ (nd b n - 1) ≤ n := by
  induction n using Nat.strongRecOn with
  | _ n ih =>
    rw [nd_pos hb h, Nat.add_sub_cancel]
    by_cases h1 : n / b = 0
    · rw [h1, nd_zero, Nat.pow_zero]; exact h
    · have h2 := Nat.pos_of_ne_zero h1
      have := ih _ (Nat.div_lt_self h hb) h2
      rw [nd_pos hb (n := n / b) h2] at this ⊢
      rw [Nat.add_sub_cancel] at this
      rw [Nat.pow_succ]
      exact (Nat.le_div_iff_mul_le (by omega)).1 this
theorem nd_le (hb : 2 ≤ b) {n k : Nat} (h : n < b ^ k) : nd b n ≤ k := by
  by_cases h0 : n = 0
  · subst h0; rw [nd_zero]; omega
  · have h1 := pow_nd_le hb (n := n) (by omega)
    rcases Nat.lt_or_ge k (nd b n) with h2 | h2
    · have := Nat.pow_le_pow_right (n := b) (by omega) (show k ≤ nd b n - 1 by omega)
      omega
    · exact h2
theorem nd_eq_zero (hb : 2 ≤ b) {n : Nat} (h : nd b n = 0) : n = 0 := by
  rcases Nat.eq_zero_or_pos n with h0 | h0
  · exact h0
  · rw [nd_pos hb h0] at h; omega
theorem nd_mono (hb : 2 ≤ b) {m n : Nat} (h : m ≤ n) : nd b m ≤ nd b n := nd_le hb (Nat.lt_of_le_of_lt h (lt_pow_nd hb n))

theorem dg_high {n k : Nat} (h : n < b ^ k) : dg b n k = 0 := by
  unfold dg
  rw [Nat.div_eq_of_lt h, Nat.zero_mod]
theorem dg_above (hb : 2 ≤ b) {n k : Nat} (h : nd b n ≤ k) : dg b n k = 0 :=
  dg_high (Nat.lt_of_lt_of_le (lt_pow_nd hb n) (Nat.pow_le_pow_right (by omega) h))
/-- A number below b to k + 1 whose digit k is 0 is below b to k. -/
theorem lt_of_dg {n k : Nat} (hb : 2 ≤ b) (h : n < b ^ (k + 1)) (h0 : dg b n k = 0) : n < b ^ k := by
  unfold dg at h0
  have h1 : n / b ^ k < b := (Nat.div_lt_iff_lt_mul (Nat.pow_pos (by omega))).2 (by rw [Nat.mul_comm, ← Nat.pow_succ]; exact h)
  rw [Nat.mod_eq_of_lt h1] at h0
  rcases (Nat.div_eq_zero_iff).1 h0 with h2 | h2
  · have := Nat.pow_pos (n := k) (show 0 < b by omega); omega
  · exact h2
theorem nd_of_dg {n k : Nat} (hb : 2 ≤ b) (h : n < b ^ (k + 1)) (h0 : dg b n k ≠ 0) : nd b n = k + 1 := by
  refine nd_unique hb k n ?_ h
  rcases Nat.lt_or_ge n (b ^ k) with h1 | h1
  · exact absurd (dg_high h1) h0
  · exact h1
theorem dg_top (hb : 2 ≤ b) {n : Nat} (h : 0 < n) : dg b n (nd b n - 1) ≠ 0 := fun h0 => by
  have h1 := nd_pos hb h
  have := lt_of_dg (b := b) (n := n) (k := nd b n - 1) hb (by rw [show nd b n - 1 + 1 = nd b n by omega]; exact lt_pow_nd hb n) h0
  have := pow_nd_le hb h
  omega

theorem mod_succ (n k : Nat) : n % b ^ (k + 1) = n % b ^ k + b ^ k * dg b n k := Nat.mod_pow_succ
theorem mod_full (hb : 2 ≤ b) (n : Nat) : n % b ^ nd b n = n := Nat.mod_eq_of_lt (lt_pow_nd hb n)
theorem dg_mod {m n k : Nat} (h : m % b ^ (k + 1) = n % b ^ (k + 1)) : dg b m k = dg b n k := by
  unfold dg
  rw [← Nat.mod_mul_right_div_self, ← Nat.mod_mul_right_div_self, ← Nat.pow_succ, h]
/-- Numbers with the same digits are the same. -/
theorem eq_of_dg {k : Nat} : ∀ {m n : Nat}, (∀ j, j < k → dg b m j = dg b n j) → m % b ^ k = n % b ^ k := by
  induction k with
  | zero => intro m n _; simp [Nat.mod_one]
  | succ k ih => intro m n h; rw [mod_succ, mod_succ, ih (fun j hj => h j (by omega)), h k (by omega)]

/-- A step of a sum: x has its digits below i replaced by what y and the lower digits of x make, with a carry; d is added at place i. -/
theorem carry_sum (hb : 2 ≤ b) (x y d i : Nat) : (x % b ^ i + y) / b ^ i + dg b x i + d = (x % b ^ (i + 1) + (y + b ^ i * d)) / b ^ i := by
  have hp : 0 < b ^ i := Nat.pow_pos (by omega)
  rw [mod_succ, show x % b ^ i + b ^ i * dg b x i + (y + b ^ i * d) = (x % b ^ i + y) + b ^ i * (dg b x i + d) by rw [Nat.mul_add]; omega, Nat.add_mul_div_left _ _ hp]
  omega
theorem carry_digit (hb : 2 ≤ b) (x y d i : Nat) : ((x % b ^ i + y) / b ^ i + dg b x i + d) % b = dg b (x + (y + b ^ i * d)) i := by
  rw [carry_sum hb]
  exact dg_mod (by simp [Nat.add_mod])
theorem carry_next (hb : 2 ≤ b) (x y d i : Nat) : ((x % b ^ i + y) / b ^ i + dg b x i + d) / b = (x % b ^ (i + 1) + (y + b ^ i * d)) / b ^ (i + 1) := by
  rw [carry_sum hb, Nat.div_div_eq_div_mul, ← Nat.pow_succ]
end
end Go.Proofs.YthdoadkdofgenaaGreatDoor.Im
/- Plain arithmetic of decimal numerals: each integer has one numeral; its digits in blocks; no program is named here. -/
namespace Go.Proofs.YthdoadkdofgenaaGreatDoor.Im
open Go

theorem snoc_ind {α : Type} {P : List α → Prop} (h0 : P []) (h1 : ∀ l c, P l → P (l ++ [c])) (l : List α) : P l := by
  rw [← List.reverse_reverse l]
  induction l.reverse with
  | nil => exact h0
  | cons c r ih => rw [List.reverse_cons]; exact h1 _ _ ih

def isD (c : UInt8) : Bool := decide (48 ≤ c.toNat) && decide (c.toNat ≤ 57)
def valL (l : List UInt8) : Nat := l.foldl (fun n c => 10 * n + (c.toNat - 48)) 0

theorem val_from : ∀ (l : List UInt8) (n : Nat), l.foldl (fun n c => 10 * n + (c.toNat - 48)) n = n * 10 ^ l.length + valL l
  | [], n => by simp [valL]
  | c :: l, n => by
    have h1 := val_from l (10 * n + (c.toNat - 48))
    have h2 := val_from l (10 * 0 + (c.toNat - 48))
    unfold valL
    rw [List.foldl_cons, List.foldl_cons, h1, h2, List.length_cons, Nat.pow_succ, Nat.add_mul, Nat.add_mul, Nat.mul_zero, Nat.zero_mul, Nat.zero_add, show 10 * n * 10 ^ l.length = n * (10 ^ l.length * 10) by rw [Nat.mul_comm 10 n, Nat.mul_assoc, Nat.mul_comm 10]]
    omega
theorem val_append (l m : List UInt8) : valL (l ++ m) = valL l * 10 ^ m.length + valL m := by
  rw [show valL (l ++ m) = m.foldl (fun n c => 10 * n + (c.toNat - 48)) (valL l) by unfold valL; rw [List.foldl_append], val_from]
theorem val_snoc (l : List UInt8) (c : UInt8) : valL (l ++ [c]) = 10 * valL l + (c.toNat - 48) := by
  rw [val_append]; simp [valL]; omega
theorem val_nil : valL [] = 0 := rfl
theorem val_one (c : UInt8) : valL [c] = c.toNat - 48 := by simp [valL]
theorem isD_iff {c : UInt8} : isD c = true ↔ 48 ≤ c.toNat ∧ c.toNat ≤ 57 := by simp [isD]
theorem all_snoc {l : List UInt8} {c : UInt8} : (l ++ [c]).all isD = true ↔ l.all isD = true ∧ isD c = true := by simp [List.all_append]
theorem val_lt {l : List UInt8} : l.all isD = true → valL l < 10 ^ l.length := by
  induction l using snoc_ind with
  | h0 => intro _; simp [valL]
  | h1 l c ih =>
    intro h
    obtain ⟨h1, h2⟩ := all_snoc.1 h
    have h3 := ih h1
    have h4 := isD_iff.1 h2
    rw [val_snoc, List.length_append, List.length_singleton, Nat.pow_succ]
    omega
theorem val_ge {c : UInt8} {l : List UInt8} (hc : isD c = true) (h0 : c ≠ 48) : 10 ^ l.length ≤ valL (c :: l) := by
  rw [show c :: l = [c] ++ l from rfl, val_append, val_one]
  have h1 := isD_iff.1 hc
  have h2 : c.toNat ≠ 48 := fun e => h0 (UInt8.toNat_inj.1 e)
  have h3 : 10 ^ l.length * 1 ≤ (c.toNat - 48) * 10 ^ l.length := by rw [Nat.mul_comm]; exact Nat.mul_le_mul_right _ (by omega)
  omega

theorem head_app {l m : List UInt8} (h : l ≠ []) : (l ++ m).head? = l.head? := by
  cases l with
  | nil => exact absurd rfl h
  | cons _ _ => rfl

/-- The numeral of a natural number. -/
def canonL (l : List UInt8) : Bool := !l.isEmpty && l.all isD && (l.head? != some 48 || l == [48])

theorem digit_byte {d : Nat} (h : d < 10) : isD (UInt8.ofNat (48 + d)) = true ∧ (UInt8.ofNat (48 + d)).toNat = 48 + d := by
  have : (UInt8.ofNat (48 + d)).toNat = 48 + d := by rw [UInt8.toNat_ofNat']; omega
  exact ⟨isD_iff.2 (by omega), this⟩

theorem dec_small {u : Nat} (h : u < 10) : Lib.decDigits u = [UInt8.ofNat (48 + u)] := by rw [Lib.decDigits, dif_pos h]
theorem dec_big {u : Nat} (h : ¬ u < 10) : Lib.decDigits u = Lib.decDigits (u / 10) ++ [UInt8.ofNat (48 + u % 10)] := by rw [Lib.decDigits, dif_neg h]

theorem dec_all (u : Nat) : (Lib.decDigits u).all isD = true := by
  induction u using Nat.strongRecOn with
  | _ u ih =>
    by_cases h : u < 10
    · rw [dec_small h, List.all_cons, (digit_byte h).1]; rfl
    · rw [dec_big h, all_snoc]; exact ⟨ih _ (by omega), (digit_byte (Nat.mod_lt _ (by decide))).1⟩
theorem dec_val (u : Nat) : valL (Lib.decDigits u) = u := by
  induction u using Nat.strongRecOn with
  | _ u ih =>
    by_cases h : u < 10
    · rw [dec_small h, val_one, (digit_byte h).2]; omega
    · rw [dec_big h, val_snoc, ih _ (by omega), (digit_byte (Nat.mod_lt _ (by decide))).2]; omega
theorem dec_ne (u : Nat) : Lib.decDigits u ≠ [] := by
  by_cases h : u < 10
  · rw [dec_small h]; simp
  · rw [dec_big h]; simp
theorem dec_zero : Lib.decDigits 0 = [48] := by rw [dec_small (by decide)]; rfl
theorem dec_head {u : Nat} (h0 : 0 < u) : (Lib.decDigits u).head? ≠ some 48 := by
  induction u using Nat.strongRecOn with
  | _ u ih =>
    by_cases h : u < 10
    · rw [dec_small h]
      intro e
      have e1 : UInt8.ofNat (48 + u) = 48 := by simpa using e
      have := (digit_byte h).2
      rw [e1] at this
      simp at this
      omega
    · rw [dec_big h, head_app (dec_ne _)]
      exact ih _ (by omega) (by omega)
theorem dec_canon (u : Nat) : canonL (Lib.decDigits u) = true := by
  unfold canonL
  rw [dec_all]
  have h1 : (Lib.decDigits u).isEmpty = false := by
    cases h : Lib.decDigits u with
    | nil => exact absurd h (dec_ne u)
    | cons _ _ => rfl
  rw [h1]
  by_cases h : u = 0
  · subst h; rw [dec_zero]; rfl
  · have := dec_head (u := u) (by omega)
    simp [this]
theorem canonL_iff {l : List UInt8} : canonL l = true ↔ l ≠ [] ∧ l.all isD = true ∧ (l.head? ≠ some 48 ∨ l = [48]) := by
  unfold canonL
  cases l <;> simp [and_assoc]
/-- A numeral is the numeral of its value. -/
theorem canon_eq {l : List UInt8} : canonL l = true → Lib.decDigits (valL l) = l := by
  rw [canonL_iff]
  induction l using snoc_ind with
  | h0 => intro h; exact absurd rfl h.1
  | h1 l c ih =>
    rintro ⟨_, h2, h3⟩
    obtain ⟨ha, hc⟩ := all_snoc.1 h2
    have hc' := isD_iff.1 hc
    have e : UInt8.ofNat (48 + (c.toNat - 48)) = c := by
      apply UInt8.toNat_inj.1
      rw [UInt8.toNat_ofNat']; omega
    cases l with
    | nil =>
      rw [List.nil_append, val_one, dec_small (by omega), e]
    | cons x r =>
      have hx : x ≠ 48 := by
        rcases h3 with h3 | h3
        · simpa using h3
        · cases r <;> simp at h3
      have hl := ih ⟨by simp, ha, .inl (by simpa using hx)⟩
      have hv : 10 ^ r.length ≤ valL (x :: r) := val_ge (by simp at ha; exact ha.1) hx
      have hp : 0 < 10 ^ r.length := Nat.pow_pos (by decide)
      rw [val_snoc, dec_big (by omega), show (10 * valL (x :: r) + (c.toNat - 48)) / 10 = valL (x :: r) by omega, hl, show (10 * valL (x :: r) + (c.toNat - 48)) % 10 = c.toNat - 48 by omega, e]
theorem dec_unique {l : List UInt8} {n : Nat} (h : canonL l = true) (hv : valL l = n) : Lib.decDigits n = l := by rw [← hv]; exact canon_eq h

/-! ### Integers -/

/-- A text without its sign. -/
def dgs (l : List UInt8) : List UInt8 := if l.head? = some 45 then l.tail else l
def canonI (l : List UInt8) : Bool := l == [48] || (!(dgs l).isEmpty && (dgs l).head? != some 48 && (dgs l).all isD)
def ivL (l : List UInt8) : Int := if l.head? = some 45 then -(valL l.tail : Int) else valL l

theorem canonI_canon {l : List UInt8} (h : canonI l = true) : canonL (dgs l) = true ∧ (l.head? = some 45 → valL l.tail ≠ 0) := by
  unfold canonI at h
  rw [Bool.or_eq_true] at h
  rcases h with h | h
  · have e : l = [48] := by simpa using h
    subst e
    exact ⟨by decide, fun h => by simp at h⟩
  · simp only [Bool.and_eq_true, Bool.not_eq_true', bne_iff_ne, ne_eq] at h
    obtain ⟨⟨h1, h2⟩, h3⟩ := h
    have hne : dgs l ≠ [] := fun e => by rw [e] at h1; simp at h1
    refine ⟨canonL_iff.2 ⟨hne, h3, .inl h2⟩, fun hm => ?_⟩
    have e : dgs l = l.tail := by unfold dgs; rw [if_pos hm]
    rw [e] at hne h2 h3
    cases ht : l.tail with
    | nil => exact absurd ht hne
    | cons x r =>
      rw [ht] at h2 h3
      have := val_ge (c := x) (l := r) (by simp at h3; exact h3.1) (by simpa using h2)
      have hp : 0 < 10 ^ r.length := Nat.pow_pos (by decide)
      omega
theorem itoa_nonneg {z : Int} (h : 0 ≤ z) : Lib.itoa z = Lib.decDigits z.toNat := by unfold Lib.itoa; rw [if_neg (by omega)]
theorem itoa_neg {z : Int} (h : z < 0) : Lib.itoa z = 45 :: Lib.decDigits z.natAbs := by unfold Lib.itoa; rw [if_pos h]
theorem dec_head_digit (u : Nat) : (Lib.decDigits u).head? ≠ some 45 := fun e => by
  have h := dec_all u
  cases hl : Lib.decDigits u with
  | nil => exact dec_ne u hl
  | cons x r =>
    rw [hl] at h e
    simp at e
    subst e
    simp [isD] at h
theorem dgs_itoa (z : Int) : dgs (Lib.itoa z) = Lib.decDigits z.natAbs := by
  by_cases h : z < 0
  · rw [itoa_neg h]; rfl
  · rw [itoa_nonneg (by omega), show z.toNat = z.natAbs by omega]
    unfold dgs
    rw [if_neg (dec_head_digit _)]
theorem itoa_head (z : Int) : (Lib.itoa z).head? = some 45 ↔ z < 0 := by
  by_cases h : z < 0
  · rw [itoa_neg h]; simp [h]
  · rw [itoa_nonneg (by omega)]; simp [h, dec_head_digit]
theorem canonI_itoa (z : Int) : canonI (Lib.itoa z) = true := by
  unfold canonI
  rw [dgs_itoa, dec_all]
  by_cases h : z = 0
  · subst h; rw [itoa_nonneg (by omega), show ((0 : Int).toNat) = 0 from rfl, dec_zero]; rfl
  · have h1 := dec_head (u := z.natAbs) (by omega)
    have h2 : (Lib.decDigits z.natAbs).isEmpty = false := by
      cases h : Lib.decDigits z.natAbs with
      | nil => exact absurd h (dec_ne _)
      | cons _ _ => rfl
    simp [h1, h2]
theorem ivL_itoa (z : Int) : ivL (Lib.itoa z) = z := by
  unfold ivL
  by_cases h : z < 0
  · rw [if_pos ((itoa_head z).2 h), itoa_neg h, List.tail_cons, dec_val]; omega
  · rw [if_neg (fun e => h ((itoa_head z).1 e)), itoa_nonneg (by omega), dec_val]; omega
theorem itoa_ivL {l : List UInt8} (h : canonI l = true) : Lib.itoa (ivL l) = l := by
  obtain ⟨h1, h2⟩ := canonI_canon h
  unfold ivL
  by_cases hm : l.head? = some 45
  · rw [if_pos hm]
    have h3 := h2 hm
    rw [itoa_neg (by omega), show (-(valL l.tail : Int)).natAbs = valL l.tail by omega]
    have e : dgs l = l.tail := by unfold dgs; rw [if_pos hm]
    rw [e] at h1
    rw [canon_eq h1]
    cases l with
    | nil => simp at hm
    | cons x r => simp at hm; subst hm; rfl
  · rw [if_neg hm, itoa_nonneg (by omega)]
    have e : dgs l = l := by unfold dgs; rw [if_neg hm]
    rw [e] at h1
    exact canon_eq h1
theorem itoa_inj {y z : Int} (h : Lib.itoa y = Lib.itoa z) : y = z := by rw [← ivL_itoa y, h, ivL_itoa]

/-! ### Blocks of digits -/

theorem val_take {l : List UInt8} (h : l.all isD = true) {k : Nat} (hk : k ≤ l.length) : valL (l.take (l.length - k)) = valL l / 10 ^ k := by
  have e := List.take_append_drop (l.length - k) l
  have hv := val_append (l.take (l.length - k)) (l.drop (l.length - k))
  rw [e, List.length_drop, show l.length - (l.length - k) = k by omega] at hv
  have hd : (l.drop (l.length - k)).all isD = true := List.all_eq_true.2 fun x hx => List.all_eq_true.1 h x (List.mem_of_mem_drop hx)
  have hlt := val_lt hd
  rw [List.length_drop, show l.length - (l.length - k) = k by omega] at hlt
  rw [hv, Nat.mul_comm, Nat.mul_add_div (Nat.pow_pos (by decide)), Nat.div_eq_of_lt hlt, Nat.add_zero]
theorem val_drop {l : List UInt8} (h : l.all isD = true) {k : Nat} (hk : k ≤ l.length) : valL (l.drop (l.length - k)) = valL l % 10 ^ k := by
  have e := List.take_append_drop (l.length - k) l
  have hv := val_append (l.take (l.length - k)) (l.drop (l.length - k))
  rw [e, List.length_drop, show l.length - (l.length - k) = k by omega] at hv
  have hd : (l.drop (l.length - k)).all isD = true := List.all_eq_true.2 fun x hx => List.all_eq_true.1 h x (List.mem_of_mem_drop hx)
  have hlt := val_lt hd
  rw [List.length_drop, show l.length - (l.length - k) = k by omega] at hlt
  rw [hv, Nat.mul_comm, Nat.mul_add_mod, Nat.mod_eq_of_lt hlt]
theorem all_take {l : List UInt8} (h : l.all isD = true) (k : Nat) : (l.take k).all isD = true := List.all_eq_true.2 fun x hx => List.all_eq_true.1 h x (List.mem_of_mem_take hx)
theorem all_drop {l : List UInt8} (h : l.all isD = true) (k : Nat) : (l.drop k).all isD = true := List.all_eq_true.2 fun x hx => List.all_eq_true.1 h x (List.mem_of_mem_drop hx)
/-- The digits that stand c places, w of them, from the end. -/
theorem val_block {l : List UInt8} (h : l.all isD = true) {c w : Nat} (hk : c + w ≤ l.length) : valL ((l.take (l.length - c)).drop (l.length - c - w)) = valL l / 10 ^ c % 10 ^ w := by
  have h1 := val_drop (l := l.take (l.length - c)) (all_take h _) (k := w) (by rw [List.length_take]; omega)
  rw [List.length_take, show min (l.length - c) l.length = l.length - c by omega, val_take h (by omega)] at h1
  exact h1

/-- Zeros ahead of a numeral, to some width. -/
def pad (w n : Nat) : List UInt8 := List.replicate (w - (Lib.decDigits n).length) 48 ++ Lib.decDigits n
theorem val_zeros (k : Nat) : valL (List.replicate k 48) = 0 := by
  induction k with
  | zero => rfl
  | succ k ih => rw [List.replicate_succ', val_snoc, ih]; rfl
theorem dec_len {n k : Nat} (h : n < 10 ^ k) (hk : 0 < k) : (Lib.decDigits n).length ≤ k := by
  cases hl : Lib.decDigits n with
  | nil => simp
  | cons x r =>
    have ha := dec_all n
    rw [hl] at ha
    by_cases h0 : n = 0
    · subst h0; rw [dec_zero] at hl; cases hl; exact hk
    · have hx := dec_head (u := n) (by omega)
      rw [hl] at hx
      have := val_ge (c := x) (l := r) (by simp at ha; exact ha.1) (by simpa using hx)
      rw [← hl, dec_val] at this
      rcases Nat.lt_or_ge k (x :: r).length with h2 | h2
      · have h3 := Nat.pow_le_pow_right (n := 10) (by decide) (show k ≤ r.length by simp at h2; omega)
        omega
      · exact h2
theorem pad_len {w n : Nat} (h : n < 10 ^ w) (hw : 0 < w) : (pad w n).length = w := by
  have := dec_len h hw
  unfold pad
  rw [List.length_append, List.length_replicate]; omega
theorem pad_val (w n : Nat) : valL (pad w n) = n := by
  unfold pad
  rw [val_append, val_zeros, Nat.zero_mul, Nat.zero_add, dec_val]
theorem pad_all (w n : Nat) : (pad w n).all isD = true := by
  unfold pad
  rw [List.all_append, dec_all, Bool.and_true, List.all_eq_true]
  intro x hx
  rw [(List.mem_replicate.1 hx).2]; decide
/-- A numeral, and behind it the next block. -/
theorem dec_pad {q r w : Nat} (hq : 0 < q) (h : r < 10 ^ w) (hw : 0 < w) : Lib.decDigits (q * 10 ^ w + r) = Lib.decDigits q ++ pad w r := by
  refine dec_unique (canonL_iff.2 ⟨by simp [dec_ne], ?_, .inl ?_⟩) ?_
  · rw [List.all_append, dec_all, pad_all]; rfl
  · rw [head_app (dec_ne _)]; exact dec_head hq
  · rw [val_append, dec_val, pad_val, pad_len h hw]
end Go.Proofs.YthdoadkdofgenaaGreatDoor.Im
