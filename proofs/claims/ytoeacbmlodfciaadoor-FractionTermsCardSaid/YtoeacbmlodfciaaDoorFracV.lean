/- What FractionLaws needs of plain arithmetic: lowest terms are unique, Sub takes back Add, Div takes back Mul, the floor is near; no program is named here. -/
import Derived.Test.YtoeacbmlodfciaaDoorFracBetB
namespace Go.Proofs.YtoeacbmlodfciaaDoor.FracMath
open Go.RowKit

/-- the quotient has the value of what it was made of -/
theorem val {n d : Int} (hd : d ≠ 0) : qn n d * d = n * qd n d := by
  obtain ⟨u, hu⟩ := gg_dvd_l n d
  obtain ⟨v, hv⟩ := gg_dvd_r n d
  have g0 : 0 < gg n d := gg_pos hd
  have eu : n.natAbs / gg n d = u := by rw [hu]; exact Nat.mul_div_cancel_left u g0
  have ev : d.natAbs / gg n d = v := by rw [hv]; exact Nat.mul_div_cancel_left v g0
  have e2 : qd n d = v := by unfold qd; rw [ev]
  have hn' : (n.natAbs : Int) = gg n d * u := by rw [hu]; exact Int.natCast_mul _ _
  have hd' : (d.natAbs : Int) = gg n d * v := by rw [hv]; exact Int.natCast_mul _ _
  have k : (u : Int) * (gg n d * v) = gg n d * u * v := by rw [Int.mul_left_comm, ← Int.mul_assoc]
  rw [e2]
  unfold qn
  rw [eu]
  generalize (gg n d : Int) = G at hn' hd' k
  by_cases h1 : n < 0 <;> by_cases h2 : d < 0
  · have a1 : n = -(G * u) := by omega
    have a2 : d = -(G * v) := by omega
    simp only [h1, h2, decide_true, bne_self_eq_false, Bool.false_eq_true, if_false]
    rw [a1, a2, Int.mul_neg, Int.neg_mul, k]
  · have a1 : n = -(G * u) := by omega
    have a2 : d = G * v := by omega
    have t : (decide (n < 0) != decide (d < 0)) = true := by simp [h1, h2]
    rw [if_pos t, a1, a2, Int.neg_mul, Int.neg_mul, k]
  · have a1 : n = G * u := by omega
    have a2 : d = -(G * v) := by omega
    have t : (decide (n < 0) != decide (d < 0)) = true := by simp [h1, h2]
    rw [if_pos t, a1, a2, Int.neg_mul, Int.mul_neg, Int.neg_neg, k]
  · have a1 : n = G * u := by omega
    have a2 : d = G * v := by omega
    have t : (decide (n < 0) != decide (d < 0)) = false := by simp [h1, h2]
    rw [t, if_neg (by decide), a1, a2, k]

theorem dvd_of_eq {p q p' q' : Int} (hg : gg p q = 1) (e : p * q' = p' * q) : q.natAbs ∣ q'.natAbs := by
  have hc : Nat.Coprime q.natAbs p.natAbs := by unfold gg at hg; exact Nat.Coprime.symm hg
  refine hc.dvd_of_dvd_mul_left ?_
  rw [← Int.natAbs_mul, e, Int.natAbs_mul]
  exact Nat.dvd_mul_left _ _
theorem uniq {p q p' q' : Int} (h : 1 ≤ q) (h' : 1 ≤ q') (hg : gg p q = 1) (hg' : gg p' q' = 1) (e : p * q' = p' * q) : p = p' ∧ q = q' := by
  have d1 := dvd_of_eq hg e
  have d2 := dvd_of_eq hg' e.symm
  have l1 := Nat.le_of_dvd (by omega) d1
  have l2 := Nat.le_of_dvd (by omega) d2
  have hq : q = q' := by omega
  subst hq
  exact ⟨Int.eq_of_mul_eq_mul_right (show q ≠ 0 by omega) e, rfl⟩
theorem mk_unique {n d p q : Int} (hd : d ≠ 0) (h1 : -1000000 ≤ p) (h2 : p ≤ 1000000) (h3 : 1 ≤ q) (h4 : q ≤ 1000000) (hg : gg p q = 1) (e : n * q = p * d) : mk n d = (p, q, 0) := by
  have hv := val (n := n) hd
  have e2 : qn n d * q = p * qd n d := by
    have t : qn n d * q * d = p * qd n d * d := by
      have t1 : qn n d * q * d = qn n d * d * q := Int.mul_right_comm _ _ _
      have t2 : p * qd n d * d = p * d * qd n d := Int.mul_right_comm _ _ _
      rw [t1, t2, hv, ← e, Int.mul_right_comm]
    exact Int.eq_of_mul_eq_mul_right hd t
  obtain ⟨e3, e4⟩ := uniq (qd_pos hd) h3 (gg_quot hd) hg e2
  have ho : overB n d = false := by
    unfold overB
    rw [← natAbs_qn n d, ← natAbs_qd n d, e3, e4]
    simp only [decide_eq_false_iff_not]; omega
  rw [mk_ok hd ho, e3, e4]
/-- a quotient that is accepted: right, and of the value of what it was made of -/
theorem mk_val {n d p q : Int} (hd : d ≠ 0) (h : mk n d = (p, q, 0)) : rightB p q = true ∧ p * d = n * q := by
  cases ho : overB n d
  · rw [mk_ok hd ho] at h
    have h1 : qn n d = p := congrArg (·.1) h
    have h2 : qd n d = q := congrArg (·.2.1) h
    subst h1 h2
    exact ⟨by rw [right_quot hd, ho]; rfl, val hd⟩
  · rw [mk_over hd ho] at h
    have h3 : (4 : Int) = 0 := congrArg (·.2.2) h
    omega
theorem mk_cases {n d : Int} (hd : d ≠ 0) : (∃ p q, mk n d = (p, q, 0)) ∨ mk n d = (0, 0, 4) := by
  cases ho : overB n d
  · exact .inl ⟨_, _, mk_ok hd ho⟩
  · exact .inr (mk_over hd ho)
theorem sub_back {a b c d p q : Int} (h1 : rightB a b = true) (h2 : rightB c d = true) (hm : mk (a * d + c * b) (b * d) = (p, q, 0)) : rightB p q = true ∧ mk (p * d - c * q) (q * d) = (a, b, 0) := by
  obtain ⟨k1, k2, k3, k4, k5⟩ := right_of h1
  obtain ⟨l1, l2, l3, l4, l5⟩ := right_of h2
  have hbd := Int.mul_pos (a := b) (b := d) (by omega) (by omega)
  obtain ⟨r, e⟩ := mk_val (by omega) hm
  obtain ⟨m1, m2, m3, m4, m5⟩ := right_of r
  have hqd := Int.mul_pos (a := q) (b := d) (by omega) (by omega)
  refine ⟨r, mk_unique (by omega) k1 k2 k3 k4 k5 ?_⟩
  have t1 : p * (b * d) = p * d * b := by rw [Int.mul_comm b d, Int.mul_assoc]
  have t2 : (a * d + c * b) * q = a * (q * d) + c * q * b := by
    rw [Int.add_mul, Int.mul_assoc, Int.mul_comm d q, Int.mul_right_comm]
  rw [Int.sub_mul]; omega
theorem div_back {a b c d p q : Int} (h1 : rightB a b = true) (h2 : rightB c d = true) (hc : c ≠ 0) (hm : mk (a * c) (b * d) = (p, q, 0)) : mk (p * d) (q * c) = (a, b, 0) := by
  obtain ⟨k1, k2, k3, k4, k5⟩ := right_of h1
  obtain ⟨l1, l2, l3, l4, l5⟩ := right_of h2
  have hbd := Int.mul_pos (a := b) (b := d) (by omega) (by omega)
  obtain ⟨r, e⟩ := mk_val (by omega) hm
  obtain ⟨m1, m2, m3, m4, m5⟩ := right_of r
  refine mk_unique (Int.mul_ne_zero (by omega) hc) k1 k2 k3 k4 k5 ?_
  have t1 : p * (b * d) = p * d * b := by rw [Int.mul_comm b d, Int.mul_assoc]
  have t2 : a * c * q = a * (q * c) := by rw [Int.mul_assoc, Int.mul_comm c q]
  omega
theorem floor_near {a b : Int} (h : 1 ≤ b) : cmpI (a / b * b) (a * 1) ≤ 0 ∧ cmpI (a * 1) ((a / b + 1) * b) = -1 := by
  have h1 := Int.mul_ediv_add_emod a b
  have h2 := Int.emod_nonneg a (b := b) (by omega)
  have h3 := Int.emod_lt_of_pos a (b := b) (by omega)
  have e : a / b * b = b * (a / b) := Int.mul_comm _ _
  refine ⟨cmpI_le (by omega), cmpI_lt ?_⟩
  rw [Int.add_mul]; omega
theorem cmpI_pos {a b : Int} (h : 0 < cmpI a b) : b < a := by
  unfold cmpI at h
  split at h
  · omega
  · split at h
    · assumption
    · omega
theorem small_num {p q : Int} (h1 : -32768 ≤ p) (h2 : p ≤ 32767) (_ : 0 ≤ q) (_ : q ≤ 255) : -32768 ≤ sn p q ∧ sn p q ≤ 32768 := by
  have := natAbs_qn p (q + 1)
  have := Nat.div_le_self p.natAbs (gg p (q + 1))
  unfold sn; omega
end Go.Proofs.YtoeacbmlodfciaaDoor.FracMath
