/- The simplest fraction between two positive ones, by continued fractions: it has the least numerator and the least denominator; no program is named here. -/
import Derived.Test.YtoeacbmlodfciaaDoorFracMathB
namespace Go.Proofs.YtoeacbmlodfciaaDoor.FracMath
open Go.RowKit
/-- the fraction p / q lies from a / b to c / d, and none there has a lesser numerator or denominator -/
def Best (a b c d p q : Int) : Prop := 1 ≤ p ∧ 1 ≤ q ∧ a * q ≤ p * b ∧ p * d ≤ c * q ∧ ∀ p' q' : Int, 1 ≤ q' → a * q' ≤ p' * b → p' * d ≤ c * q' → q ≤ q' ∧ p ≤ p'
def ceil (a b : Int) : Int := -((-a) / b)
def bet : Nat → Int → Int → Int → Int → Int × Int
  | 0, _, _, _, _ => (1, 1)
  | k + 1, a, b, c, d => if ceil a b * d ≤ c then (ceil a b, 1) else
      ((ceil a b - 1) * (bet k d (c - (ceil a b - 1) * d) b (a - (ceil a b - 1) * b)).1 + (bet k d (c - (ceil a b - 1) * d) b (a - (ceil a b - 1) * b)).2, (bet k d (c - (ceil a b - 1) * d) b (a - (ceil a b - 1) * b)).1)
theorem ceil_bd (a b : Int) (hb : 1 ≤ b) : a ≤ ceil a b * b ∧ ceil a b * b < a + b := by
  unfold ceil
  have h1 := Int.mul_ediv_add_emod (-a) b
  have h2 := Int.emod_nonneg (-a) (b := b) (by omega)
  have h3 := Int.emod_lt_of_pos (-a) (b := b) (by omega)
  rw [Int.neg_mul, Int.mul_comm]
  omega
theorem ceil_pos {a b : Int} (ha : 1 ≤ a) (hb : 1 ≤ b) : 1 ≤ ceil a b := by
  have h := (ceil_bd a b hb).1
  by_cases hc : 1 ≤ ceil a b
  · exact hc
  · have : ceil a b * b ≤ 0 := Int.mul_nonpos_of_nonpos_of_nonneg (by omega) (by omega)
    omega
theorem lt_of_mul {x y b : Int} (h : x * b < y * b) (hb : 1 ≤ b) : x < y := Int.lt_of_mul_lt_mul_right h (by omega)
theorem le_mul_self {a q : Int} (ha : 1 ≤ a) (hq : 1 ≤ q) : a ≤ a * q := by
  have := Int.mul_le_mul_of_nonneg_left hq (show 0 ≤ a by omega)
  omega
/-- what one step back needs of the parts -/
theorem parts {a b c d : Int} (hb : 1 ≤ b) (hd : 1 ≤ d) (h : a * d ≤ c * b) (hn : ¬ ceil a b * d ≤ c) :
    1 ≤ c - (ceil a b - 1) * d ∧ c - (ceil a b - 1) * d < d ∧ 1 ≤ a - (ceil a b - 1) * b ∧ a - (ceil a b - 1) * b ≤ b ∧ d * (a - (ceil a b - 1) * b) ≤ b * (c - (ceil a b - 1) * d) := by
  obtain ⟨h1, h2⟩ := ceil_bd a b hb
  generalize ceil a b = C at *
  have e1 : (C - 1) * d = C * d - d := by rw [Int.sub_mul]; omega
  have e2 : (C - 1) * b = C * b - b := by rw [Int.sub_mul]; omega
  have k : (C * d - d) * b < c * b := by
    have t : (C * b - b) * d < a * d := Int.mul_lt_mul_of_pos_right (by omega) (by omega)
    have e3 : (C * d - d) * b = (C * b - b) * d := by
      rw [Int.sub_mul, Int.sub_mul, Int.mul_right_comm, Int.mul_comm d b]
    omega
  have k2 := lt_of_mul k hb
  have e4 : d * (a - (C * b - b)) = a * d - (C * b - b) * d := by rw [Int.mul_sub, Int.mul_comm d a, Int.mul_comm d]
  have e5 : b * (c - (C * d - d)) = c * b - (C * d - d) * b := by rw [Int.mul_sub, Int.mul_comm b c, Int.mul_comm b]
  have e3 : (C * d - d) * b = (C * b - b) * d := by
    rw [Int.sub_mul, Int.sub_mul, Int.mul_right_comm, Int.mul_comm d b]
  rw [e1, e2]
  refine ⟨by omega, by omega, by omega, by omega, ?_⟩
  rw [e4, e5, e3]; omega
theorem best_one {a b c d : Int} (ha : 1 ≤ a) (hb : 1 ≤ b) (hc : ceil a b * d ≤ c) : Best a b c d (ceil a b) 1 := by
  obtain ⟨h1, h2⟩ := ceil_bd a b hb
  refine ⟨ceil_pos ha hb, by omega, by omega, by omega, fun p' q' hq h3 _ => ⟨hq, ?_⟩⟩
  have h5 := le_mul_self ha hq
  have h6 : (ceil a b - 1) * b < p' * b := by rw [Int.sub_mul]; omega
  have := lt_of_mul h6 hb
  omega
theorem best_step {a b c d W r s : Int} (hb : 1 ≤ b) (hW : 0 ≤ W) (hWb : W * b < a) (h : Best d (c - W * d) b (a - W * b) r s) : Best a b c d (W * r + s) r := by
  obtain ⟨h1, h2, h3, h4, h5⟩ := h
  have hWr : 0 ≤ W * r := Int.mul_nonneg hW (by omega)
  refine ⟨by omega, h1, ?_, ?_, fun p' q' hq k1 k2 => ?_⟩
  · have e1 : r * (a - W * b) = a * r - W * r * b := by rw [Int.mul_sub, Int.mul_comm r a, Int.mul_left_comm, ← Int.mul_assoc]
    have e2 : (W * r + s) * b = W * r * b + s * b := Int.add_mul _ _ _
    have e3 : b * s = s * b := Int.mul_comm _ _
    omega
  · have e1 : r * (c - W * d) = c * r - W * r * d := by rw [Int.mul_sub, Int.mul_comm r c, Int.mul_left_comm, ← Int.mul_assoc]
    have e2 : (W * r + s) * d = W * r * d + s * d := Int.add_mul _ _ _
    have e3 : d * s = s * d := Int.mul_comm _ _
    omega
  · have t : W * q' * b < p' * b := by
      have t1 : W * b * q' < a * q' := Int.mul_lt_mul_of_pos_right hWb (by omega)
      have e : W * q' * b = W * b * q' := Int.mul_right_comm _ _ _
      omega
    have t2 := lt_of_mul t hb
    have f := h5 q' (p' - W * q') (by omega) ?_ ?_
    · obtain ⟨f1, f2⟩ := f
      have g : W * r ≤ W * q' := Int.mul_le_mul_of_nonneg_left f2 hW
      exact ⟨f2, by omega⟩
    · have e1 : d * (p' - W * q') = p' * d - W * q' * d := by rw [Int.mul_sub, Int.mul_comm d p', Int.mul_comm d]
      have e2 : q' * (c - W * d) = c * q' - W * q' * d := by rw [Int.mul_sub, Int.mul_comm q' c, Int.mul_left_comm, ← Int.mul_assoc]
      omega
    · have e1 : b * (p' - W * q') = p' * b - W * q' * b := by rw [Int.mul_sub, Int.mul_comm b p', Int.mul_comm b]
      have e2 : q' * (a - W * b) = a * q' - W * q' * b := by rw [Int.mul_sub, Int.mul_comm q' a, Int.mul_left_comm, ← Int.mul_assoc]
      omega
theorem bet_best : ∀ (k : Nat) (a b c d : Int), 1 ≤ a → 1 ≤ b → 1 ≤ c → 1 ≤ d → b + d ≤ k → a * d ≤ c * b → Best a b c d (bet k a b c d).1 (bet k a b c d).2 := by
  intro k
  induction k with
  | zero => intro a b c d _ hb _ hd hk; omega
  | succ k ih =>
    intro a b c d ha hb hc hd hk h
    by_cases hn : ceil a b * d ≤ c
    · have e : bet (k + 1) a b c d = (ceil a b, 1) := by unfold bet; rw [if_pos hn]
      rw [e]; exact best_one ha hb hn
    · obtain ⟨p1, p2, p3, p4, p5⟩ := parts hb hd h hn
      have := ih d (c - (ceil a b - 1) * d) b (a - (ceil a b - 1) * b) hd p1 hb p3 (by omega) p5
      have e : bet (k + 1) a b c d = ((ceil a b - 1) * (bet k d (c - (ceil a b - 1) * d) b (a - (ceil a b - 1) * b)).1 + (bet k d (c - (ceil a b - 1) * d) b (a - (ceil a b - 1) * b)).2, (bet k d (c - (ceil a b - 1) * d) b (a - (ceil a b - 1) * b)).1) := by
        conv => lhs; unfold bet
        rw [if_neg hn]
      rw [e]
      exact best_step hb (by have := ceil_pos ha hb; omega) (by omega) this
theorem bet_one {k : Nat} {a b c d : Int} (hn : ceil a b * d ≤ c) : bet (k + 1) a b c d = (ceil a b, 1) := by unfold bet; rw [if_pos hn]
theorem bet_step {k : Nat} {a b c d : Int} (hn : ¬ ceil a b * d ≤ c) : bet (k + 1) a b c d = ((ceil a b - 1) * (bet k d (c - (ceil a b - 1) * d) b (a - (ceil a b - 1) * b)).1 + (bet k d (c - (ceil a b - 1) * d) b (a - (ceil a b - 1) * b)).2, (bet k d (c - (ceil a b - 1) * d) b (a - (ceil a b - 1) * b)).1) := by
  conv => lhs; unfold bet
  rw [if_neg hn]
theorem ceil_le {a b : Int} (ha : 1 ≤ a) (hb : 1 ≤ b) : ceil a b ≤ a := by
  obtain ⟨h1, h2⟩ := ceil_bd a b hb
  by_cases h : ceil a b ≤ a
  · exact h
  · have h3 : (a + 1) * b ≤ ceil a b * b := Int.mul_le_mul_of_nonneg_right (by omega) (by omega)
    have h4 := le_mul_self ha hb
    rw [Int.add_mul] at h3
    omega
theorem best_bd {a b c d p q : Int} (_ : 1 ≤ a) (hb : 1 ≤ b) (_ : 1 ≤ c) (_ : 1 ≤ d) (h : a * d ≤ c * b) (hB : Best a b c d p q) : 1 ≤ p ∧ p ≤ a ∧ 1 ≤ q ∧ q ≤ b := by
  obtain ⟨h1, h2, _, _, h5⟩ := hB
  have := h5 a b hb (Int.le_refl _) h
  exact ⟨h1, this.2, h2, this.1⟩
theorem cmpI_le {a b : Int} (h : a ≤ b) : cmpI a b ≤ 0 := by
  unfold cmpI
  split
  · omega
  · rw [if_neg (by omega)]; omega
theorem pos_of {a b c d : Int} (h : a * d ≤ c * b) (ha : 1 ≤ a) (hb : 1 ≤ b) (hd : 1 ≤ d) : 1 ≤ c := by
  have := Int.mul_pos (a := a) (b := d) (by omega) (by omega)
  by_cases hc : 1 ≤ c
  · exact hc
  · have : c * b ≤ 0 := Int.mul_nonpos_of_nonpos_of_nonneg (by omega) (by omega)
    omega
theorem gg_neg (a b : Int) : gg (-a) b = gg a b := by unfold gg; rw [Int.natAbs_neg]
theorem mk_coprime {p q : Int} (h1 : -1000000 ≤ p) (h2 : p ≤ 1000000) (h3 : 1 ≤ q) (h4 : q ≤ 1000000) (hg : gg p q = 1) : mk p q = (p, q, 0) := by
  have ho : overB p q = false := by
    unfold overB; rw [hg, Nat.div_one, Nat.div_one]
    simp only [decide_eq_false_iff_not]; omega
  rw [mk_ok (by omega) ho]
  have e1 : qn p q = p := by rw [qn_of_pos (by omega), hg]; exact Int.tdiv_one p
  have e2 : qd p q = q := by rw [qd_of_pos (by omega), hg]; exact Int.tdiv_one q
  rw [e1, e2]
theorem best_gg {a b c d p q : Int} (h : Best a b c d p q) : gg p q = 1 := by
  obtain ⟨h1, h2, h3, h4, h5⟩ := h
  obtain ⟨u, hu⟩ := gg_dvd_l p q
  obtain ⟨v, hv⟩ := gg_dvd_r p q
  have g0 : 0 < gg p q := gg_pos (by omega)
  generalize gg p q = g at hu hv g0
  have hp : p = g * u := by
    have : (p.natAbs : Int) = p := by omega
    rw [← this, hu]; exact Int.natCast_mul g u
  have hq : q = g * v := by
    have : (q.natAbs : Int) = q := by omega
    rw [← this, hv]; exact Int.natCast_mul g v
  have hv1 : 1 ≤ (v : Int) := by
    by_cases hv0 : v = 0
    · subst hv0; simp at hq; omega
    · omega
  have k := h5 u v hv1 ?_ ?_
  · have k1 := k.1
    rw [hq] at k1
    have : (g : Int) * v ≤ 1 * v := by omega
    have := Int.le_of_mul_le_mul_right this (by omega)
    omega
  · rw [hp, hq] at h3
    have e : (g : Int) * (a * v) ≤ g * (u * b) := by
      have e1 : a * (g * v) = (g : Int) * (a * v) := Int.mul_left_comm _ _ _
      have e2 : (g : Int) * u * b = g * (u * b) := Int.mul_assoc _ _ _
      omega
    exact Int.le_of_mul_le_mul_left e (by omega)
  · rw [hp, hq] at h4
    have e : (g : Int) * (u * d) ≤ g * (c * v) := by
      have e1 : c * (g * v) = (g : Int) * (c * v) := Int.mul_left_comm _ _ _
      have e2 : (g : Int) * u * d = g * (u * d) := Int.mul_assoc _ _ _
      omega
    exact Int.le_of_mul_le_mul_left e (by omega)
end Go.Proofs.YtoeacbmlodfciaaDoor.FracMath
