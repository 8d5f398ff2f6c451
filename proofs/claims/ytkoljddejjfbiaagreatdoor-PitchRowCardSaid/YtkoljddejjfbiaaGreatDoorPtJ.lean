/- Mathematics of pitch's laws: exact shifts, opposite shifts, halves. -/
import Derived.Test.YtkoljddejjfbiaaGreatDoorPtI
namespace Go.Proofs.YtkoljddejjfbiaaGreatDoor
open Go Go.RowKit Go.Shelf

theorem two_inj {a b : Nat} (h1 : 2 ^ a ≤ 2 ^ b) (h2 : 2 ^ b < 2 * 2 ^ a) : a = b := by
  have e1 : a ≤ b := (Nat.pow_le_pow_iff_right (by decide)).1 h1
  have e2 : b < a + 1 := Pt.two_lt (by rw [Nat.pow_succ]; omega)
  omega
theorem oddp_one {n : Nat} (h : 0 < n) (ho : oddp n = 1) : ∃ k, n = 2 ^ k := by
  obtain ⟨k, e, _⟩ := oddp_split n h
  rw [ho, Nat.one_mul] at e
  exact ⟨k, e⟩
theorem oddp_two (k : Nat) : oddp (2 ^ k) = 1 := by have := oddp_pow 1 rfl k; rwa [Nat.one_mul] at this
/-- The shift is exact if both parts of the quotient in lowest terms are powers of 2. -/
theorem exact_iff {N M i j g x y : Nat} (ho : Pt.Oct N M i j) (hg : 0 < g) (ex : N = x * g) (ey : M = y * g) (hx : 0 < x) (hy : 0 < y) (hc : Nat.gcd x y = 1) :
    (N * 2 ^ i = M * 2 ^ j) ↔ (oddp x = 1 ∧ oddp y = 1) := by
  obtain ⟨h0, h1, h2⟩ := ho
  have r : ∀ z k : Nat, z * g * 2 ^ k = g * (z * 2 ^ k) := fun z k => by ac_rfl
  rw [ex, ey, r, r] at *
  have h1' : y * 2 ^ j ≤ x * 2 ^ i := Nat.le_of_mul_le_mul_left h1 hg
  have h2' : x * 2 ^ i < 2 * (y * 2 ^ j) := by
    rw [show 2 * (g * (y * 2 ^ j)) = g * (2 * (y * 2 ^ j)) by ac_rfl] at h2
    exact Nat.lt_of_mul_lt_mul_left h2
  constructor
  · intro h
    have h := Nat.eq_of_mul_eq_mul_left hg h
    rcases h0 with rfl | rfl
    · rw [Nat.pow_zero, Nat.mul_one] at h
      have hd : y ∣ x := ⟨2 ^ j, h⟩
      have h3 : y = 1 := by rw [← hc, Nat.gcd_comm, Nat.gcd_eq_left hd]
      subst h3
      rw [Nat.one_mul] at h
      exact ⟨by rw [h]; exact oddp_two j, oddp_odd rfl⟩
    · rw [Nat.pow_zero, Nat.mul_one] at h
      have hd : x ∣ y := ⟨2 ^ i, h.symm⟩
      have h3 : x = 1 := by rw [← hc, Nat.gcd_eq_left hd]
      subst h3
      rw [Nat.one_mul] at h
      exact ⟨oddp_odd rfl, by rw [← h]; exact oddp_two i⟩
  · rintro ⟨o1, o2⟩
    obtain ⟨u, rfl⟩ := oddp_one hx o1
    obtain ⟨v, rfl⟩ := oddp_one hy o2
    rw [← Nat.pow_add, ← Nat.pow_add] at *
    rw [two_inj h1' h2']
/-- A quotient of positive ints in lowest terms. -/
theorem low_of {p q : Int} (hp : 0 < p) (hq : 0 < q) : ∃ x y g : Nat, FracMath.qn p q = x ∧ FracMath.qd p q = y ∧ 0 < g ∧ 0 < x ∧ 0 < y ∧ p = (x * g : Nat) ∧ q = (y * g : Nat) ∧ Nat.gcd x y = 1 := by
  obtain ⟨n, rfl⟩ : ∃ n : Nat, p = n := ⟨p.toNat, by omega⟩
  obtain ⟨m, rfl⟩ : ∃ n : Nat, q = n := ⟨q.toNat, by omega⟩
  have hg : 0 < Nat.gcd n m := Nat.gcd_pos_of_pos_left _ (by omega)
  have eg : FracMath.gg (n : Int) m = Nat.gcd n m := by unfold FracMath.gg; rw [Int.natAbs_natCast, Int.natAbs_natCast]
  refine ⟨n / Nat.gcd n m, m / Nat.gcd n m, Nat.gcd n m, ?_, ?_, hg, Nat.div_pos (Nat.le_of_dvd (by omega) (Nat.gcd_dvd_left _ _)) hg, Nat.div_pos (Nat.le_of_dvd (by omega) (Nat.gcd_dvd_right _ _)) hg, ?_, ?_, ?_⟩
  · rw [FracMath.qn_of_pos (by omega), eg, Int.tdiv_eq_ediv_of_nonneg (by omega)]
    exact (Int.natCast_ediv _ _).symm
  · unfold FracMath.qd; rw [eg, Int.natAbs_natCast]
  · rw [Nat.div_mul_cancel (Nat.gcd_dvd_left _ _)]
  · rw [Nat.div_mul_cancel (Nat.gcd_dvd_right _ _)]
  · rw [Nat.gcd_div (Nat.gcd_dvd_left _ _) (Nat.gcd_dvd_right _ _), Nat.div_self hg]
/-- What the law asks of Compare. -/
theorem cmp_low {p q : Int} {x y g : Nat} (hg : 0 < g) (ep : p = (x * g : Nat)) (eq : q = (y * g : Nat)) : FracMath.cmpI p q = if x = y then 0 else if x < y then -1 else 1 := by
  have hlt : ∀ a b : Nat, a < b ↔ a * g < b * g := fun a b => (Nat.mul_lt_mul_right hg).symm
  have h1 := hlt x y
  have h2 := hlt y x
  rw [ep, eq]
  unfold FracMath.cmpI
  by_cases e : x = y
  · subst e; simp
  · rw [if_neg e]
    by_cases h : x < y
    · rw [if_pos h]
      have := h1.1 h
      simp; omega
    · rw [if_neg h]
      have := h2.1 (by omega)
      simp; omega
theorem shi_comm {x y s : Int} (a b : Int) (h : ShI x y s) (e1 : a = x) (e2 : b = y) : ShI a b s := by rw [e1, e2]; exact h
theorem shi_neg {x y s : Int} (h : ShI x y s) (hx : 0 < x) : ShI y x (-s) := Pt.sh_neg h (by omega)
theorem shi_self {x : Int} (hx : 0 < x) : ShI x x 0 := Pt.sh_self (by omega)
theorem shi_mono {x y x' y' s s' : Int} (h : ShI x y s) (h' : ShI x' y' s') (hx : 0 < x) (hy : 0 < y) (hx' : 0 < x') (hy' : 0 < y') (hc : x * y' ≤ x' * y) : s ≤ s' := by
  refine Pt.sh_mono h h' (by omega) (by omega) ?_
  have e1 : ((x.toNat * y'.toNat : Nat) : Int) = x * y' := by rw [Int.natCast_mul, Int.toNat_of_nonneg (by omega), Int.toNat_of_nonneg (by omega)]
  have e2 : ((x'.toNat * y.toNat : Nat) : Int) = x' * y := by rw [Int.natCast_mul, Int.toNat_of_nonneg (by omega), Int.toNat_of_nonneg (by omega)]
  omega
theorem shi_oct {x y s : Int} (h : ShI x y s) (hx : 0 < x) : ShI (2 * x) y (s + 12) := by
  have := Pt.sh_oct h
  unfold ShI
  rwa [show (2 * x).toNat = 2 * x.toNat by omega]
theorem shi_cross {x y x' y' s : Int} (h : ShI x y s) (hx : 0 < x) (hy : 0 < y) (hx' : 0 < x') (hy' : 0 < y') (hc : x * y' = x' * y) : ShI x' y' s := by
  obtain ⟨t, ht⟩ := shi_ex hx' hy'
  have e : s = t := Int.le_antisymm (shi_mono h ht hx hy hx' hy' (Int.le_of_eq hc)) (shi_mono ht h hx' hy' hx hy (Int.le_of_eq hc.symm))
  rw [e]; exact ht
theorem dvd_2 {g : Nat} (h : g ∣ 2) : ∃ u, g = 2 ^ u := by
  have hle := Nat.le_of_dvd (by decide) h
  rcases (show g = 0 ∨ g = 1 ∨ g = 2 by omega) with rfl | rfl | rfl
  · obtain ⟨k, hk⟩ := h; omega
  · exact ⟨0, rfl⟩
  · exact ⟨1, rfl⟩
/-- Half of the feet. -/
theorem half_odd (a b : Nat) (h1 : pk a b = 0) : ∃ x y : Nat, FracMath.qn (a : Int) (2 * (b : Int)) = x ∧ FracMath.qd (a : Int) (2 * (b : Int)) = y ∧ 0 < x ∧ 0 < y ∧ x ≤ 16384 ∧ y ≤ 256 ∧ oddp x = oddp a ∧ oddp y = oddp b ∧ a * y = 2 * b * x := by
  obtain ⟨_, k1, k2, k3, k4, kg⟩ := pk_ok h1
  have ha : 0 < a := by omega
  have hb : 0 < b := by omega
  have hg : Nat.gcd a b = 1 := kg
  have e8 : (2 * (b : Int)).natAbs = 2 * b := by omega
  have ea : ((a : Int)).natAbs = a := Int.natAbs_natCast a
  have eg : FracMath.gg (a : Int) (2 * (b : Int)) = Nat.gcd a 2 := by
    unfold FracMath.gg
    rw [e8, ea]
    exact Nat.Coprime.gcd_mul_right_cancel_right 2 (Nat.Coprime.symm hg)
  obtain ⟨u, hu⟩ := dvd_2 (Nat.gcd_dvd_right a 2)
  have d1 : Nat.gcd a 2 ∣ 2 * b := Nat.dvd_trans (Nat.gcd_dvd_right a 2) (Nat.dvd_mul_right 2 b)
  have d2 := Nat.gcd_dvd_left a 2
  have m1 := Nat.div_mul_cancel d1
  have m2 := Nat.div_mul_cancel d2
  have hgp : 0 < Nat.gcd a 2 := Nat.gcd_pos_of_pos_right _ (by decide)
  have p1 : 0 < 2 * b / Nat.gcd a 2 := Nat.div_pos (Nat.le_of_dvd (by omega) d1) hgp
  have p2 : 0 < a / Nat.gcd a 2 := Nat.div_pos (Nat.le_of_dvd ha d2) hgp
  refine ⟨a / Nat.gcd a 2, 2 * b / Nat.gcd a 2, ?_, ?_, p2, p1, ?_, ?_, ?_, ?_, ?_⟩
  · rw [FracMath.qn_of_pos (by omega), eg]
    rw [Int.tdiv_eq_ediv_of_nonneg (by omega)]
    exact (Int.natCast_ediv _ _).symm
  · unfold FracMath.qd
    rw [eg, e8]
  · exact Nat.le_trans (Nat.div_le_self _ _) (by omega)
  · exact Nat.le_trans (Nat.div_le_self _ _) (by omega)
  · rw [← oddp_mul_pow p2 u, ← hu, m2]
  · rw [← oddp_mul_pow p1 u, ← hu, m1]
    exact oddp_double hb
  · generalize a / Nat.gcd a 2 = x at *
    generalize 2 * b / Nat.gcd a 2 = y at *
    calc a * y = (x * Nat.gcd a 2) * y := by rw [m2]
      _ = (y * Nat.gcd a 2) * x := by ac_rfl
      _ = 2 * b * x := by rw [m1]
end Go.Proofs.YtkoljddejjfbiaaGreatDoor
