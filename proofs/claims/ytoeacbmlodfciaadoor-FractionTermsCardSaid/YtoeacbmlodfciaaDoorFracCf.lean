/- Plain mathematics of continued fractions: their values, from the last term on, and where they are too great; no program is named here. -/
import Derived.Test.YtoeacbmlodfciaaDoorFracV
namespace Go.Proofs.YtoeacbmlodfciaaDoor.FracMath

/-- Numerator and denominator of the value of the last r of n terms. -/
def cfs (X : Nat → Int) (n : Nat) : Nat → Int × Int
  | 0 => (1, 0)
  | r + 1 => (X (n - 1 - r) * (cfs X n r).1 + (cfs X n r).2, (cfs X n r).1)
def okP (p t : Int) : Bool := decide (p ≤ 1000000 ∧ t ≤ 1000000 ∧ -1000001 ≤ t)
def okR (p t : Int) : Bool := decide (t ≤ 2000000 ∧ -2000000 ≤ t ∧ p ≤ 1000000)
/-- The value of terms that are right but for their size. -/
def cfV (X : Nat → Int) (n : Nat) : Int × Int × Int := if (List.range n).all (fun r => okP (cfs X n r).1 (X (n - 1 - r))) = true then mk (cfs X n n).1 (cfs X n n).2 else (0, 0, 4)

theorem cfs_succ (X : Nat → Int) (n r : Nat) : cfs X n (r + 1) = (X (n - 1 - r) * (cfs X n r).1 + (cfs X n r).2, (cfs X n r).1) := rfl
theorem cf_gcd (X : Nat → Int) (n r : Nat) : gg (cfs X n r).1 (cfs X n r).2 = 1 := by
  induction r with
  | zero => show gg 1 0 = 1; decide
  | succ r ih =>
    rw [cfs_succ]
    unfold gg at *
    simp only
    have e : (X (n - 1 - r) * (cfs X n r).1 + (cfs X n r).2).natAbs.gcd (cfs X n r).1.natAbs = Int.gcd ((cfs X n r).2 + X (n - 1 - r) * (cfs X n r).1) (cfs X n r).1 := by rw [Int.add_comm]; rfl
    rw [e, Int.gcd_comm, Int.gcd_add_mul_right_right]
    exact ih
theorem cf_pos {X : Nat → Int} {n : Nat} (H : ∀ i, 1 ≤ i → i < n → 1 ≤ X i) {r : Nat} (hr : r < n) : 1 ≤ (cfs X n r).1 ∧ 0 ≤ (cfs X n r).2 ∧ (cfs X n r).2 ≤ (cfs X n r).1 := by
  induction r with
  | zero => exact ⟨Int.le_refl _, Int.le_refl _, (by decide : (0 : Int) ≤ 1)⟩
  | succ r ih =>
    obtain ⟨h1, h2, h3⟩ := ih (by omega)
    have ht := H (n - 1 - r) (by omega) (by omega)
    rw [cfs_succ]
    simp only
    have := Int.mul_le_mul_of_nonneg_right ht (show 0 ≤ (cfs X n r).1 by omega)
    rw [Int.one_mul] at this
    omega
theorem cf_stopP {X : Nat → Int} {n r : Nat} (hr : r < n) (h : okP (cfs X n r).1 (X (n - 1 - r)) = false) : cfV X n = (0, 0, 4) := by
  unfold cfV
  rw [if_neg]
  intro ha
  rw [List.all_eq_true.1 ha r (List.mem_range.2 hr)] at h
  cases h
theorem cf_doneP {X : Nat → Int} {n : Nat} (h : ∀ r, r < n → okP (cfs X n r).1 (X (n - 1 - r)) = true) : cfV X n = mk (cfs X n n).1 (cfs X n n).2 := by
  unfold cfV
  rw [if_pos (List.all_eq_true.2 fun r hr => h r (List.mem_range.1 hr))]
theorem cf_stopR {X : Nat → Int} {n r : Nat} (hr : r < n) (h : okR (cfs X n r).1 (X (n - 1 - r)) = false) : cfV X n = (0, 0, 4) := by
  refine cf_stopP hr ?_
  unfold okP okR at *
  simp at *
  omega
theorem mk_great {p q : Int} (hq : q ≠ 0) (hg : gg p q = 1) (hp : 1000000 < p ∨ p < -1000000) : mk p q = (0, 0, 4) := by
  refine mk_over hq ?_
  unfold overB
  rw [hg]
  simp
  omega
theorem cf_doneR {X : Nat → Int} {n : Nat} (hn : 0 < n) (H : ∀ i, 1 ≤ i → i < n → 1 ≤ X i) (h : ∀ r, r < n → okR (cfs X n r).1 (X (n - 1 - r)) = true) : cfV X n = mk (cfs X n n).1 (cfs X n n).2 := by
  by_cases ha : ∀ r, r < n → okP (cfs X n r).1 (X (n - 1 - r)) = true
  · exact cf_doneP ha
  · obtain ⟨r, hr⟩ : ∃ r, ¬ (r < n → okP (cfs X n r).1 (X (n - 1 - r)) = true) := Classical.not_forall.1 ha
    have hrn : r < n := Classical.byContradiction fun e => hr (fun h => absurd h e)
    have hb : okP (cfs X n r).1 (X (n - 1 - r)) = false := by
      cases hk : okP (cfs X n r).1 (X (n - 1 - r)) with
      | false => rfl
      | true => exact absurd (fun _ => hk) hr
    rw [cf_stopP hrn hb]
    obtain ⟨h1, h2, h3⟩ := cf_pos H hrn
    have hR := h r hrn
    unfold okR at hR
    unfold okP at hb
    simp at hR hb
    by_cases hl : r + 1 < n
    · exfalso
      have ht := H (n - 1 - r) (by omega) (by omega)
      have hR2 := h (r + 1) hl
      unfold okR at hR2
      rw [cfs_succ] at hR2
      simp at hR2
      have := Int.mul_le_mul_of_nonneg_right (show 1000001 ≤ X (n - 1 - r) by omega) (show 0 ≤ (cfs X n r).1 by omega)
      omega
    · obtain rfl : n = r + 1 := by omega
      have hg := cf_gcd X (r + 1) (r + 1)
      rw [cfs_succ] at hg ⊢
      simp only at hg ⊢
      symm
      refine mk_great (by omega) hg ?_
      by_cases ht : 1000000 < X (r + 1 - 1 - r)
      · have := Int.mul_le_mul_of_nonneg_right (show 1000001 ≤ X (r + 1 - 1 - r) by omega) (show 0 ≤ (cfs X (r + 1) r).1 by omega)
        omega
      · have := Int.mul_le_mul_of_nonneg_right (show X (r + 1 - 1 - r) ≤ -1000002 by omega) (show 0 ≤ (cfs X (r + 1) r).1 by omega)
        omega
end Go.Proofs.YtoeacbmlodfciaaDoor.FracMath
