/- The octaves of a size: the first guess is near, and how far the exponents go. -/
import Derived.Test.YthdoadkdofgenaaGreatDoorIvEa
namespace Go.Proofs.YthdoadkdofgenaaGreatDoor.Iv
open Go
/-- The octaves of a sum of logarithms. -/
def oc (z : Int) (D : Nat) : Int := z / ((D : Int) * L2)
theorem lg_low (a b c n D : Int) : lg (a - n * D) b c = lg a b c - n * (D * L2) := by
  unfold lg
  rw [Int.sub_mul, Int.mul_assoc n D L2]
  omega
theorem sg_lt (z : Int) : (sg z < 0) ↔ z < 0 := by
  unfold sg
  split
  · omega
  · split <;> omega
theorem oc_lt {z n : Int} {D : Nat} (hD : 0 < D) : oc z D < n ↔ z - n * ((D : Int) * L2) < 0 := by
  unfold oc
  have h : (0 : Int) < (D : Int) * L2 := by unfold L2; omega
  rw [Int.ediv_lt_iff_lt_mul h]
  omega
theorem tdiv_near (x : Int) {d : Int} (hd : 0 < d) : x.tdiv d * d - x < d ∧ -d < x.tdiv d * d - x := by
  have e := Int.mul_tdiv_add_tmod x d
  have m := Int.natAbs_tmod x d
  have l := Nat.mod_lt x.natAbs (show 0 < d.natAbs by omega)
  rw [← m] at l
  rw [Int.mul_comm] at e
  omega
theorem oct_first {a b c : Int} {D : Nat} (_ha : -900 ≤ a ∧ a ≤ 900) (hb : -900 ≤ b ∧ b ≤ 900) (hc : -900 ≤ c ∧ c ≤ 900) (hD : 0 < D) :
    oc (lg a b c) D - 1 ≤ ((a * 1000000 + b * 1584963 + c * 2321928).tdiv (D : Int)).tdiv 1000000 ∧ ((a * 1000000 + b * 1584963 + c * 2321928).tdiv (D : Int)).tdiv 1000000 ≤ oc (lg a b c) D + 2 := by
  obtain ⟨S, hS⟩ : ∃ S, a * 1000000 + b * 1584963 + c * 2321928 = S := ⟨_, rfl⟩
  obtain ⟨z, hz⟩ : ∃ z, lg a b c = z := ⟨_, rfl⟩
  have h1 : -1000000000000000000000000000 ≤ S * 1000000000000000000000000 - z ∧ S * 1000000000000000000000000 - z ≤ 1000000000000000000000000000 := by
    rw [← hS, ← hz]
    unfold lg L2 L3 L5
    omega
  rw [hS, hz]
  clear hS hz _ha hb hc
  have hDi : (0 : Int) < (D : Int) := by omega
  have k1 := tdiv_near S hDi
  obtain ⟨q, hq⟩ : ∃ q, S.tdiv (D : Int) = q := ⟨_, rfl⟩
  rw [hq] at k1 ⊢
  have k2 := tdiv_near q (show (0 : Int) < 1000000 by decide)
  obtain ⟨n, hn⟩ : ∃ n, q.tdiv 1000000 = n := ⟨_, rfl⟩
  rw [hn] at k2 ⊢
  obtain ⟨F, hF⟩ : ∃ F, oc z D = F := ⟨_, rfl⟩
  have k3 : F * ((D : Int) * L2) ≤ z ∧ z < (F + 1) * ((D : Int) * L2) := by
    have hp : (0 : Int) < (D : Int) * L2 := by unfold L2; omega
    rw [← hF]
    exact ⟨Int.ediv_mul_le z (by omega), Int.lt_ediv_add_one_mul_self z hp⟩
  rw [hF]
  clear hq hn hF
  generalize (D : Int) = d at *
  -- n·10^6·d is within d·10^6 of S
  have k4 : n * d * 1000000 - S < 1000000 * d ∧ -(1000000 * d) < n * d * 1000000 - S := by
    have a1 : (n * 1000000 - q) * d ≤ 999999 * d := Int.mul_le_mul_of_nonneg_right (by omega) (by omega)
    have a2 : (-999999) * d ≤ (n * 1000000 - q) * d := Int.mul_le_mul_of_nonneg_right (by omega) (by omega)
    rw [Int.sub_mul, show n * 1000000 * d = n * d * 1000000 by ac_rfl] at a1 a2
    generalize n * d = x at *
    generalize q * d = y at *
    omega
  rw [Int.add_mul, Int.one_mul, ← Int.mul_assoc] at k3
  obtain ⟨x, hx⟩ : ∃ x, n * d = x := ⟨_, rfl⟩
  obtain ⟨y, hy⟩ : ∃ y, F * d = y := ⟨_, rfl⟩
  rw [hx] at k4
  rw [hy] at k3
  have k5 : x < y + 3 * d ∧ y - 2 * d < x := by
    clear hx hy k1 k2
    unfold L2 at k3
    omega
  rw [← hx, ← hy] at k5
  constructor
  · have : (F - 2) * d < n * d := by rw [Int.sub_mul]; exact k5.2
    have := Int.lt_of_mul_lt_mul_right this (by omega)
    omega
  · have : n * d < (F + 3) * d := by rw [Int.add_mul]; exact k5.1
    have := Int.lt_of_mul_lt_mul_right this (by omega)
    omega
/-- How far the exponents go while octaves are tried. -/
theorem oct_bound {a b c n : Int} {D : Nat} (ha : -900 ≤ a ∧ a ≤ 900) (hb : -900 ≤ b ∧ b ≤ 900) (hc : -900 ≤ c ∧ c ≤ 900) (hD : 0 < D) (hD2 : D ≤ 240) (h1 : oc (lg a b c) D - 3 ≤ n) (h2 : n ≤ oc (lg a b c) D + 3) :
    -7000 ≤ a - n * D ∧ a - n * D ≤ 7000 ∧ -10000 ≤ n ∧ n ≤ 10000 := by
  obtain ⟨z, hz⟩ : ∃ z, lg a b c = z := ⟨_, rfl⟩
  have hzb : -4420 * 1000000000000000000000000000000 ≤ z ∧ z ≤ 4420 * 1000000000000000000000000000000 := by
    rw [← hz]; unfold lg L2 L3 L5; omega
  rw [hz] at h1 h2
  clear hz hb hc
  obtain ⟨F, hF⟩ : ∃ F, oc z D = F := ⟨_, rfl⟩
  have k3 : F * ((D : Int) * L2) ≤ z ∧ z < (F + 1) * ((D : Int) * L2) := by
    have hp : (0 : Int) < (D : Int) * L2 := by unfold L2; omega
    rw [← hF]
    exact ⟨Int.ediv_mul_le z (by omega), Int.lt_ediv_add_one_mul_self z hp⟩
  rw [hF] at h1 h2
  clear hF
  have hd1 : 1 ≤ (D : Int) ∧ (D : Int) ≤ 240 := by omega
  generalize (D : Int) = d at *
  clear hD hD2
  have a1 : n * d ≤ (F + 3) * d := Int.mul_le_mul_of_nonneg_right h2 (by omega)
  have a2 : (F - 3) * d ≤ n * d := Int.mul_le_mul_of_nonneg_right h1 (by omega)
  rw [Int.add_mul] at a1
  rw [Int.sub_mul] at a2
  rw [Int.add_mul, Int.one_mul, ← Int.mul_assoc] at k3
  have b1 : -5420 ≤ n * d ∧ n * d ≤ 5420 := by
    generalize n * d = x at *
    generalize F * d = y at *
    unfold L2 at k3
    omega
  refine ⟨by omega, by omega, ?_⟩
  have b2 : (n * d).natAbs = n.natAbs * d.natAbs := Int.natAbs_mul n d
  have b3 : n.natAbs * 1 ≤ n.natAbs * d.natAbs := Nat.mul_le_mul_left _ (by omega)
  omega
end Go.Proofs.YthdoadkdofgenaaGreatDoor.Iv
