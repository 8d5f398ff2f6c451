/- More plain arithmetic on fractions: signs of differences and bounds of quotients; no program is named here; no condition. -/
import Derived.Test.YtoeacbmlodfciaaDoorFracMath
namespace Go.Proofs.YtoeacbmlodfciaaDoor.FracMath
open Go.RowKit
def cmpI (a b : Int) : Int := if a < b then -1 else if b < a then 1 else 0
theorem cmpI_lt {a b : Int} (h : a < b) : cmpI a b = -1 := by unfold cmpI; rw [if_pos h]
theorem cmpI_gt {a b : Int} (h : b < a) : cmpI a b = 1 := by unfold cmpI; rw [if_neg (by omega), if_pos h]
theorem cmpI_eq {a : Int} : cmpI a a = 0 := by unfold cmpI; rw [if_neg (by omega), if_neg (by omega)]
theorem tdiv_bd (n d : Int) : -(n.natAbs : Int) ≤ n.tdiv d ∧ n.tdiv d ≤ n.natAbs := by
  have h : (n.tdiv d).natAbs ≤ n.natAbs := by rw [Int.natAbs_tdiv]; exact Nat.div_le_self _ _
  omega
theorem tdiv_mul_bd (n d : Int) (h : 0 < d) : -(n.natAbs : Int) ≤ n.tdiv d * d ∧ n.tdiv d * d ≤ n.natAbs ∧ n.tdiv d * d + n.tmod d = n := by
  have e : n.tdiv d * d + n.tmod d = n := Int.tdiv_mul_add_tmod n d
  have r1 := Int.tmod_lt_of_pos n h
  have r2 := Int.lt_tmod_of_pos n h
  have r3 : (n.tdiv d * d).natAbs ≤ n.natAbs := by
    rw [Int.natAbs_mul, Int.natAbs_tdiv]
    exact Nat.div_mul_le_self _ _
  omega
theorem ediv_mul_le' (n d : Int) (h : 0 < d) : n / d * d ≤ n := Int.ediv_mul_le n (by omega)
end Go.Proofs.YtoeacbmlodfciaaDoor.FracMath
