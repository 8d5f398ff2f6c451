/- Contract of the reference's Simplest: trying denominators from 1 on it comes to the simplest number that FracMath.bet reckons. -/
import Derived.Test.YtoeacbmlodfciaaDoorFracO
import Derived.Test.YtoeacbmlodfciaaDoorFracBetB
namespace Go.Proofs.YtoeacbmlodfciaaDoor
open Go.RowKit

theorem ref_floor_wide (n d : Int) (w : World) (h1 : -4000000000000 ≤ n) (h2 : n ≤ 4000000000000) (h3 : 1 ≤ d) (h4 : d ≤ 4000000) :
    Calls Tryd.prog 42 #[.int .i64 n, .int .i64 d] w fun e w' => e = .returned (.int .i64 (n / d)) ∧ w = w' := by
  have hz : (d == 0) = false := by simp; omega
  have hb := FracMath.tdiv_bd n d
  have hf := Lib.hid (FracMath.floor2 n d (by omega))
  obtain ⟨p1, p2, p3⟩ := FracMath.tdiv_mul_bd n d (by omega)
  by_cases hn : 0 ≤ n
  · rw [Int.tdiv_eq_ediv_of_nonneg hn] at hb p1 p2
    have p4 := FracMath.ediv_mul_le' n d (by omega)
    clear p3
    go_enter Tryd.func42, Tryd.ntmps42
    go_wp2
    go_ret
    exact ⟨rfl, rfl⟩
  · by_cases h : n < n.tdiv d * d
    · have HE := Lib.hid (show n / d = n.tdiv d - 1 by rw [← hf.out, if_pos h])
      go_enter Tryd.func42, Tryd.ntmps42
      go_wp2
      go_ret
      exact ⟨ret_int HE.out.symm, rfl⟩
    · have HE := Lib.hid (show n / d = n.tdiv d by rw [← hf.out, if_neg h])
      go_enter Tryd.func42, Tryd.ntmps42
      go_wp2
      go_ret
      exact ⟨ret_int HE.out.symm, rfl⟩

/-- Simplest from a right fraction to itself -/
theorem simplest_self (a b : Int) (w : World) (h1 : FracMath.rightB a b = true) :
    Calls Tryd.prog 18 #[.agg #[.int .i64 a, .int .i64 b], .agg #[.int .i64 a, .int .i64 b]] w fun e w' => e = .returned (.tuple #[.agg #[.int .i64 a, .int .i64 b], .int .i64 0]) ∧ Below w.heap.size w w' := by
  obtain ⟨k1, k2, k3, k4, k5⟩ := FracMath.right_of h1
  by_cases hp : 1 ≤ a
  · have best := FracMath.bet_best (b + b).toNat a b a b hp k3 hp k3 (by omega) (Int.le_refl _)
    obtain ⟨e1, e2⟩ := FracMath.best_self hp k3 k5 best
    have := simplest_pos a b a b w h1 h1 (Int.le_refl _) hp
    rw [e1, e2] at this; exact this
  by_cases hn : a < 0
  · have best := FracMath.bet_best (b + b).toNat (-a) b (-a) b (by omega) k3 (by omega) k3 (by omega) (Int.le_refl _)
    obtain ⟨e1, e2⟩ := FracMath.best_self (by omega) k3 (by rw [FracMath.gg_neg]; exact k5) best
    have := simplest_neg a b a b w h1 h1 (Int.le_refl _) hn
    rw [e1, e2, Int.neg_neg] at this; exact this
  · obtain rfl : a = 0 := by omega
    obtain rfl : b = 1 := by
      have : FracMath.gg 0 b = b.natAbs := Nat.gcd_zero_left _
      omega
    exact simplest_zero 0 1 0 1 w h1 h1 (Int.le_refl _) (by omega) (by omega)
end Go.Proofs.YtoeacbmlodfciaaDoor
