/- The reference's Has and With. -/
import Derived.Test.YtibdnfcbgcbdeaaDoorNsH
namespace Go.Proofs.YtibdnfcbgcbdeaaDoor
open Go Go.RowKit Go.Shelf

theorem rhas_no (a b : Nat) (n : Int) (hn : n < 0 ∨ 127 < n) (w : World) :
    Calls Tryd.prog 31 #[.agg #[.int .u64 a, .int .u64 b], .int .i64 n] w fun e w' => e = .returned (.bool false) ∧ w' = w.alloc (.cells #[.int .u64 a, .int .u64 b] 34) := by
  by_cases h0 : n < 0
  · go_enter Tryd.func31, Tryd.ntmps31
    go_wp2
    go_ret
    exact ⟨rfl, rfl⟩
  · have h1 : n > 127 := by omega
    have h2 : (0 : Int) ≤ n := by omega
    go_enter Tryd.func31, Tryd.ntmps31
    go_wp2
    go_ret
    exact ⟨rfl, rfl⟩

theorem bit_and (a n : Nat) (ha : a < 18446744073709551616) : (bits .and .u64 ((a : Int) / 2 ^ n) 1 == 1) = a.testBit n := by
  have h1 : ((a : Int) / 2 ^ n) = ((a / 2 ^ n : Nat) : Int) := by simp
  have h2 : a / 2 ^ n < 18446744073709551616 := Nat.lt_of_le_of_lt (Nat.div_le_self _ _) ha
  have h3 : bits .and .u64 ((a / 2 ^ n : Nat) : Int) 1 = ((a / 2 ^ n &&& 1 : Nat) : Int) := u64_and_nat _ 1 h2 (by decide)
  rw [h1, h3, Nat.and_one_is_mod, Nat.testBit_eq_decide_div_mod_eq, Bool.eq_iff_iff]
  simp
  omega

set_option maxHeartbeats 1000000 in
theorem rhas_low (a b n : Nat) (hn : n < 64) (ha : a < 18446744073709551616) (w : World) :
    Calls Tryd.prog 31 #[.agg #[.int .u64 a, .int .u64 b], .int .i64 n] w fun e w' => e = .returned (.bool (Ns.has a b n)) ∧ w' = w.alloc (.cells #[.int .u64 a, .int .u64 b] 34) := by
  have e0 : Ns.has a b n = a.testBit n := by unfold Ns.has; rw [if_pos (by omega)]
  rw [e0]
  clear e0
  have h1 : (n : Int) < 64 := by omega
  have h2 : (n : Int) ≤ 127 := by omega
  have e1 : IntKind.u64.wrap (n : Int) = (n : Int) := by rw [IntKind.wrap_u64]; omega
  have hb := Lib.hid (bit_and a n ha)
  go_enter Tryd.func31, Tryd.ntmps31
  go_wp2
  go_ret
  exact ⟨by rw [← hb.out]; rfl, rfl⟩

set_option maxHeartbeats 1000000 in
theorem rhas_high (a b n : Nat) (hn : 64 ≤ n) (hn2 : n < 128) (ha : b < 18446744073709551616) (w : World) :
    Calls Tryd.prog 31 #[.agg #[.int .u64 a, .int .u64 b], .int .i64 n] w fun e w' => e = .returned (.bool (Ns.has a b n)) ∧ w' = w.alloc (.cells #[.int .u64 a, .int .u64 b] 34) := by
  have e0 : Ns.has a b n = b.testBit (n - 64) := by unfold Ns.has; rw [if_neg (by omega)]
  rw [e0]
  clear e0
  have h1 : ¬ (n : Int) < 64 := by omega
  have h2 : (n : Int) ≤ 127 := by omega
  have e1 : IntKind.i64.wrap ((n : Int) - 64) = (n : Int) - 64 := by rw [IntKind.wrap_i64]; omega
  have e2 : IntKind.u64.wrap ((n : Int) - 64) = (n : Int) - 64 := by rw [IntKind.wrap_u64]; omega
  have e3 : ((n : Int) - 64).toNat = n - 64 := by omega
  have hb := Lib.hid (bit_and b (n - 64) ha)
  go_enter Tryd.func31, Tryd.ntmps31
  go_wp2
  go_ret
  exact ⟨by rw [← hb.out]; rfl, rfl⟩

theorem rhas_any (a b n : Nat) (hn : n < 128) (ha : a < 18446744073709551616) (hb : b < 18446744073709551616) (w : World) :
    Calls Tryd.prog 31 #[.agg #[.int .u64 a, .int .u64 b], .int .i64 n] w fun e w' => e = .returned (.bool (Ns.has a b n)) ∧ w' = w.alloc (.cells #[.int .u64 a, .int .u64 b] 34) := by
  by_cases h : n < 64
  · exact rhas_low a b n h ha w
  · exact rhas_high a b n (by omega) hn hb w

set_option maxHeartbeats 1000000 in
theorem with_low (a b n : Nat) (hn : n < 64) (ha : a < 18446744073709551616) (_hb : b < 18446744073709551616) (w : World) :
    Calls Tryd.prog 42 #[.agg #[.int .u64 a, .int .u64 b], .int .i64 n] w fun e w' => e = .returned (.agg #[.int .u64 ((a ||| Ns.sLo n : Nat) : Int), .int .u64 ((b ||| Ns.sHi n : Nat) : Int)]) ∧ Below w.heap.size w w' := by
  have e1 : Ns.sLo n = 2 ^ n := by unfold Ns.sLo; rw [if_pos hn]
  have e2 : Ns.sHi n = 0 := by unfold Ns.sHi; rw [if_pos hn]
  rw [e1, e2, Nat.or_zero b]
  clear e1 e2
  have h1 : (n : Int) < 64 := by omega
  have h3 : IntKind.u64.wrap (n : Int) = (n : Int) := by rw [IntKind.wrap_u64]; omega
  have h4 := wrap_pow n (by omega)
  have h5 := u64_or_nat a (2 ^ n) ha (Nat.lt_of_lt_of_le (Nat.pow_lt_pow_right (by decide) (by omega : n < 64)) (by decide : 2 ^ 64 ≤ 18446744073709551616))
  have h6 : bits .or .u64 (a : Int) ((2 : Int) ^ n) = ((a ||| 2 ^ n : Nat) : Int) := by rw [← h5]; simp
  go_enter Tryd.func42, Tryd.ntmps42
  go_wp2
  refine bodyPost_ret (v := .agg #[.int .u64 ((a ||| 2 ^ n : Nat) : Int), .int .u64 (b : Nat)]) (by simp [results, Tryd.results42, go_sem]) rfl ⟨rfl, ?_⟩
  repeat (first | exact Below.refl _ _ | (refine Below.setCell ?_ (by simp <;> omega) _) | (refine Below.alloc ?_ (by simp <;> omega) _))

set_option maxHeartbeats 1000000 in
theorem with_high (a b n : Nat) (hn : 64 ≤ n) (hn2 : n < 128) (_ha : a < 18446744073709551616) (hb : b < 18446744073709551616) (w : World) :
    Calls Tryd.prog 42 #[.agg #[.int .u64 a, .int .u64 b], .int .i64 n] w fun e w' => e = .returned (.agg #[.int .u64 ((a ||| Ns.sLo n : Nat) : Int), .int .u64 ((b ||| Ns.sHi n : Nat) : Int)]) ∧ Below w.heap.size w w' := by
  have e1 : Ns.sLo n = 0 := by unfold Ns.sLo; rw [if_neg (by omega)]
  have e2 : Ns.sHi n = 2 ^ (n - 64) := by unfold Ns.sHi; rw [if_neg (by omega)]
  rw [e1, e2, Nat.or_zero a]
  clear e1 e2
  have h1 : ¬ (n : Int) < 64 := by omega
  have h2 : IntKind.i64.wrap ((n : Int) - 64) = (n : Int) - 64 := by rw [IntKind.wrap_i64]; omega
  have h3 : IntKind.u64.wrap ((n : Int) - 64) = (n : Int) - 64 := by rw [IntKind.wrap_u64]; omega
  have e3 : ((n : Int) - 64).toNat = n - 64 := by omega
  have h4 := wrap_pow (n - 64) (by omega)
  have h5 := u64_or_nat b (2 ^ (n - 64)) hb (Nat.lt_of_lt_of_le (Nat.pow_lt_pow_right (by decide) (by omega : (n - 64) < 64)) (by decide : 2 ^ 64 ≤ 18446744073709551616))
  have h6 : bits .or .u64 (b : Int) ((2 : Int) ^ (n - 64)) = ((b ||| 2 ^ (n - 64) : Nat) : Int) := by rw [← h5]; simp
  go_enter Tryd.func42, Tryd.ntmps42
  go_wp2
  refine bodyPost_ret (v := .agg #[.int .u64 (a : Nat), .int .u64 ((b ||| 2 ^ (n - 64) : Nat) : Int)]) (by simp [results, Tryd.results42, go_sem]) rfl ⟨rfl, ?_⟩
  repeat (first | exact Below.refl _ _ | (refine Below.setCell ?_ (by simp <;> omega) _) | (refine Below.alloc ?_ (by simp <;> omega) _))

theorem with_any (a b n : Nat) (hn : n < 128) (ha : a < 18446744073709551616) (hb : b < 18446744073709551616) (w : World) :
    Calls Tryd.prog 42 #[.agg #[.int .u64 a, .int .u64 b], .int .i64 n] w fun e w' => e = .returned (.agg #[.int .u64 ((a ||| Ns.sLo n : Nat) : Int), .int .u64 ((b ||| Ns.sHi n : Nat) : Int)]) ∧ Below w.heap.size w w' := by
  by_cases h : n < 64
  · exact with_low a b n h ha hb w
  · exact with_high a b n (by omega) hn ha hb w
end Go.Proofs.YtibdnfcbgcbdeaaDoor
