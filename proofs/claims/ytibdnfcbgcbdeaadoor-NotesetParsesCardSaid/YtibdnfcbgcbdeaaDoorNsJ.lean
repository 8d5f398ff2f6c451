/- Shift, and the reference's: a set moved. -/
import Derived.Test.YtibdnfcbgcbdeaaDoorNsI
import Derived.Test.YtibdnfcbgcbdeaaDoorNsSh
namespace Go.Proofs.YtibdnfcbgcbdeaaDoor
open Go Go.RowKit Go.Shelf

theorem wrap_shl (a k : Nat) : IntKind.u64.wrap ((a : Int) * 2 ^ k) = (Ns.shl a k : Nat) := by
  unfold Ns.shl
  have e : (a : Int) * 2 ^ k = ((a * 2 ^ k : Nat) : Int) := by simp
  rw [e, IntKind.wrap_u64]
  generalize a * 2 ^ k = z
  omega
theorem shr_cast (a k : Nat) : (a : Int) / 2 ^ k = ((a / 2 ^ k : Nat) : Int) := by simp

set_option maxHeartbeats 1000000 in
theorem down_high (a b k : Nat) (h : 64 ≤ k) (h2 : k < 128) (w : World) :
    Calls Tryd.prog 54 #[.agg #[.int .u64 a, .int .u64 b], .int .i64 k] w fun e w' => e = .returned (.agg #[.int .u64 (Ns.dnLo a b k : Nat), .int .u64 (Ns.dnHi b k : Nat)]) ∧ Below w.heap.size w w' := by
  have e1 : Ns.dnLo a b k = b / 2 ^ (k - 64) := by unfold Ns.dnLo; rw [if_pos h]
  have e2 : Ns.dnHi b k = 0 := by unfold Ns.dnHi; rw [if_pos h]
  rw [e1, e2, ← shr_cast]
  clear e1 e2
  have h1 : (64 : Int) ≤ (k : Int) := by omega
  have h3 : IntKind.i64.wrap ((k : Int) - 64) = (k : Int) - 64 := by rw [IntKind.wrap_i64]; omega
  have h4 : ((k : Int) - 64).toNat = k - 64 := by omega
  go_enter Tryd.func54, Tryd.ntmps54
  go_wp2
  refine bodyPost_ret (v := .agg #[.int .u64 (((b : Nat) : Int) / 2 ^ (k - 64)), .int .u64 (0)]) (by simp [results, Tryd.results54, go_sem]) rfl ⟨rfl, ?_⟩
  repeat (first | exact Below.refl _ _ | (refine Below.setCell ?_ (by simp <;> omega) _) | (refine Below.alloc ?_ (by simp <;> omega) _))

set_option maxHeartbeats 1000000 in
theorem down_low (a b k : Nat) (h : k < 64) (ha : a < 18446744073709551616) (w : World) :
    Calls Tryd.prog 54 #[.agg #[.int .u64 a, .int .u64 b], .int .i64 k] w fun e w' => e = .returned (.agg #[.int .u64 (Ns.dnLo a b k : Nat), .int .u64 (Ns.dnHi b k : Nat)]) ∧ Below w.heap.size w w' := by
  obtain ⟨sh, hsh⟩ : ∃ sh, Ns.shl b (64 - k) = sh := ⟨_, rfl⟩
  have hs2 : sh < 18446744073709551616 := by rw [← hsh]; exact Ns.shl_lt _ _
  obtain ⟨z, hz⟩ : ∃ z, a / 2 ^ k ||| sh = z := ⟨_, rfl⟩
  have e1 : Ns.dnLo a b k = z := by unfold Ns.dnLo; rw [if_neg (by omega), hsh, hz]
  have e2 : Ns.dnHi b k = b / 2 ^ k := by unfold Ns.dnHi; rw [if_neg (by omega)]
  have h7 := wrap_shl b (64 - k)
  have h8 := u64_or_nat (a / 2 ^ k) sh (Ns.shr_lt _ ha) hs2
  rw [hsh] at h7
  rw [hz, ← shr_cast] at h8
  rw [e1, e2, ← shr_cast]
  clear e1 e2 hsh hz
  have h1 : ¬ (64 : Int) ≤ (k : Int) := by omega
  have h3 : IntKind.i64.wrap (64 - (k : Int)) = 64 - (k : Int) := by rw [IntKind.wrap_i64]; omega
  have h4 : (64 - (k : Int)).toNat = 64 - k := by omega
  have h9 : (0 : Int) ≤ 64 - (k : Int) := by omega
  go_enter Tryd.func54, Tryd.ntmps54
  go_wp2
  go_region
  go_wp2
  refine bodyPost_ret (v := .agg #[.int .u64 ((z : Nat)), .int .u64 (((b : Nat) : Int) / 2 ^ k)]) (by simp [results, Tryd.results54, go_sem]) rfl ⟨rfl, ?_⟩
  repeat (first | exact Below.refl _ _ | (refine Below.drew ?_) | (refine Below.setCell ?_ (by simp <;> omega) _) | (refine Below.alloc ?_ (by simp <;> omega) _))

set_option maxHeartbeats 1000000 in
theorem up_high (a b k : Nat) (h : 64 ≤ k) (h2 : k < 128) (w : World) :
    Calls Tryd.prog 55 #[.agg #[.int .u64 a, .int .u64 b], .int .i64 k] w fun e w' => e = .returned (.agg #[.int .u64 (Ns.upLo a k : Nat), .int .u64 (Ns.upHi a b k : Nat)]) ∧ Below w.heap.size w w' := by
  obtain ⟨sh, hsh⟩ : ∃ sh, Ns.shl a (k - 64) = sh := ⟨_, rfl⟩
  have e1 : Ns.upLo a k = 0 := by unfold Ns.upLo; rw [if_pos h]
  have e2 : Ns.upHi a b k = sh := by unfold Ns.upHi; rw [if_pos h, hsh]
  have h5 := wrap_shl a (k - 64)
  rw [hsh] at h5
  rw [e1, e2]
  clear e1 e2 hsh
  have h1 : (64 : Int) ≤ (k : Int) := by omega
  have h3 : IntKind.i64.wrap ((k : Int) - 64) = (k : Int) - 64 := by rw [IntKind.wrap_i64]; omega
  have h4 : ((k : Int) - 64).toNat = k - 64 := by omega
  go_enter Tryd.func55, Tryd.ntmps55
  go_wp2
  refine bodyPost_ret (v := .agg #[.int .u64 (0), .int .u64 ((sh : Nat))]) (by simp [results, Tryd.results55, go_sem]) rfl ⟨rfl, ?_⟩
  repeat (first | exact Below.refl _ _ | (refine Below.setCell ?_ (by simp <;> omega) _) | (refine Below.alloc ?_ (by simp <;> omega) _))

set_option maxHeartbeats 1000000 in
theorem up_low (a b k : Nat) (h : k < 64) (ha : a < 18446744073709551616) (w : World) :
    Calls Tryd.prog 55 #[.agg #[.int .u64 a, .int .u64 b], .int .i64 k] w fun e w' => e = .returned (.agg #[.int .u64 (Ns.upLo a k : Nat), .int .u64 (Ns.upHi a b k : Nat)]) ∧ Below w.heap.size w w' := by
  obtain ⟨sl, hsl⟩ : ∃ sl, Ns.shl a k = sl := ⟨_, rfl⟩
  obtain ⟨sh, hsh⟩ : ∃ sh, Ns.shl b k = sh := ⟨_, rfl⟩
  have hs2 : sh < 18446744073709551616 := by rw [← hsh]; exact Ns.shl_lt _ _
  obtain ⟨z, hz⟩ : ∃ z, sh ||| a / 2 ^ (64 - k) = z := ⟨_, rfl⟩
  have e1 : Ns.upLo a k = sl := by unfold Ns.upLo; rw [if_neg (by omega), hsl]
  have e2 : Ns.upHi a b k = z := by unfold Ns.upHi; rw [if_neg (by omega), hsh, hz]
  have h6 := wrap_shl a k
  have h7 := wrap_shl b k
  have h8 := u64_or_nat sh (a / 2 ^ (64 - k)) hs2 (Ns.shr_lt _ ha)
  rw [hsl] at h6
  rw [hsh] at h7
  rw [hz, ← shr_cast] at h8
  rw [e1, e2]
  clear e1 e2 hsh hz hsl
  have h1 : ¬ (64 : Int) ≤ (k : Int) := by omega
  have h3 : IntKind.i64.wrap (64 - (k : Int)) = 64 - (k : Int) := by rw [IntKind.wrap_i64]; omega
  have h4 : (64 - (k : Int)).toNat = 64 - k := by omega
  have h9 : (0 : Int) ≤ 64 - (k : Int) := by omega
  go_enter Tryd.func55, Tryd.ntmps55
  go_wp2
  go_region
  go_wp2
  refine bodyPost_ret (v := .agg #[.int .u64 ((sl : Nat)), .int .u64 ((z : Nat))]) (by simp [results, Tryd.results55, go_sem]) rfl ⟨rfl, ?_⟩
  repeat (first | exact Below.refl _ _ | (refine Below.drew ?_) | (refine Below.setCell ?_ (by simp <;> omega) _) | (refine Below.alloc ?_ (by simp <;> omega) _))

theorem down_any (a b k : Nat) (h : k < 128) (ha : a < 18446744073709551616) (w : World) :
    Calls Tryd.prog 54 #[.agg #[.int .u64 a, .int .u64 b], .int .i64 k] w fun e w' => e = .returned (.agg #[.int .u64 (Ns.dnLo a b k : Nat), .int .u64 (Ns.dnHi b k : Nat)]) ∧ Below w.heap.size w w' := by
  by_cases h1 : k < 64
  · exact down_low a b k h1 ha w
  · exact down_high a b k (by omega) h w
theorem up_any (a b k : Nat) (h : k < 128) (ha : a < 18446744073709551616) (w : World) :
    Calls Tryd.prog 55 #[.agg #[.int .u64 a, .int .u64 b], .int .i64 k] w fun e w' => e = .returned (.agg #[.int .u64 (Ns.upLo a k : Nat), .int .u64 (Ns.upHi a b k : Nat)]) ∧ Below w.heap.size w w' := by
  by_cases h1 : k < 64
  · exact up_low a b k h1 ha w
  · exact up_high a b k (by omega) h w

set_option maxHeartbeats 1000000 in
theorem shift_out (a b : Nat) (k : Int) (h : k < -127 ∨ 127 < k) (w : World) :
    Calls Tryd.prog 36 #[.agg #[.int .u64 a, .int .u64 b], .int .i64 k] w fun e w' => e = .returned (.agg #[.int .u64 (Ns.shLo a b k : Nat), .int .u64 (Ns.shHi a b k : Nat)]) ∧ Below w.heap.size w w' := by
  have e1 : Ns.shLo a b k = 0 := by unfold Ns.shLo; rw [if_pos h]
  have e2 : Ns.shHi a b k = 0 := by unfold Ns.shHi; rw [if_pos h]
  rw [e1, e2]
  clear e1 e2
  by_cases h1 : k < -127
  · go_enter Tryd.func36, Tryd.ntmps36
    go_wp2
    refine bodyPost_ret (v := .agg #[.int .u64 0, .int .u64 0]) (by simp [results, Tryd.results36, go_sem]) rfl ⟨rfl, ?_⟩
    repeat (first | exact Below.refl _ _ | (refine Below.drew ?_) | (refine Below.setCell ?_ (by simp <;> omega) _) | (refine Below.alloc ?_ (by simp <;> omega) _))
  · have h2 : 127 < k := by omega
    have h3 : -127 ≤ k := by omega
    go_enter Tryd.func36, Tryd.ntmps36
    go_wp2
    refine bodyPost_ret (v := .agg #[.int .u64 0, .int .u64 0]) (by simp [results, Tryd.results36, go_sem]) rfl ⟨rfl, ?_⟩
    repeat (first | exact Below.refl _ _ | (refine Below.drew ?_) | (refine Below.setCell ?_ (by simp <;> omega) _) | (refine Below.alloc ?_ (by simp <;> omega) _))

set_option maxHeartbeats 1000000 in
theorem shift_neg (a b k : Nat) (h0 : 0 < k) (h : k ≤ 127) (ha : a < 18446744073709551616) (w : World) :
    Calls Tryd.prog 36 #[.agg #[.int .u64 a, .int .u64 b], .int .i64 (-(k : Int))] w fun e w' => e = .returned (.agg #[.int .u64 (Ns.dnLo a b k : Nat), .int .u64 (Ns.dnHi b k : Nat)]) ∧ Below w.heap.size w w' := by
  have D := Lib.hid (fun W => down_any a b k (by omega) ha W)
  obtain ⟨x, hx⟩ : ∃ x, Ns.dnLo a b k = x := ⟨_, rfl⟩
  obtain ⟨y, hy⟩ : ∃ y, Ns.dnHi b k = y := ⟨_, rfl⟩
  rw [hx, hy] at D ⊢
  clear hx hy
  have h1 : ¬ -(k : Int) < -127 := by omega
  have h2 : ¬ -(k : Int) > 127 := by omega
  have h3 : -(k : Int) < 0 := by omega
  have h4 : IntKind.i64.wrap (-(-(k : Int))) = (k : Int) := by rw [IntKind.wrap_i64]; omega
  have h5 : IntKind.i64.wrap (k : Int) = (k : Int) := by rw [IntKind.wrap_i64]; omega
  go_enter Tryd.func36, Tryd.ntmps36
  go_wp2_with fail
  refine (D.out _).mono ?_
  rintro e w1 ⟨rfl, hb1⟩
  have hz := hb1.size
  simp at hz
  have hs0 : SetAt ((w.alloc (.cells #[.int .u64 a, .int .u64 b] 34)).alloc (.cells #[.int .u64 0, .int .u64 0] 34)) (w.heap.size + 1) 0 0 := by
    simpa using SetAt.new (w.alloc (.cells #[.int .u64 a, .int .u64 b] 34)) 0 0
  have hs1 := hs0.below hs0.lt hb1
  have g0 := hs1.fst
  have g1 := hs1.snd
  have g2 := hs1.f0
  have g3 := hs1.f1
  go_wp2
  have hq := hs1.put x y
  have q0 := hq.fst
  have q1 := hq.snd
  refine bodyPost_ret (v := .agg #[.int .u64 (x : Nat), .int .u64 (y : Nat)]) (by simp [results, Tryd.results36, go_sem, q0, q1]) rfl ⟨rfl, ?_⟩
  exact (((((Below.refl _ _).alloc (Nat.le_refl _) _).alloc (by simp) _).trans (hb1.mono (by simp; omega))).setCell (p := ⟨w.heap.size + 1, 0, none⟩) (Nat.le_succ _) _).setCell (p := ⟨w.heap.size + 1, 1, none⟩) (Nat.le_succ _) _

set_option maxHeartbeats 1000000 in
theorem shift_pos (a b k : Nat) (h : k ≤ 127) (ha : a < 18446744073709551616) (w : World) :
    Calls Tryd.prog 36 #[.agg #[.int .u64 a, .int .u64 b], .int .i64 k] w fun e w' => e = .returned (.agg #[.int .u64 (Ns.upLo a k : Nat), .int .u64 (Ns.upHi a b k : Nat)]) ∧ Below w.heap.size w w' := by
  have D := Lib.hid (fun W => up_any a b k (by omega) ha W)
  obtain ⟨x, hx⟩ : ∃ x, Ns.upLo a k = x := ⟨_, rfl⟩
  obtain ⟨y, hy⟩ : ∃ y, Ns.upHi a b k = y := ⟨_, rfl⟩
  rw [hx, hy] at D ⊢
  clear hx hy
  have h1 : ¬ (k : Int) < -127 := by omega
  have h2 : ¬ (k : Int) > 127 := by omega
  have h3 : ¬ (k : Int) < 0 := by omega
  go_enter Tryd.func36, Tryd.ntmps36
  go_wp2_with fail
  refine (D.out _).mono ?_
  rintro e w1 ⟨rfl, hb1⟩
  have hz := hb1.size
  simp at hz
  have hs0 : SetAt ((w.alloc (.cells #[.int .u64 a, .int .u64 b] 34)).alloc (.cells #[.int .u64 0, .int .u64 0] 34)) (w.heap.size + 1) 0 0 := by
    simpa using SetAt.new (w.alloc (.cells #[.int .u64 a, .int .u64 b] 34)) 0 0
  have hs1 := hs0.below hs0.lt hb1
  have g0 := hs1.fst
  have g1 := hs1.snd
  have g2 := hs1.f0
  have g3 := hs1.f1
  go_wp2
  have hq := hs1.put x y
  have q0 := hq.fst
  have q1 := hq.snd
  refine bodyPost_ret (v := .agg #[.int .u64 (x : Nat), .int .u64 (y : Nat)]) (by simp [results, Tryd.results36, go_sem, q0, q1]) rfl ⟨rfl, ?_⟩
  exact (((((Below.refl _ _).alloc (Nat.le_refl _) _).alloc (by simp) _).trans (hb1.mono (by simp; omega))).setCell (p := ⟨w.heap.size + 1, 0, none⟩) (Nat.le_succ _) _).setCell (p := ⟨w.heap.size + 1, 1, none⟩) (Nat.le_succ _) _

theorem shift_any (a b : Nat) (k : Int) (ha : a < 18446744073709551616) (w : World) :
    Calls Tryd.prog 36 #[.agg #[.int .u64 a, .int .u64 b], .int .i64 k] w fun e w' => e = .returned (.agg #[.int .u64 (Ns.shLo a b k : Nat), .int .u64 (Ns.shHi a b k : Nat)]) ∧ Below w.heap.size w w' := by
  by_cases h : k < -127 ∨ 127 < k
  · exact shift_out a b k h w
  · have e1 : Ns.shLo a b k = if k < 0 then Ns.dnLo a b (-k).toNat else Ns.upLo a k.toNat := by unfold Ns.shLo; rw [if_neg h]
    have e2 : Ns.shHi a b k = if k < 0 then Ns.dnHi b (-k).toNat else Ns.upHi a b k.toNat := by unfold Ns.shHi; rw [if_neg h]
    rw [e1, e2]
    by_cases h1 : k < 0
    · rw [if_pos h1, if_pos h1]
      obtain ⟨n, rfl⟩ : ∃ n : Nat, k = -(n : Int) := ⟨(-k).toNat, by omega⟩
      rw [show (-(-(n : Int))).toNat = n by omega]
      exact shift_neg a b n (by omega) (by omega) ha w
    · rw [if_neg h1, if_neg h1]
      obtain ⟨n, rfl⟩ : ∃ n : Nat, k = (n : Int) := ⟨k.toNat, by omega⟩
      rw [Int.toNat_natCast]
      exact shift_pos a b n (by omega) ha w
end Go.Proofs.YtibdnfcbgcbdeaaDoor
