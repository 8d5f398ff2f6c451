/- Contracts of the small functions of package noteset: valid, single, Union, Both, Without, Within, Has, Least. Words of 64 bits are natural numbers; NsMath says what each result is. -/
import Derived.Test.YtibdnfcbgcbdeaaDoorProg
import Derived.Test.YtibdnfcbgcbdeaaDoorNsMath
import Derived.WalkKit
import Derived.WalkSpells
import Derived.WalkLawsBesides
import Derived.Outline
import Derived.BigQuiet
import Derived.Deep.QuietTactic
import Derived.RegionTactic
import Derived.Deep.RegionWith
import Derived.Deep.RegionHeld3
import Derived.ChangeAlike
import Derived.Lib.Hide
import Derived.Handy
namespace Go.Proofs.YtibdnfcbgcbdeaaDoor
open Go.RowKit

theorem still_more {P : Program} {f : FuncId} {xs : Array Value} {W : World} {i j : Nat} {v : Value}
    (h : Calls P f xs (W.drewN (i + j)) fun e w' => e = .returned v ∧ W.drewN (i + j) = w') :
    Calls P f xs (W.drewN (i + j)) fun e w' => e = .returned v ∧ ∃ m, w' = W.drewN (i + m) :=
  h.mono fun _ _ hh => ⟨hh.1, j, hh.2.symm⟩
/-- the same, met at the first draws -/
theorem still_here {P : Program} {f : FuncId} {xs : Array Value} {W : World} {j : Nat} {v : Value}
    (h : Calls P f xs (W.drewN j) fun e w' => e = .returned v ∧ W.drewN j = w') :
    Calls P f xs (W.drewN j) fun e w' => e = .returned v ∧ ∃ m, w' = W.drewN m :=
  h.mono fun _ _ hh => ⟨hh.1, j, hh.2.symm⟩
theorem ret_int {k : IntKind} {a b : Int} (h : a = b) : Ending.returned (.int k a) = .returned (.int k b) := by rw [h]
theorem bcell {W w1 : World} (hb : Below W.heap.size W w1) : (∀ b o, b < W.heap.size → w1.cell? ⟨b, o, none⟩ = W.cell? ⟨b, o, none⟩) ∧ (∀ b o, b < W.heap.size → w1.frozen? ⟨b, o, none⟩ = W.frozen? ⟨b, o, none⟩) :=
  ⟨fun b o h => hb.cell (p := ⟨b, o, none⟩) h, fun b o h => hb.frozen (p := ⟨b, o, none⟩) h⟩

def validB (n : Int) : Bool := decide (0 ≤ n ∧ n ≤ 127)

theorem valid_any (n : Int) (w : World) :
    Calls Tryd.prog 43 #[.int .i64 n] w fun e w' => e = .returned (.bool (validB n)) ∧ w = w' := by
  by_cases h0 : 0 ≤ n <;> by_cases h1 : n ≤ 127 <;>
  · go_enter Tryd.func43, Tryd.ntmps43
    go_wp2
    go_ret
    refine ⟨?_, rfl⟩
    simp [validB, h0, h1] <;> omega

theorem wrap_pow (n : Nat) (h : n < 64) : IntKind.u64.wrap ((2 : Int) ^ n) = ((2 ^ n : Nat) : Int) := by
  have h1 : 2 ^ n < 2 ^ 64 := Nat.pow_lt_pow_right (by decide) h
  have h2 : ((2 : Int) ^ n) = ((2 ^ n : Nat) : Int) := by simp
  rw [h2, IntKind.wrap_u64]
  generalize 2 ^ n = m at h1 ⊢
  omega

set_option maxHeartbeats 400000 in
theorem single_low (n : Nat) (h : n < 64) (w : World) :
    Calls Tryd.prog 48 #[.int .i64 n] w fun e w' => e = .returned (.agg #[.int .u64 (Ns.sLo n : Nat), .int .u64 (Ns.sHi n : Nat)]) ∧ Below w.heap.size w w' := by
  have hc : (n : Int) < 64 := by omega
  have e1 : Ns.sLo n = 2 ^ n := by unfold Ns.sLo; rw [if_pos h]
  have e2 : Ns.sHi n = 0 := by unfold Ns.sHi; rw [if_pos h]
  rw [e1, e2, ← wrap_pow n h]
  clear e1 e2
  go_enter Tryd.func48, Tryd.ntmps48
  go_wp2
  refine bodyPost_ret (v := .agg #[.int .u64 (IntKind.u64.wrap (2 ^ n)), .int .u64 0]) (by simp [results, Tryd.results48, go_sem]) rfl ⟨rfl, ?_⟩
  repeat (first | exact Below.refl _ _ | (refine Below.setCell ?_ (by simp <;> omega) _) | (refine Below.alloc ?_ (by simp <;> omega) _))

set_option maxHeartbeats 400000 in
theorem single_high (n : Nat) (h : 64 ≤ n) (h' : n < 128) (w : World) :
    Calls Tryd.prog 48 #[.int .i64 n] w fun e w' => e = .returned (.agg #[.int .u64 (Ns.sLo n : Nat), .int .u64 (Ns.sHi n : Nat)]) ∧ Below w.heap.size w w' := by
  have hc : ¬ (n : Int) < 64 := by omega
  have hd : IntKind.i64.wrap ((n : Int) - 64) = (n : Int) - 64 := by rw [IntKind.wrap_i64]; omega
  have e1 : Ns.sLo n = 0 := by unfold Ns.sLo; rw [if_neg (by omega)]
  have e2 : Ns.sHi n = 2 ^ (n - 64) := by unfold Ns.sHi; rw [if_neg (by omega)]
  rw [e1, e2, ← wrap_pow (n - 64) (by omega)]
  clear e1 e2
  have e3 : ((n : Int) - 64).toNat = n - 64 := by omega
  go_enter Tryd.func48, Tryd.ntmps48
  go_wp2
  refine bodyPost_ret (v := .agg #[.int .u64 0, .int .u64 (IntKind.u64.wrap (2 ^ (n - 64)))]) (by simp [results, Tryd.results48, go_sem]) rfl ⟨rfl, ?_⟩
  repeat (first | exact Below.refl _ _ | (refine Below.setCell ?_ (by simp <;> omega) _) | (refine Below.alloc ?_ (by simp <;> omega) _))

theorem single_any (n : Nat) (h : n < 128) (w : World) :
    Calls Tryd.prog 48 #[.int .i64 n] w fun e w' => e = .returned (.agg #[.int .u64 (Ns.sLo n : Nat), .int .u64 (Ns.sHi n : Nat)]) ∧ Below w.heap.size w w' := by
  by_cases h1 : n < 64
  · exact single_low n h1 w
  · exact single_high n (by omega) h w

set_option maxHeartbeats 400000 in
theorem union_any (a b c d : Nat) (ha : a < 18446744073709551616) (hb : b < 18446744073709551616) (hc : c < 18446744073709551616) (hd : d < 18446744073709551616) (w : World) :
    Calls Tryd.prog 32 #[.agg #[.int .u64 a, .int .u64 b], .agg #[.int .u64 c, .int .u64 d]] w fun e w' => e = .returned (.agg #[.int .u64 ((a ||| c : Nat) : Int), .int .u64 ((b ||| d : Nat) : Int)]) ∧ Below w.heap.size w w' := by
  have h1 : bits .or .u64 (a : Int) (c : Int) = ((a ||| c : Nat) : Int) := u64_or_nat a c ha hc
  have h2 : bits .or .u64 (b : Int) (d : Int) = ((b ||| d : Nat) : Int) := u64_or_nat b d hb hd
  go_enter Tryd.func32, Tryd.ntmps32
  go_wp2
  refine bodyPost_ret (v := .agg #[.int .u64 ((a ||| c : Nat) : Int), .int .u64 ((b ||| d : Nat) : Int)]) (by simp [results, Tryd.results32, go_sem]) rfl ⟨rfl, ?_⟩
  repeat (first | exact Below.refl _ _ | (refine Below.setCell ?_ (by simp <;> omega) _) | (refine Below.alloc ?_ (by simp <;> omega) _))

set_option maxHeartbeats 400000 in
theorem both_any (a b c d : Nat) (ha : a < 18446744073709551616) (hb : b < 18446744073709551616) (hc : c < 18446744073709551616) (hd : d < 18446744073709551616) (w : World) :
    Calls Tryd.prog 33 #[.agg #[.int .u64 a, .int .u64 b], .agg #[.int .u64 c, .int .u64 d]] w fun e w' => e = .returned (.agg #[.int .u64 ((a &&& c : Nat) : Int), .int .u64 ((b &&& d : Nat) : Int)]) ∧ Below w.heap.size w w' := by
  have h1 : bits .and .u64 (a : Int) (c : Int) = ((a &&& c : Nat) : Int) := u64_and_nat a c ha hc
  have h2 : bits .and .u64 (b : Int) (d : Int) = ((b &&& d : Nat) : Int) := u64_and_nat b d hb hd
  go_enter Tryd.func33, Tryd.ntmps33
  go_wp2
  refine bodyPost_ret (v := .agg #[.int .u64 ((a &&& c : Nat) : Int), .int .u64 ((b &&& d : Nat) : Int)]) (by simp [results, Tryd.results33, go_sem]) rfl ⟨rfl, ?_⟩
  repeat (first | exact Below.refl _ _ | (refine Below.setCell ?_ (by simp <;> omega) _) | (refine Below.alloc ?_ (by simp <;> omega) _))

set_option maxHeartbeats 400000 in
theorem without_any (a b c d : Nat) (ha : a < 18446744073709551616) (hb : b < 18446744073709551616) (hc : c < 18446744073709551616) (hd : d < 18446744073709551616) (w : World) :
    Calls Tryd.prog 34 #[.agg #[.int .u64 a, .int .u64 b], .agg #[.int .u64 c, .int .u64 d]] w fun e w' => e = .returned (.agg #[.int .u64 (Ns.wo a c : Nat), .int .u64 (Ns.wo b d : Nat)]) ∧ Below w.heap.size w w' := by
  have h1 : bits .andNot .u64 (a : Int) (c : Int) = (Ns.wo a c : Nat) := u64_andNot_nat a c ha hc
  have h2 : bits .andNot .u64 (b : Int) (d : Int) = (Ns.wo b d : Nat) := u64_andNot_nat b d hb hd
  go_enter Tryd.func34, Tryd.ntmps34
  go_wp2
  refine bodyPost_ret (v := .agg #[.int .u64 (Ns.wo a c : Nat), .int .u64 (Ns.wo b d : Nat)]) (by simp [results, Tryd.results34, go_sem]) rfl ⟨rfl, ?_⟩
  repeat (first | exact Below.refl _ _ | (refine Below.setCell ?_ (by simp <;> omega) _) | (refine Below.alloc ?_ (by simp <;> omega) _))

/-- A struct of two words lies in a cell; two such are compared. -/
theorem eq_zero (a b : Nat) : (a == 0 && b == 0) = decide (a = 0 ∧ b = 0) := by
  rw [Bool.eq_iff_iff]; simp

set_option maxHeartbeats 400000 in
theorem within_any (a b c d : Nat) (ha : a < 18446744073709551616) (hb : b < 18446744073709551616) (hc : c < 18446744073709551616) (hd : d < 18446744073709551616) (w : World) :
    Calls Tryd.prog 35 #[.agg #[.int .u64 a, .int .u64 b], .agg #[.int .u64 c, .int .u64 d]] w fun e w' => e = .returned (.bool (Ns.withinB a b c d)) ∧ Below w.heap.size w w' := by
  go_enter Tryd.func35, Tryd.ntmps35
  go_wp2_with fail
  refine (without_any a b c d ha hb hc hd _).mono ?_
  rintro e w1 ⟨rfl, hb1⟩
  obtain ⟨hce, hf⟩ := bcell hb1
  have hz := hb1.size
  simp at hz
  go_wp2
  all_goals
    go_ret
    refine ⟨by simp [Ns.withinB, *], (Below.trans ?_ (hb1.mono (by simp; omega)))⟩
    repeat (first | exact Below.refl _ _ | (refine Below.setCell ?_ (by simp <;> omega) _) | (refine Below.alloc ?_ (by simp <;> omega) _))

set_option maxHeartbeats 400000 in
theorem has_yes (a b n : Nat) (hn : n < 128) (ha : a < 18446744073709551616) (hb : b < 18446744073709551616) (w : World) :
    Calls Tryd.prog 30 #[.agg #[.int .u64 a, .int .u64 b], .int .i64 n] w fun e w' => e = .returned (.bool (Ns.withinB (Ns.sLo n) (Ns.sHi n) a b)) ∧ Below w.heap.size w w' := by
  have v : ∀ W, Calls Tryd.prog 43 #[.int .i64 n] W fun e w' => e = .returned (.bool true) ∧ W = w' := fun W => by
    have := valid_any n W
    rwa [show validB n = true by simp [validB]; omega] at this
  go_enter Tryd.func30, Tryd.ntmps30
  go_wp2
  have HS := Lib.hid (show ∀ W : World, Below (w.heap.size + 1) (w.alloc (.cells #[.int .u64 a, .int .u64 b] 34)) W → (W.cell? ⟨w.heap.size, 0, none⟩ = some (.int .u64 a) ∧ W.cell? ⟨w.heap.size, 1, none⟩ = some (.int .u64 b) ∧ Below (w.heap.size + 1) (w.alloc (.cells #[.int .u64 a, .int .u64 b] 34)) W) from fun W hW => ⟨(hW.cell (p := ⟨w.heap.size, 0, none⟩) (by simp)).trans (by simp), (hW.cell (p := ⟨w.heap.size, 1, none⟩) (by simp)).trans (by simp), hW⟩)
  have HN := Lib.hid (show ∀ W W' : World, Below W.heap.size W W' → (W.cell? ⟨w.heap.size, 0, none⟩ = some (.int .u64 a) ∧ W.cell? ⟨w.heap.size, 1, none⟩ = some (.int .u64 b) ∧ Below (w.heap.size + 1) (w.alloc (.cells #[.int .u64 a, .int .u64 b] 34)) W) → Below (w.heap.size + 1) (w.alloc (.cells #[.int .u64 a, .int .u64 b] 34)) W' from fun W W' hb h => h.2.2.trans (hb.mono (by have := h.2.2.size; simp at this; omega)))
  go_region_held3 (fun W => W.cell? ⟨w.heap.size, 0, none⟩ = some (.int .u64 a) ∧ W.cell? ⟨w.heap.size, 1, none⟩ = some (.int .u64 b) ∧ Below (w.heap.size + 1) (w.alloc (.cells #[.int .u64 a, .int .u64 b] 34)) W) ((refine HS.out _ ?_; repeat' (first | (with_reducible exact hB3) | (with_reducible exact hB2) | (with_reducible exact (Below.refl _ _).drew) | (with_reducible exact Below.refl _ _) | (with_reducible refine Below.drew ?_))))
    (first
    | (go_at_call 43; refine (v _).mono ?_; rintro e w' ⟨rfl, rfl⟩)
    | (go_at_call 48; refine (single_any n hn _).mono ?_; rintro e w2 ⟨rfl, hb2⟩; have hB2 := HN.out _ _ hb2 (by assumption))
    | (go_at_call 35; refine (within_any _ _ _ _ (Ns.sLo_lt n) (Ns.sHi_lt n hn) ha hb _).mono ?_; rintro e w3 ⟨rfl, hb3⟩; have hB3 := HN.out _ _ hb3 (by assumption)))
  go_wp2
  go_ret
  exact ⟨rfl, ((Below.refl _ _).alloc (Nat.le_refl _) _).trans (Below.mono hB3 (Nat.le_succ _))⟩

theorem has_no (a b : Nat) (n : Int) (hn : n < 0 ∨ 127 < n) (w : World) :
    Calls Tryd.prog 30 #[.agg #[.int .u64 a, .int .u64 b], .int .i64 n] w fun e w' => e = .returned (.bool false) ∧ Below w.heap.size w w' := by
  have v : ∀ W, Calls Tryd.prog 43 #[.int .i64 n] W fun e w' => e = .returned (.bool false) ∧ W = w' := fun W => by
    have := valid_any n W
    rwa [show validB n = false by simp [validB]; omega] at this
  go_enter Tryd.func30, Tryd.ntmps30
  go_wp2
  go_quiet ((go_at_call 43; exact still_here (v _)))
  go_wp2
  go_ret
  exact ⟨rfl, below_drewN ((Below.refl _ _).alloc (Nat.le_refl _) _) _⟩
end Go.Proofs.YtibdnfcbgcbdeaaDoor
