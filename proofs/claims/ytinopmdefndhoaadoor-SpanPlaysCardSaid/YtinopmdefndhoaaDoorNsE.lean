/- Plain mathematics of sets of notes, as two words of 64 bits: members, the least one, taking one away. -/
import Derived.Lib.TrailingZeros
import Derived.Laws.BitsAllLaws
import Derived.Test.YtinopmdefndhoaaDoorProg
import Derived.WalkKit
import Derived.WalkSpells
import Derived.WalkLawsBesides
import Derived.Outline
import Derived.BigQuiet
import Derived.Deep.QuietTactic
import Derived.RegionTactic
import Derived.Deep.RegionWith
import Derived.Deep.RegionHeld3
import Derived.ChangeAlike
import Derived.Lib.Hide
import Derived.Handy
import Derived.RangeFuncNested
import Derived.RangeFuncBound
import Derived.RangeFuncCalls
import Derived.RangeFuncLeaves
import Derived.Shelf.Abstract
import Derived.Shelf.RegionOpen
import Derived.OwnWalkIn
import Derived.TacticsInMore
import Derived.LoopNIn
import Derived.LoopIn
import Derived.Test.YtinopmdefndhoaaDoorNsShelf
import Derived.Lib.SmallJoins
import Derived.Lib.ItoaNum
import Derived.Lib.AppendIntMem
import Derived.Laws.Bits128
namespace Go.Proofs.YtinopmdefndhoaaDoor.Ns

def has (lo hi n : Nat) : Bool := if n < 64 then lo.testBit n else hi.testBit (n - 64)
def notes (lo hi : Nat) : List Nat := (List.range' 0 128).filter (fun n => has lo hi n && decide (n < 128))
def sLo (n : Nat) : Nat := if n < 64 then 2 ^ n else 0
def sHi (n : Nat) : Nat := if n < 64 then 0 else 2 ^ (n - 64)
def wo (a b : Nat) : Nat := a &&& (18446744073709551615 - b)
def least (lo hi : Nat) : Nat := if lo = 0 then 64 + Lib.ctz 64 hi else Lib.ctz 64 lo
def some_ (lo hi : Nat) : Bool := !(lo == 0 && hi == 0)

theorem wo_lt (a b : Nat) (ha : a < 18446744073709551616) : wo a b < 18446744073709551616 := Nat.lt_of_le_of_lt Nat.and_le_left ha
theorem or_lt {a b : Nat} (ha : a < 18446744073709551616) (hb : b < 18446744073709551616) : a ||| b < 18446744073709551616 :=
  Nat.or_lt_two_pow (n := 64) ha hb
theorem and_lt {a : Nat} (b : Nat) (ha : a < 18446744073709551616) : a &&& b < 18446744073709551616 := Nat.lt_of_le_of_lt Nat.and_le_left ha
theorem sLo_lt (n : Nat) : sLo n < 18446744073709551616 := by
  unfold sLo; split
  · exact Nat.pow_lt_pow_right (by decide) (by omega : n < 64)
  · decide
theorem sHi_lt (n : Nat) (h : n < 128) : sHi n < 18446744073709551616 := by
  unfold sHi; split
  · decide
  · exact Nat.pow_lt_pow_right (by decide) (by omega : n - 64 < 64)

theorem compl_testBit (b i : Nat) (hb : b < 18446744073709551616) (hi : i < 64) : (18446744073709551615 - b).testBit i = !b.testBit i := by
  have := Nat.testBit_two_pow_sub_succ (n := 64) (x := b) hb i
  rw [show (2 : Nat) ^ 64 - (b + 1) = 18446744073709551615 - b by omega] at this
  rw [this]; simp [hi]

theorem testBit_ge {a i : Nat} (ha : a < 18446744073709551616) (hi : 64 ≤ i) : a.testBit i = false :=
  Nat.testBit_lt_two_pow (Nat.lt_of_lt_of_le ha (Nat.pow_le_pow_right (by decide) hi : 2 ^ 64 ≤ 2 ^ i))

theorem wo_testBit (a b i : Nat) (ha : a < 18446744073709551616) (hb : b < 18446744073709551616) : (wo a b).testBit i = (a.testBit i && !b.testBit i) := by
  unfold wo
  rw [Nat.testBit_and]
  by_cases hi : i < 64
  · rw [compl_testBit b i hb hi]
  · rw [testBit_ge ha (by omega)]; simp

theorem has_wo (a b c d n : Nat) (ha : a < 18446744073709551616) (hb : b < 18446744073709551616) (hc : c < 18446744073709551616) (hd : d < 18446744073709551616) :
    has (wo a c) (wo b d) n = (has a b n && !has c d n) := by
  unfold has
  split
  · exact wo_testBit a c n ha hc
  · exact wo_testBit b d _ hb hd

theorem has_or (a b c d n : Nat) : has (a ||| c) (b ||| d) n = (has a b n || has c d n) := by
  unfold has
  split <;> exact Nat.testBit_or ..
theorem has_and (a b c d n : Nat) : has (a &&& c) (b &&& d) n = (has a b n && has c d n) := by
  unfold has
  split <;> exact Nat.testBit_and ..

theorem has_single (m n : Nat) (hm : m < 128) (hn : n < 128) : has (sLo m) (sHi m) n = decide (m = n) := by
  unfold has sLo sHi
  by_cases h1 : n < 64 <;> by_cases h2 : m < 64 <;> simp [h1, h2, Nat.testBit_two_pow] <;> omega

/-- The lowest set bit. -/
theorem ctz_spec (x : Nat) (h0 : x ≠ 0) (h : x < 18446744073709551616) : Lib.ctz 64 x < 64 ∧ x.testBit (Lib.ctz 64 x) = true ∧ ∀ i, i < Lib.ctz 64 x → x.testBit i = false := by
  have hc : Lib.ctz 64 x = Lib.ctzFrom 64 x := by unfold Lib.ctz; rw [if_neg h0]
  obtain ⟨m, hm, hk⟩ := Lib.ctzFrom_spec 64 x (by omega) h
  rw [hc]
  clear hc
  generalize Lib.ctzFrom 64 x = k at hm hk ⊢
  refine ⟨hk, ?_, fun i hi => ?_⟩
  · rw [hm, Nat.mul_comm, Nat.testBit_mul_two_pow]
    simp
  · rw [hm, Nat.mul_comm, Nat.testBit_mul_two_pow]
    simp; omega

theorem least_spec (lo hi : Nat) (hl : lo < 18446744073709551616) (hh : hi < 18446744073709551616) (h : ¬ (lo = 0 ∧ hi = 0)) :
    least lo hi < 128 ∧ has lo hi (least lo hi) = true ∧ ∀ i, i < least lo hi → has lo hi i = false := by
  unfold least
  by_cases h0 : lo = 0
  · obtain ⟨h1, h2, h3⟩ := ctz_spec hi (fun e => h ⟨h0, e⟩) hh
    rw [if_pos h0]
    refine ⟨by omega, ?_, fun i hi' => ?_⟩
    · unfold has; rw [if_neg (by omega), show 64 + Lib.ctz 64 hi - 64 = Lib.ctz 64 hi by omega]; exact h2
    · unfold has; split
      · rw [h0]; exact Nat.zero_testBit i
      · exact h3 _ (by omega)
  · obtain ⟨h1, h2, h3⟩ := ctz_spec lo h0 hl
    rw [if_neg h0]
    refine ⟨by omega, ?_, fun i hi' => ?_⟩
    · unfold has; rw [if_pos h1]; exact h2
    · unfold has; rw [if_pos (by omega)]; exact h3 i hi'

def withinB (a b c d : Nat) : Bool := decide (wo a c = 0 ∧ wo b d = 0)
theorem notes_nil : notes 0 0 = [] := by decide +kernel

theorem notes_cons (lo hi : Nat) (hl : lo < 18446744073709551616) (hh : hi < 18446744073709551616) (h : ¬ (lo = 0 ∧ hi = 0)) :
    notes lo hi = least lo hi :: notes (wo lo (sLo (least lo hi))) (wo hi (sHi (least lo hi))) := by
  obtain ⟨h1, h2, h3⟩ := least_spec lo hi hl hh h
  obtain ⟨k, hk⟩ : ∃ k, least lo hi = k := ⟨_, rfl⟩
  rw [hk] at h1 h2 h3 ⊢
  have hw : ∀ n, n < 128 → has (wo lo (sLo k)) (wo hi (sHi k)) n = (has lo hi n && !decide (k = n)) := fun n hn => by
    rw [has_wo _ _ _ _ _ hl hh (sLo_lt k) (sHi_lt k h1), has_single k n h1 hn]
  unfold notes
  have e : List.range' 0 128 = List.range' 0 k ++ k :: List.range' (k + 1) (127 - k) := by
    have a := List.range'_append (s := 0) (m := k) (n := 128 - k) (step := 1)
    rw [show k + (128 - k) = 128 by omega, show 0 + 1 * k = k by omega, show 128 - k = (127 - k) + 1 by omega, List.range'_succ] at a
    exact a.symm
  rw [e, List.filter_append, List.filter_append, List.filter_cons, List.filter_cons]
  have l1 : (List.range' 0 k).filter (fun n => has lo hi n && decide (n < 128)) = [] := List.filter_eq_nil_iff.2 fun n hn => by
    have : n < k := by have := (List.mem_range'_1.1 hn).2; omega
    simp [h3 n this]
  have l2 : (List.range' 0 k).filter (fun n => has (wo lo (sLo k)) (wo hi (sHi k)) n && decide (n < 128)) = [] := List.filter_eq_nil_iff.2 fun n hn => by
    have : n < k := by have := (List.mem_range'_1.1 hn).2; omega
    rw [hw n (by omega), h3 n this]; simp
  rw [l1, l2]
  have l3 : (List.range' (k + 1) (127 - k)).filter (fun n => has (wo lo (sLo k)) (wo hi (sHi k)) n && decide (n < 128)) = (List.range' (k + 1) (127 - k)).filter (fun n => has lo hi n && decide (n < 128)) := by
    apply List.filter_congr
    intro n hn
    have := List.mem_range'_1.1 hn
    rw [hw n (by omega)]
    simp [show k ≠ n by omega]
  rw [l3]
  simp [h2, h1, hw k h1]

theorem notes_lt {lo hi n : Nat} (h : n ∈ notes lo hi) : n < 128 := by
  have := (List.mem_filter.1 h).2
  simp at this; exact this.2
theorem notes_length (lo hi : Nat) : (notes lo hi).length ≤ 128 := by
  have := List.length_filter_le (fun n => has lo hi n && decide (n < 128)) (List.range' 0 128)
  unfold notes; simpa using this
theorem mem_notes {lo hi n : Nat} : n ∈ notes lo hi ↔ n < 128 ∧ has lo hi n = true := by
  unfold notes
  rw [List.mem_filter]
  simp
  omega

/-- Two sets with the same notes are the same words. -/
theorem ext {a b c d : Nat} (ha : a < 18446744073709551616) (hb : b < 18446744073709551616) (hc : c < 18446744073709551616) (hd : d < 18446744073709551616)
    (h : ∀ n, n < 128 → has a b n = has c d n) : a = c ∧ b = d := by
  constructor
  · apply Nat.eq_of_testBit_eq
    intro i
    by_cases hi : i < 64
    · have := h i (by omega); unfold has at this; rwa [if_pos hi, if_pos hi] at this
    · rw [testBit_ge ha (by omega), testBit_ge hc (by omega)]
  · apply Nat.eq_of_testBit_eq
    intro i
    by_cases hi : i < 64
    · have := h (64 + i) (by omega)
      unfold has at this
      rwa [if_neg (by omega), if_neg (by omega), show 64 + i - 64 = i by omega] at this
    · rw [testBit_ge hb (by omega), testBit_ge hd (by omega)]
end Go.Proofs.YtinopmdefndhoaaDoor.Ns
/- Contracts of the small functions of package noteset: valid, single, Union, Both, Without, Within, Has, Least. Words of 64 bits are natural numbers; NsMath says what each result is. -/
namespace Go.Proofs.YtinopmdefndhoaaDoor
open Go.RowKit

theorem still_more {P : Program} {f : FuncId} {xs : Array Value} {W : World} {i j : Nat} {v : Value}
    (h : Calls P f xs (W.drewN (i + j)) fun e w' => e = .returned v ∧ W.drewN (i + j) = w') :
    Calls P f xs (W.drewN (i + j)) fun e w' => e = .returned v ∧ ∃ m, w' = W.drewN (i + m) :=
  h.mono fun _ _ hh => ⟨hh.1, j, hh.2.symm⟩
/-- the same, met at the first draws -/
theorem still_here {P : Program} {f : FuncId} {xs : Array Value} {W : World} {j : Nat} {v : Value}
    (h : Calls P f xs (W.drewN j) fun e w' => e = .returned v ∧ W.drewN j = w') :
    Calls P f xs (W.drewN j) fun e w' => e = .returned v ∧ ∃ m, w' = W.drewN m :=
  h.mono fun _ _ hh => ⟨hh.1, j, hh.2.symm⟩
theorem ret_int {k : IntKind} {a b : Int} (h : a = b) : Ending.returned (.int k a) = .returned (.int k b) := by rw [h]
theorem bcell {W w1 : World} (hb : Below W.heap.size W w1) : (∀ b o, b < W.heap.size → w1.cell? ⟨b, o, none⟩ = W.cell? ⟨b, o, none⟩) ∧ (∀ b o, b < W.heap.size → w1.frozen? ⟨b, o, none⟩ = W.frozen? ⟨b, o, none⟩) :=
  ⟨fun b o h => hb.cell (p := ⟨b, o, none⟩) h, fun b o h => hb.frozen (p := ⟨b, o, none⟩) h⟩

def validB (n : Int) : Bool := decide (0 ≤ n ∧ n ≤ 127)

theorem valid_any (n : Int) (w : World) :
    Calls Tryd.prog 51 #[.int .i64 n] w fun e w' => e = .returned (.bool (validB n)) ∧ w = w' := by
  by_cases h0 : 0 ≤ n <;> by_cases h1 : n ≤ 127 <;>
  · go_enter Tryd.func51, Tryd.ntmps51
    go_wp2
    go_ret
    refine ⟨?_, rfl⟩
    simp [validB, h0, h1] <;> omega

theorem wrap_pow (n : Nat) (h : n < 64) : IntKind.u64.wrap ((2 : Int) ^ n) = ((2 ^ n : Nat) : Int) := by
  have h1 : 2 ^ n < 2 ^ 64 := Nat.pow_lt_pow_right (by decide) h
  have h2 : ((2 : Int) ^ n) = ((2 ^ n : Nat) : Int) := by simp
  rw [h2, IntKind.wrap_u64]
  generalize 2 ^ n = m at h1 ⊢
  omega

set_option maxHeartbeats 400000 in
theorem single_low (n : Nat) (h : n < 64) (w : World) :
    Calls Tryd.prog 53 #[.int .i64 n] w fun e w' => e = .returned (.agg #[.int .u64 (Ns.sLo n : Nat), .int .u64 (Ns.sHi n : Nat)]) ∧ Below w.heap.size w w' := by
  have hc : (n : Int) < 64 := by omega
  have e1 : Ns.sLo n = 2 ^ n := by unfold Ns.sLo; rw [if_pos h]
  have e2 : Ns.sHi n = 0 := by unfold Ns.sHi; rw [if_pos h]
  rw [e1, e2, ← wrap_pow n h]
  clear e1 e2
  go_enter Tryd.func53, Tryd.ntmps53
  go_wp2
  refine bodyPost_ret (v := .agg #[.int .u64 (IntKind.u64.wrap (2 ^ n)), .int .u64 0]) (by simp [results, Tryd.results53, go_sem]) rfl ⟨rfl, ?_⟩
  repeat (first | exact Below.refl _ _ | (refine Below.setCell ?_ (by simp <;> omega) _) | (refine Below.alloc ?_ (by simp <;> omega) _))

set_option maxHeartbeats 400000 in
theorem single_high (n : Nat) (h : 64 ≤ n) (h' : n < 128) (w : World) :
    Calls Tryd.prog 53 #[.int .i64 n] w fun e w' => e = .returned (.agg #[.int .u64 (Ns.sLo n : Nat), .int .u64 (Ns.sHi n : Nat)]) ∧ Below w.heap.size w w' := by
  have hc : ¬ (n : Int) < 64 := by omega
  have hd : IntKind.i64.wrap ((n : Int) - 64) = (n : Int) - 64 := by rw [IntKind.wrap_i64]; omega
  have e1 : Ns.sLo n = 0 := by unfold Ns.sLo; rw [if_neg (by omega)]
  have e2 : Ns.sHi n = 2 ^ (n - 64) := by unfold Ns.sHi; rw [if_neg (by omega)]
  rw [e1, e2, ← wrap_pow (n - 64) (by omega)]
  clear e1 e2
  have e3 : ((n : Int) - 64).toNat = n - 64 := by omega
  go_enter Tryd.func53, Tryd.ntmps53
  go_wp2
  refine bodyPost_ret (v := .agg #[.int .u64 0, .int .u64 (IntKind.u64.wrap (2 ^ (n - 64)))]) (by simp [results, Tryd.results53, go_sem]) rfl ⟨rfl, ?_⟩
  repeat (first | exact Below.refl _ _ | (refine Below.setCell ?_ (by simp <;> omega) _) | (refine Below.alloc ?_ (by simp <;> omega) _))

theorem single_any (n : Nat) (h : n < 128) (w : World) :
    Calls Tryd.prog 53 #[.int .i64 n] w fun e w' => e = .returned (.agg #[.int .u64 (Ns.sLo n : Nat), .int .u64 (Ns.sHi n : Nat)]) ∧ Below w.heap.size w w' := by
  by_cases h1 : n < 64
  · exact single_low n h1 w
  · exact single_high n (by omega) h w

set_option maxHeartbeats 400000 in
theorem union_any (a b c d : Nat) (ha : a < 18446744073709551616) (hb : b < 18446744073709551616) (hc : c < 18446744073709551616) (hd : d < 18446744073709551616) (w : World) :
    Calls Tryd.prog 52 #[.agg #[.int .u64 a, .int .u64 b], .agg #[.int .u64 c, .int .u64 d]] w fun e w' => e = .returned (.agg #[.int .u64 ((a ||| c : Nat) : Int), .int .u64 ((b ||| d : Nat) : Int)]) ∧ Below w.heap.size w w' := by
  have h1 : bits .or .u64 (a : Int) (c : Int) = ((a ||| c : Nat) : Int) := u64_or_nat a c ha hc
  have h2 : bits .or .u64 (b : Int) (d : Int) = ((b ||| d : Nat) : Int) := u64_or_nat b d hb hd
  go_enter Tryd.func52, Tryd.ntmps52
  go_wp2
  refine bodyPost_ret (v := .agg #[.int .u64 ((a ||| c : Nat) : Int), .int .u64 ((b ||| d : Nat) : Int)]) (by simp [results, Tryd.results52, go_sem]) rfl ⟨rfl, ?_⟩
  repeat (first | exact Below.refl _ _ | (refine Below.setCell ?_ (by simp <;> omega) _) | (refine Below.alloc ?_ (by simp <;> omega) _))

set_option maxHeartbeats 400000 in
theorem without_any (a b c d : Nat) (ha : a < 18446744073709551616) (hb : b < 18446744073709551616) (hc : c < 18446744073709551616) (hd : d < 18446744073709551616) (w : World) :
    Calls Tryd.prog 34 #[.agg #[.int .u64 a, .int .u64 b], .agg #[.int .u64 c, .int .u64 d]] w fun e w' => e = .returned (.agg #[.int .u64 (Ns.wo a c : Nat), .int .u64 (Ns.wo b d : Nat)]) ∧ Below w.heap.size w w' := by
  have h1 : bits .andNot .u64 (a : Int) (c : Int) = (Ns.wo a c : Nat) := u64_andNot_nat a c ha hc
  have h2 : bits .andNot .u64 (b : Int) (d : Int) = (Ns.wo b d : Nat) := u64_andNot_nat b d hb hd
  go_enter Tryd.func34, Tryd.ntmps34
  go_wp2
  refine bodyPost_ret (v := .agg #[.int .u64 (Ns.wo a c : Nat), .int .u64 (Ns.wo b d : Nat)]) (by simp [results, Tryd.results34, go_sem]) rfl ⟨rfl, ?_⟩
  repeat (first | exact Below.refl _ _ | (refine Below.setCell ?_ (by simp <;> omega) _) | (refine Below.alloc ?_ (by simp <;> omega) _))

/-- A struct of two words lies in a cell; two such are compared. -/
theorem eq_zero (a b : Nat) : (a == 0 && b == 0) = decide (a = 0 ∧ b = 0) := by
  rw [Bool.eq_iff_iff]; simp

set_option maxHeartbeats 400000 in
theorem within_any (a b c d : Nat) (ha : a < 18446744073709551616) (hb : b < 18446744073709551616) (hc : c < 18446744073709551616) (hd : d < 18446744073709551616) (w : World) :
    Calls Tryd.prog 62 #[.agg #[.int .u64 a, .int .u64 b], .agg #[.int .u64 c, .int .u64 d]] w fun e w' => e = .returned (.bool (Ns.withinB a b c d)) ∧ Below w.heap.size w w' := by
  go_enter Tryd.func62, Tryd.ntmps62
  go_wp2_with fail
  refine (without_any a b c d ha hb hc hd _).mono ?_
  rintro e w1 ⟨rfl, hb1⟩
  obtain ⟨hce, hf⟩ := bcell hb1
  have hz := hb1.size
  simp at hz
  go_wp2
  all_goals
    go_ret
    refine ⟨by simp [Ns.withinB, *], (Below.trans ?_ (hb1.mono (by simp; omega)))⟩
    repeat (first | exact Below.refl _ _ | (refine Below.setCell ?_ (by simp <;> omega) _) | (refine Below.alloc ?_ (by simp <;> omega) _))

end Go.Proofs.YtinopmdefndhoaaDoor
/- A range over a function whose body goes on at every element, where the iterator keeps its place in a struct of its own (cells of type t): what the loop's body leaves alone, what the iterator leaves alone, and the statement's law. -/
namespace Go.Proofs.YtinopmdefndhoaaDoor
open Go Go.RowKit Go.Shelf

/-- A round: what is no cells lies as it lay, and so do the cells of type t. -/
structure Round (t : TypeId) (A B : World) : Prop where
  size : A.heap.size ≤ B.heap.size
  same : ∀ (k : Nat) (o : Obj), A.heap[k]? = some o → (o.isCells = false ∨ ∃ c, o = .cells c t) → B.heap[k]? = some o

/-- The iterator's own step: below b all is as it was; cells of other types lie as they lay. -/
structure Step (b : Nat) (t : TypeId) (A B : World) : Prop where
  below : Below b A B
  same : ∀ (k : Nat) (c : Array Value) (u : TypeId) (f : Nat × Nat), A.heap[k]? = some (.cells c u f) → u ≠ t → B.heap[k]? = some (.cells c u f)

theorem Round.refl (t : TypeId) (A : World) : Round t A A := ⟨Nat.le_refl _, fun _ _ h _ => h⟩
theorem Round.trans {t : TypeId} {A B C : World} (h : Round t A B) (k : Round t B C) : Round t A C :=
  ⟨Nat.le_trans h.size k.size, fun i o hi ho => k.same i o (h.same i o hi ho) ho⟩
theorem Step.refl (b : Nat) (t : TypeId) (A : World) : Step b t A A := ⟨Below.refl _ _, fun _ _ _ _ h _ => h⟩
theorem Step.trans {b : Nat} {t : TypeId} {A B C : World} (h : Step b t A B) (k : Step b t B C) : Step b t A C :=
  ⟨h.below.trans k.below, fun i c u f hi hu => k.same i c u f (h.same i c u f hi hu) hu⟩
theorem Step.mono {b b' : Nat} {t : TypeId} {A B : World} (h : Step b t A B) (hb : b' ≤ b) : Step b' t A B := ⟨h.below.mono hb, h.same⟩

theorem heap_below {B : Nat} {A C : World} (h : Below B A C) {k : Nat} {o : Obj} (hk : k < B) (ho : A.heap[k]? = some o) : C.heap[k]? = some o := (h.block k hk).trans ho
/-- What a call leaves that makes memory of its own alone. -/
theorem Round.of_below {t : TypeId} {A B : World} (h : Below A.heap.size A B) : Round t A B :=
  ⟨h.size, fun k _ ho _ => (h.block k (Array.getElem?_eq_some_iff.1 ho).1).trans ho⟩
theorem Step.of_below {b : Nat} {t : TypeId} {A B : World} (hb : b ≤ A.heap.size) (h : Below A.heap.size A B) : Step b t A B :=
  ⟨h.mono hb, fun k _ _ _ ho _ => (h.block k (Array.getElem?_eq_some_iff.1 ho).1).trans ho⟩

theorem putObj_other (W : World) (l : Nat) (o : Obj) {k : Nat} (h : k ≠ l) : (W.putObj l o).heap[k]? = W.heap[k]? := World.putObj_heap_other h
theorem below_putObj (W : World) (l : Nat) (o : Obj) {B : Nat} (h : B ≤ l) : Below B W (W.putObj l o) :=
  ⟨rfl, rfl, rfl, by simp [World.putObj], fun k hk => World.putObj_heap_other (by omega)⟩
/-- A turn of what is no cells. -/
theorem Step.putObj {b : Nat} {t : TypeId} (W : World) {l : Nat} (o o' : Obj) (hb : b ≤ l) (hl : W.heap[l]? = some o) (ho : o.isCells = false) : Step b t W (W.putObj l o') :=
  ⟨below_putObj W l o' hb, fun k c u f hk _ => by
    by_cases e : k = l
    · subst e; rw [hl] at hk; cases hk; simp [Obj.isCells] at ho
    · exact (World.putObj_heap_other e).trans hk⟩

/-- What an iterator's contract says to its caller: whatever J the caller keeps between rounds, so it abides the iterator's steps: the elements of xs come, in order. -/
def Gives (F : Fence) (n : Nat) (P : Program) (g : Nat) (lb : Array Value) (enc : Nat → Value) (t : TypeId) (xs : List Nat) (n₀ : Nat) (w : World) : Prop :=
  ∀ (l : Nat) (J : List Nat → World → Prop) (W : World), Below w.heap.size w W →
    (∀ s A B, J s A → Step W.heap.size t A B → J s B) →
    (∀ pre x A, J pre A → (∃ post, xs = pre ++ x :: post) → YieldAt F (n - 1) P l #[enc x] A fun e B => e = .returned (.bool true) ∧ J (pre ++ [x]) B ∧ Round t A B ∧ Below n₀ A B) →
    J [] W →
    CallsIn F n P g (#[.func (.yield l) #[] #[]] ++ lb) W fun e W' => (∃ v, e = .returned v) ∧ J xs W'

/-- What is asked where a round's body ends: it has gone to its end. -/
def goesOn (t : TypeId) (n₀ : Nat) (I : List Nat → World → Prop) (xs : List Nat) (A : World) : Exit → Act → World → Prop
  | .normal, _, B => Round t A B ∧ Below n₀ A B ∧ I xs B
  | _, _, _ => False

variable {F : Fence} {n : Nat} {P : Program}

theorem range_all {g : Operand} {ps : Array Tmp} {assign body : Code} {Q : Exit → Act → World → Prop} {a : Act} {w : World}
    (hro : F.round = none) (h1 : 1 ≤ n) {gf : Nat} {lb : Array Value} (hg : a.eval g = .func (.func gf) #[] lb) (hFg : F.fn gf) (eg : ∀ args w, (callFunc gf args).run P w = .ok (.enter gf args) w)
    {enc : Nat → Value} {t : TypeId} {xs : List Nat} {n₀ : Nat} (hn0 : n₀ ≤ w.heap.size) (hseq : Gives F (n - 1) P gf lb enc t xs n₀ w) (hps : ps.size = 1)
    (I : List Nat → World → Prop) (hI : ∀ s A B, I s A → Step w.heap.size t A B → I s B) (h0 : I [] w) (a₁ : Nat → Act)
    (hassign : ∀ (l : Nat) (x : Nat) (W : World) (K : Act → World → Prop), K (a₁ x) W →
      assign.wpIn (F.inRound l) (n - 1 - 1) P (Exit.then K (fun _ _ _ => False)) { tmps := (ps.zip #[enc x]).foldl (fun t (p, v) => t.setIfInBounds p v) a.tmps, defers := [] } W)
    (hbody : ∀ (l : Nat) (pre : List Nat) (x : Nat) (W : World), I pre W → (∃ post, xs = pre ++ x :: post) → body.wpIn (F.inRound l) (n - 1 - 1) P (goesOn t n₀ I (pre ++ [x]) W) (a₁ x) W)
    (hdone : ∀ (D : Nat) (W : World), w.heap.size ≤ D → I xs W → W.heap[D]? = some (.deferred (some [])) → Q .normal { a with defers := { target := .collected D, args := #[] } :: a.defers } W) :
    (Code.rangeFunc g ps assign body).wpIn F n P Q a w := by
  refine wpIn_rangeFunc fun fn hfn => ?_
  rw [hro]
  obtain ⟨rec, hrec⟩ : ∃ rec : LoopState → Loop, rec = fun st => { state := st, pending := none, fn, tmps := a.tmps, params := ps, assign, body, defers := w.heap.size } := ⟨_, rfl⟩
  obtain ⟨V, hV⟩ : ∃ V, (w.alloc (.deferred (some []))).alloc (.loop (rec .ready)) = V := ⟨_, rfl⟩
  have hL : V.heap[w.heap.size + 1]? = some (.loop (rec .ready)) := by
    rw [← hV]; have := World.alloc_heap_new (w.alloc (.deferred (some []))) (.loop (rec .ready)); rwa [World.size_alloc] at this
  have hK : V.heap[w.heap.size]? = some (.deferred (some [])) := by
    rw [← hV]; exact (Below.heap_alloc _ _ _ (by simp)).trans (World.alloc_heap_new w _)
  have hwV : Below w.heap.size w V := by rw [← hV]; exact ((Below.refl _ w).alloc (Nat.le_refl _) _).alloc (by simp) _
  have hszV : V.heap.size = w.heap.size + 2 := by rw [← hV]; simp
  refine ⟨w.heap.size + 1, [{ target := .collected w.heap.size, args := #[] }], V, { target := .fn (.func gf) lb, args := #[.func (.yield (w.heap.size + 1)) #[] #[]] }, V, gf,
    #[.func (.yield (w.heap.size + 1)) #[] #[]] ++ lb, V, ?_, ?_, ?_, ?_, fun _ => h1, ?_⟩
  · rw [← hV, hrec]; exact run_enterLoop_outer _ _ _ _ _
  · simp only [resolve, hg]
    simp [go_sem]
  · intro f' hf'; simp [Target.leads] at hf'; subst hf'; exact hFg
  · simp [invoke, go_sem, eg]
  · refine (hseq (w.heap.size + 1) (fun pre W => I pre W ∧ W.heap[w.heap.size + 1]? = some (.loop (rec .ready)) ∧ W.heap[w.heap.size]? = some (.deferred (some []))) V hwV
      (fun s A B hs st => ⟨hI s A B hs.1 (st.mono (by omega)), heap_below st.below (by omega) hs.2.1, heap_below st.below (by omega) hs.2.2⟩)
      ?_ ⟨hI [] w V h0 (Step.of_below (Nat.le_refl _) hwV), hL, hK⟩).mono ?_
    · rintro pre x W ⟨hi, hl, hk⟩ hx
      have hlt : w.heap.size + 1 < W.heap.size := (Array.getElem?_eq_some_iff.1 hl).1
      have hy := run_yield (P := P) (args := #[enc x]) hl (by rw [hrec]; exact hps.symm)
      rw [hrec] at hy
      refine ⟨fn, _, assign, body, hy, roundIn_of_wpIn hfn (hassign _ x W _ ⟨_, run_beginRound hl (by rw [hrec]), ?_⟩)⟩
      refine wpIn_mono (hbody _ pre x _ (hI pre W _ hi (Step.putObj W _ _ (by omega) hl rfl)) hx) ?_
      rintro e a3 W3 hp
      cases e with
      | normal =>
        obtain ⟨hr3, hb3, hi3⟩ := hp
        have hl3 := hr3.same _ _ (World.putObj_heap_same (o := .loop { rec .ready with state := .busy }) hlt) (.inl rfl)
        have hk3 := hr3.same w.heap.size _ ((World.putObj_heap_other (by omega)).trans hk) (.inl rfl)
        have he := run_endRound (P := P) none hl3
        have hsame : ({ ({ rec .ready with state := .busy } : Loop) with state := (if (none : Option Code).isNone then .ready else .done), pending := none } : Loop) = rec .ready := by rw [hrec]; rfl
        rw [hsame] at he
        refine ⟨_, _, he, rfl, ⟨hI _ _ _ hi3 (Step.putObj W3 _ _ (by omega) hl3 rfl), World.putObj_heap_same (Array.getElem?_eq_some_iff.1 hl3).1, (World.putObj_heap_other (by omega)).trans hk3⟩, ⟨?_, fun k o hko hno => ?_⟩, ?_⟩
        · have := hr3.size; simp [World.putObj] at this ⊢; exact this
        · by_cases e : k = w.heap.size + 1
          · subst e
            rw [hl] at hko
            cases hko
            exact World.putObj_heap_same (Array.getElem?_eq_some_iff.1 hl3).1
          · exact (World.putObj_heap_other e).trans (hr3.same k o ((World.putObj_heap_other e).trans hko) hno)
        · exact ((below_putObj W _ _ (by omega)).trans hb3).trans (below_putObj W3 _ _ (by omega))
      | ret => exact hp.elim
      | exit id => exact hp.elim
      | goto t => exact hp.elim
      | panic ch => exact hp.elim
      | outgrown => exact hp.elim
    · rintro e W2 ⟨⟨v, rfl⟩, hi, hl, hk⟩
      have he := run_endLoop (P := P) hl (by rw [hrec]; simp)
      rw [hrec] at he
      exact ⟨none, _, he, hdone _ _ (Nat.le_refl _) (hI xs W2 _ hi (Step.putObj W2 _ _ (by omega) hl rfl)) ((World.putObj_heap_other (by omega)).trans hk)⟩
end Go.Proofs.YtinopmdefndhoaaDoor
/- The listed package-level variables in a world; the least note of a set; the iterator over a set's notes, by what it gives to any loop whose body goes on. -/
namespace Go.Proofs.YtinopmdefndhoaaDoor
open Go Go.RowKit Go.Shelf

def letters : List ByteArray := [⟨#[67]⟩, ⟨#[67, 35]⟩, ⟨#[68]⟩, ⟨#[68, 35]⟩, ⟨#[69]⟩, ⟨#[70]⟩, ⟨#[70, 35]⟩, ⟨#[71]⟩, ⟨#[71, 35]⟩, ⟨#[65]⟩, ⟨#[65, 35]⟩, ⟨#[66]⟩]
/-- What the listed variable holds. -/
structure Gl (w : World) : Prop where
  size : 0 < w.heap.size
  tz : TabAt 0 Lib.deBruijn64tab w

theorem Gl.below {w w' : World} (h : Gl w) (hb : Below w.heap.size w w') : Gl w' where
  size := Nat.lt_of_lt_of_le h.size hb.size
  tz := fun j hj => (hb.cell (p := ⟨0, j, none⟩) h.size).trans (h.tz j hj)

theorem tz_any (x : Nat) (hx : x < 18446744073709551616) (w : World) (h : Gl w) :
    Calls Tryd.prog 49 #[.int .u64 x] w fun e w' => e = .returned (.int .i64 (Lib.ctz 64 x : Nat)) ∧ w = w' :=
  (Any7.bits_TrailingZeros64 Tryd.lays29 x hx w (fun _ => h.tz)).mono fun _ _ ⟨a, b⟩ => ⟨a, b.symm⟩

set_option maxHeartbeats 400000 in
theorem least_low (lo hi : Nat) (hl : lo < 18446744073709551616) (h0 : lo ≠ 0) (w : World) (G : Gl w) :
    Calls Tryd.prog 31 #[.agg #[.int .u64 lo, .int .u64 hi]] w fun e w' => e = .returned (.tuple #[.int .i64 (Ns.least lo hi : Nat), .bool true]) ∧ Below w.heap.size w w' := by
  have e1 : Ns.least lo hi = Lib.ctz 64 lo := by unfold Ns.least; rw [if_neg h0]
  rw [e1]
  clear e1
  have c := fun o => tz_any lo hl (w.alloc o) (G.below ((Below.refl _ _).alloc (Nat.le_refl _) o))
  have C := Lib.hid c
  clear c
  have hne : ((lo : Int) != 0) = true := by simp; omega
  go_enter Tryd.func31, Tryd.ntmps31
  go_wp2_with (go_at_call 49; refine (C.out _).mono ?_; rintro e w' ⟨rfl, rfl⟩)
  go_ret2
  exact ⟨rfl, (Below.refl _ _).alloc (Nat.le_refl _) _⟩

set_option maxHeartbeats 400000 in
theorem least_high (hi : Nat) (hh : hi < 18446744073709551616) (h0 : hi ≠ 0) (w : World) (G : Gl w) :
    Calls Tryd.prog 31 #[.agg #[.int .u64 0, .int .u64 hi]] w fun e w' => e = .returned (.tuple #[.int .i64 (Ns.least 0 hi : Nat), .bool true]) ∧ Below w.heap.size w w' := by
  have e1 : (Ns.least 0 hi : Int) = 64 + (Lib.ctz 64 hi : Nat) := by unfold Ns.least; rw [if_pos rfl]; simp
  rw [e1]
  clear e1
  have c := fun o => tz_any hi hh (w.alloc o) (G.below ((Below.refl _ _).alloc (Nat.le_refl _) o))
  have C := Lib.hid c
  clear c
  have hne : ((hi : Int) != 0) = true := by simp; omega
  have hk : Lib.ctz 64 hi < 64 := (Ns.ctz_spec hi h0 hh).1
  have hw : IntKind.i64.wrap (64 + (Lib.ctz 64 hi : Nat)) = 64 + (Lib.ctz 64 hi : Nat) := by rw [IntKind.wrap_i64]; omega
  go_enter Tryd.func31, Tryd.ntmps31
  go_wp2_with (go_at_call 49; refine (C.out _).mono ?_; rintro e w' ⟨rfl, rfl⟩)
  go_ret2
  exact ⟨rfl, (Below.refl _ _).alloc (Nat.le_refl _) _⟩

set_option maxHeartbeats 400000 in
theorem least_none (w : World) :
    Calls Tryd.prog 31 #[.agg #[.int .u64 0, .int .u64 0]] w fun e w' => e = .returned (.tuple #[.int .i64 0, .bool false]) ∧ Below w.heap.size w w' := by
  go_enter Tryd.func31, Tryd.ntmps31
  go_wp2
  go_ret2
  exact ⟨rfl, (Below.refl _ _).alloc (Nat.le_refl _) _⟩

theorem least_some (lo hi : Nat) (hl : lo < 18446744073709551616) (hh : hi < 18446744073709551616) (h0 : ¬ (lo = 0 ∧ hi = 0)) (w : World) (G : Gl w) :
    Calls Tryd.prog 31 #[.agg #[.int .u64 lo, .int .u64 hi]] w fun e w' => e = .returned (.tuple #[.int .i64 (Ns.least lo hi : Nat), .bool true]) ∧ Below w.heap.size w w' := by
  by_cases h : lo = 0
  · subst h
    exact least_high hi hh (fun e => h0 ⟨rfl, e⟩) w G
  · exact least_low lo hi hl h w G
end Go.Proofs.YtinopmdefndhoaaDoor
/- The iterator over a set's notes: the notes come, from below, to any loop whose body goes on. -/
namespace Go.Proofs.YtinopmdefndhoaaDoor
open Go Go.RowKit Go.Shelf
attribute [local go_sem] Oper.semAt_some

/-- A call in the wide fence. -/
theorem wide_call {P : Program} {n : Nat} {f : FuncId} {args : Array Value} {w : World} {R : Ending → World → Prop} (h : Calls P f args w R) :
    Fence.wide.fn f ∧ (Fence.wide.depth.isSome = true → 1 ≤ n) ∧ CallsIn Fence.wide (n - 1) P f args w R :=
  ⟨trivial, (fun h => by simp [Fence.wide] at h), callsIn_wide.2 h⟩

theorem wide_fn (f : FuncId) : Fence.wide.fn f = True := by simp [Fence.wide]
theorem wide_depth : Fence.wide.depth = none := rfl
attribute [local go_sem] wide_fn wide_depth

/-- A number in a cell of 64 bits. -/
def natAt (w : World) (b o : Nat) : Nat := match w.cell? ⟨b, o, none⟩ with
  | some (.int _ x) => x.toNat
  | _ => 0
/-- How many notes are left, of the set that a pointer leads to. -/
def leftOf (p : Value) (w : World) : Nat := match p with
  | .pointer (some a) => (Ns.notes (natAt w a.block 0) (natAt w a.block 1)).length
  | _ => 0
theorem leftOf_eq {w : World} {b lo hi : Nat} (h0 : w.cell? ⟨b, 0, none⟩ = some (.int .u64 lo)) (h1 : w.cell? ⟨b, 1, none⟩ = some (.int .u64 hi)) : leftOf (.pointer (some ⟨b, 0, none⟩)) w = (Ns.notes lo hi).length := by
  simp [leftOf, natAt, h0, h1]

/-- A set lies in a block of its own. -/
def SetAt (w : World) (b lo hi : Nat) : Prop := w.heap[b]? = some (.cells #[.int .u64 lo, .int .u64 hi] 26)
theorem SetAt.fst {w : World} {b lo hi : Nat} (h : SetAt w b lo hi) : w.cell? ⟨b, 0, none⟩ = some (.int .u64 lo) := by simp [World.cell?, show w.heap[b]? = _ from h]
theorem SetAt.snd {w : World} {b lo hi : Nat} (h : SetAt w b lo hi) : w.cell? ⟨b, 1, none⟩ = some (.int .u64 hi) := by simp [World.cell?, show w.heap[b]? = _ from h]
theorem SetAt.f0 {w : World} {b lo hi : Nat} (h : SetAt w b lo hi) : w.frozen? ⟨b, 0, none⟩ = false := by simp [World.frozen?, show w.heap[b]? = _ from h]
theorem SetAt.f1 {w : World} {b lo hi : Nat} (h : SetAt w b lo hi) : w.frozen? ⟨b, 1, none⟩ = false := by simp [World.frozen?, show w.heap[b]? = _ from h]
theorem SetAt.lt {w : World} {b lo hi : Nat} (h : SetAt w b lo hi) : b < w.heap.size := (Array.getElem?_eq_some_iff.1 h).1
theorem SetAt.new (w : World) (lo hi : Nat) : SetAt (w.alloc (.cells #[.int .u64 lo, .int .u64 hi] 26)) w.heap.size lo hi := World.alloc_heap_new w _
theorem SetAt.below {w w' : World} {b lo hi B : Nat} (h : SetAt w b lo hi) (hB : b < B) (hb : Below B w w') : SetAt w' b lo hi := (hb.block b hB).trans h
theorem SetAt.round {w w' : World} {b lo hi : Nat} (h : SetAt w b lo hi) (hr : Round 26 w w') : SetAt w' b lo hi := hr.same b _ h (.inr ⟨_, rfl⟩)

theorem SetAt.step {w : World} {b lo hi B : Nat} (h : SetAt w b lo hi) (hB : B ≤ b) (v0 v1 : Value) : Step B 26 w ((w.setCell ⟨b, 0, none⟩ v0).setCell ⟨b, 1, none⟩ v1) :=
  ⟨((Below.refl _ _).setCell (p := ⟨b, 0, none⟩) hB _).setCell (p := ⟨b, 1, none⟩) hB _, fun k c u f hk hu => by
    by_cases e : k = b
    · subst e
      rw [show w.heap[k]? = _ from h] at hk
      cases hk
      exact absurd rfl hu
    · exact (Below.heap_setCell _ _ _ _ (by simpa using e)).trans ((Below.heap_setCell _ _ _ _ (by simpa using e)).trans hk)⟩
theorem SetAt.behind {w X : World} (hX : X.heap.size = w.heap.size) (lo hi : Nat) : SetAt (X.alloc (.cells #[.int .u64 lo, .int .u64 hi] 26)) w.heap.size lo hi := by
  rw [← hX]; exact SetAt.new X lo hi

end Go.Proofs.YtinopmdefndhoaaDoor
/- The name of a note, and the iterator's maker. -/
namespace Go.Proofs.YtinopmdefndhoaaDoor
open Go Go.RowKit Go.Shelf

/-- The bytes of a note's name. -/
def letterOf (r : Nat) : ByteArray := letters.getD r ⟨#[]⟩
def octave (q : Nat) : List UInt8 := if q = 0 then [45, 49] else Lib.decDigits (q - 1)
def nameOf (n : Nat) : ByteArray := letterOf (n % 12) ++ ⟨(octave (n / 12)).toArray⟩

end Go.Proofs.YtinopmdefndhoaaDoor
/- Counting the one bits of a word of 64 bits by adding neighbours, as package math/bits does. -/
namespace Go.Proofs.YtinopmdefndhoaaDoor.Ns

/-- The number of one bits. -/
def pc (x : Nat) : Nat := ((List.range 64).map fun i => (x.testBit i).toNat).sum
/-- Of a byte. -/
def pcb (b : Nat) : Nat := ((List.range 8).map fun i => (b.testBit i).toNat).sum

theorem and_split (c a0 a1 m0 m1 : Nat) (h0 : a0 < 2 ^ c) (h1 : m0 < 2 ^ c) : (a0 + 2 ^ c * a1) &&& (m0 + 2 ^ c * m1) = (a0 &&& m0) + 2 ^ c * (a1 &&& m1) := by
  have h2 : a0 &&& m0 < 2 ^ c := Nat.lt_of_le_of_lt Nat.and_le_left h0
  apply Nat.eq_of_testBit_eq
  intro i
  rw [Nat.testBit_and, Nat.add_comm a0, Nat.add_comm m0, Nat.add_comm (a0 &&& m0), Nat.testBit_two_pow_mul_add _ h0, Nat.testBit_two_pow_mul_add _ h1, Nat.testBit_two_pow_mul_add _ h2]
  split <;> rw [Nat.testBit_and]

theorem bytes8 (x : Nat) (hx : x < 18446744073709551616) : ∃ b0 b1 b2 b3 b4 b5 b6 b7 : Nat, (b0 < 256 ∧ b1 < 256 ∧ b2 < 256 ∧ b3 < 256 ∧ b4 < 256 ∧ b5 < 256 ∧ b6 < 256 ∧ b7 < 256) ∧
    x = b0 + 256 * (b1 + 256 * (b2 + 256 * (b3 + 256 * (b4 + 256 * (b5 + 256 * (b6 + 256 * b7)))))) :=
  ⟨x % 256, x / 256 % 256, x / 65536 % 256, x / 16777216 % 256, x / 4294967296 % 256, x / 1099511627776 % 256, x / 281474976710656 % 256, x / 72057594037927936 % 256, by omega, by omega⟩

theorem and8 (b0 b1 b2 b3 b4 b5 b6 b7 m : Nat) (h : b0 < 256 ∧ b1 < 256 ∧ b2 < 256 ∧ b3 < 256 ∧ b4 < 256 ∧ b5 < 256 ∧ b6 < 256 ∧ b7 < 256) (hm : m < 256) :
    (b0 + 256 * (b1 + 256 * (b2 + 256 * (b3 + 256 * (b4 + 256 * (b5 + 256 * (b6 + 256 * b7))))))) &&& (m + 256 * (m + 256 * (m + 256 * (m + 256 * (m + 256 * (m + 256 * (m + 256 * m))))))) =
    (b0 &&& m) + 256 * ((b1 &&& m) + 256 * ((b2 &&& m) + 256 * ((b3 &&& m) + 256 * ((b4 &&& m) + 256 * ((b5 &&& m) + 256 * ((b6 &&& m) + 256 * (b7 &&& m))))))) := by
  obtain ⟨h0, h1, h2, h3, h4, h5, h6, h7⟩ := h
  have s := fun a0 a1 m1 (ha : a0 < 256) => and_split 8 a0 a1 m m1 ha hm
  rw [show (2 : Nat) ^ 8 = 256 by rfl] at s
  rw [s _ _ _ h0, s _ _ _ h1, s _ _ _ h2, s _ _ _ h3, s _ _ _ h4, s _ _ _ h5, s _ _ _ h6]

/-- One byte, two neighbours added; four; eight. -/
def f1 (b : Nat) : Nat := (b &&& 170) / 2 + (b &&& 85)
def f2 (b : Nat) : Nat := (b &&& 204) / 4 + (b &&& 51)
theorem byte_even (b : Nat) (h : b < 256) : (b &&& 170) % 2 = 0 ∧ (b &&& 204) % 4 = 0 ∧ f1 b < 256 ∧ (b &&& 85) < 256 ∧ (b &&& 51) < 256 ∧ (b &&& 170) < 256 ∧ (b &&& 204) < 256 := by
  have : ∀ b, b < 256 → ((b &&& 170) % 2 = 0 ∧ (b &&& 204) % 4 = 0 ∧ f1 b < 256 ∧ (b &&& 85) < 256 ∧ (b &&& 51) < 256 ∧ (b &&& 170) < 256 ∧ (b &&& 204) < 256) := by decide +kernel
  exact this b h
theorem byte_pc (b : Nat) (h : b < 256) : f2 (f1 b) / 16 ≤ 4 ∧ f2 (f1 b) % 16 ≤ 4 ∧ f2 (f1 b) / 16 + f2 (f1 b) % 16 = pcb b := by
  have : ∀ b, b < 256 → (f2 (f1 b) / 16 ≤ 4 ∧ f2 (f1 b) % 16 ≤ 4 ∧ f2 (f1 b) / 16 + f2 (f1 b) % 16 = pcb b) := by decide +kernel
  exact this b h

theorem byte_uv1 (b : Nat) (h : b < 256) : ∃ u v, b &&& 170 = 2 * u ∧ b &&& 85 = v ∧ f1 b = u + v :=
  ⟨(b &&& 170) / 2, b &&& 85, by have := (byte_even b h).1; omega, rfl, rfl⟩
theorem byte_uv2 (b : Nat) (h : b < 256) : ∃ u v, b &&& 204 = 4 * u ∧ b &&& 51 = v ∧ f2 b = u + v :=
  ⟨(b &&& 204) / 4, b &&& 51, by have := (byte_even b h).2.1; omega, rfl, rfl⟩

theorem n1 (c u v : Nat) : c * u + 256 * (c * v) = c * (u + 256 * v) := by rw [Nat.mul_add, Nat.mul_left_comm]
theorem n2 (a b u v : Nat) : (a + 256 * b) + (u + 256 * v) = (a + u) + 256 * (b + v) := by omega

theorem shift_and (x s m : Nat) : x / 2 ^ s &&& m = (x &&& m * 2 ^ s) / 2 ^ s := by
  apply Nat.eq_of_testBit_eq
  intro i
  rw [Nat.testBit_and, Nat.testBit_div_two_pow, Nat.testBit_div_two_pow, Nat.testBit_and, Nat.testBit_mul_two_pow]
  simp

theorem step1 (b0 b1 b2 b3 b4 b5 b6 b7 : Nat) (h : b0 < 256 ∧ b1 < 256 ∧ b2 < 256 ∧ b3 < 256 ∧ b4 < 256 ∧ b5 < 256 ∧ b6 < 256 ∧ b7 < 256) (x : Nat)
    (hx : x = b0 + 256 * (b1 + 256 * (b2 + 256 * (b3 + 256 * (b4 + 256 * (b5 + 256 * (b6 + 256 * b7))))))) :
    (x / 2 &&& 6148914691236517205) + (x &&& 6148914691236517205) = f1 b0 + 256 * (f1 b1 + 256 * (f1 b2 + 256 * (f1 b3 + 256 * (f1 b4 + 256 * (f1 b5 + 256 * (f1 b6 + 256 * f1 b7)))))) := by
  have s := shift_and x 1 6148914691236517205
  rw [show x / 2 ^ 1 = x / 2 by rfl] at s
  rw [s, hx]
  have a := and8 b0 b1 b2 b3 b4 b5 b6 b7 170 h (by decide)
  have b := and8 b0 b1 b2 b3 b4 b5 b6 b7 85 h (by decide)
  rw [show (6148914691236517205 : Nat) * 2 ^ 1 = 170 + 256 * (170 + 256 * (170 + 256 * (170 + 256 * (170 + 256 * (170 + 256 * (170 + 256 * 170)))))) by rfl, a,
    show (6148914691236517205 : Nat) = 85 + 256 * (85 + 256 * (85 + 256 * (85 + 256 * (85 + 256 * (85 + 256 * (85 + 256 * 85)))))) by rfl, b]
  obtain ⟨h0, h1, h2, h3, h4, h5, h6, h7⟩ := h
  obtain ⟨u0, v0, p0, q0, r0⟩ := byte_uv1 b0 h0
  obtain ⟨u1, v1, p1, q1, r1⟩ := byte_uv1 b1 h1
  obtain ⟨u2, v2, p2, q2, r2⟩ := byte_uv1 b2 h2
  obtain ⟨u3, v3, p3, q3, r3⟩ := byte_uv1 b3 h3
  obtain ⟨u4, v4, p4, q4, r4⟩ := byte_uv1 b4 h4
  obtain ⟨u5, v5, p5, q5, r5⟩ := byte_uv1 b5 h5
  obtain ⟨u6, v6, p6, q6, r6⟩ := byte_uv1 b6 h6
  obtain ⟨u7, v7, p7, q7, r7⟩ := byte_uv1 b7 h7
  rw [p0, q0, r0, p1, q1, r1, p2, q2, r2, p3, q3, r3, p4, q4, r4, p5, q5, r5, p6, q6, r6, p7, q7, r7, show (2 : Nat) ^ 1 = 2 by rfl]
  simp only [n1]
  rw [Nat.mul_div_cancel_left _ (by decide)]
  simp only [n2]

theorem step2 (b0 b1 b2 b3 b4 b5 b6 b7 : Nat) (h : b0 < 256 ∧ b1 < 256 ∧ b2 < 256 ∧ b3 < 256 ∧ b4 < 256 ∧ b5 < 256 ∧ b6 < 256 ∧ b7 < 256) (x : Nat)
    (hx : x = b0 + 256 * (b1 + 256 * (b2 + 256 * (b3 + 256 * (b4 + 256 * (b5 + 256 * (b6 + 256 * b7))))))) :
    (x / 4 &&& 3689348814741910323) + (x &&& 3689348814741910323) = f2 b0 + 256 * (f2 b1 + 256 * (f2 b2 + 256 * (f2 b3 + 256 * (f2 b4 + 256 * (f2 b5 + 256 * (f2 b6 + 256 * f2 b7)))))) := by
  have s := shift_and x 2 3689348814741910323
  rw [show x / 2 ^ 2 = x / 4 by rfl] at s
  rw [s, hx]
  have a := and8 b0 b1 b2 b3 b4 b5 b6 b7 204 h (by decide)
  have b := and8 b0 b1 b2 b3 b4 b5 b6 b7 51 h (by decide)
  rw [show (3689348814741910323 : Nat) * 2 ^ 2 = 204 + 256 * (204 + 256 * (204 + 256 * (204 + 256 * (204 + 256 * (204 + 256 * (204 + 256 * 204)))))) by rfl, a,
    show (3689348814741910323 : Nat) = 51 + 256 * (51 + 256 * (51 + 256 * (51 + 256 * (51 + 256 * (51 + 256 * (51 + 256 * 51)))))) by rfl, b]
  obtain ⟨h0, h1, h2, h3, h4, h5, h6, h7⟩ := h
  obtain ⟨u0, v0, p0, q0, r0⟩ := byte_uv2 b0 h0
  obtain ⟨u1, v1, p1, q1, r1⟩ := byte_uv2 b1 h1
  obtain ⟨u2, v2, p2, q2, r2⟩ := byte_uv2 b2 h2
  obtain ⟨u3, v3, p3, q3, r3⟩ := byte_uv2 b3 h3
  obtain ⟨u4, v4, p4, q4, r4⟩ := byte_uv2 b4 h4
  obtain ⟨u5, v5, p5, q5, r5⟩ := byte_uv2 b5 h5
  obtain ⟨u6, v6, p6, q6, r6⟩ := byte_uv2 b6 h6
  obtain ⟨u7, v7, p7, q7, r7⟩ := byte_uv2 b7 h7
  rw [p0, q0, r0, p1, q1, r1, p2, q2, r2, p3, q3, r3, p4, q4, r4, p5, q5, r5, p6, q6, r6, p7, q7, r7, show (2 : Nat) ^ 2 = 4 by rfl]
  simp only [n1]
  rw [Nat.mul_div_cancel_left _ (by decide)]
  simp only [n2]

theorem and15 (c : Nat) : c &&& 15 = c % 16 := Nat.and_two_pow_sub_one_eq_mod c 4
theorem and127 (c : Nat) : c &&& 127 = c % 128 := Nat.and_two_pow_sub_one_eq_mod c 7

theorem pcn_byte (n b a : Nat) (hb : b < 256) : ((List.range (8 + n)).map fun i => ((b + 256 * a).testBit i).toNat).sum = pcb b + ((List.range n).map fun i => (a.testBit i).toNat).sum := by
  have t : ∀ i, (b + 256 * a).testBit i = if i < 8 then b.testBit i else a.testBit (i - 8) := fun i => by
    have := Nat.testBit_two_pow_mul_add a (b := b) (i := 8) hb i
    rw [Nat.add_comm]; exact this
  rw [List.range_add, List.map_append, List.sum_append]
  congr 1
  · unfold pcb
    congr 1
    apply List.map_congr_left
    intro i hi
    rw [t, if_pos (List.mem_range.1 hi)]
  · rw [List.map_map]
    congr 1
    apply List.map_congr_left
    intro i _
    simp only [Function.comp]
    rw [t, if_neg (by omega), show 8 + i - 8 = i by omega]

theorem pc_bytes (b0 b1 b2 b3 b4 b5 b6 b7 : Nat) (h : b0 < 256 ∧ b1 < 256 ∧ b2 < 256 ∧ b3 < 256 ∧ b4 < 256 ∧ b5 < 256 ∧ b6 < 256 ∧ b7 < 256) :
    pc (b0 + 256 * (b1 + 256 * (b2 + 256 * (b3 + 256 * (b4 + 256 * (b5 + 256 * (b6 + 256 * b7))))))) = pcb b0 + (pcb b1 + (pcb b2 + (pcb b3 + (pcb b4 + (pcb b5 + (pcb b6 + pcb b7)))))) := by
  obtain ⟨h0, h1, h2, h3, h4, h5, h6, h7⟩ := h
  unfold pc
  rw [show (64 : Nat) = 8 + 56 by rfl, pcn_byte _ _ _ h0, show (56 : Nat) = 8 + 48 by rfl, pcn_byte _ _ _ h1, show (48 : Nat) = 8 + 40 by rfl, pcn_byte _ _ _ h2,
    show (40 : Nat) = 8 + 32 by rfl, pcn_byte _ _ _ h3, show (32 : Nat) = 8 + 24 by rfl, pcn_byte _ _ _ h4, show (24 : Nat) = 8 + 16 by rfl, pcn_byte _ _ _ h5, show (16 : Nat) = 8 + 8 by rfl, pcn_byte _ _ _ h6]
  rfl
end Go.Proofs.YtinopmdefndhoaaDoor.Ns
/- The last steps of counting one bits: bytes are added up. -/
namespace Go.Proofs.YtinopmdefndhoaaDoor.Ns

theorem n3 (p p' q' N : Nat) : p + 16 * (16 * p' + q' + 256 * N) = (p + 16 * q') + 256 * (p' + 16 * N) := by omega
theorem n4 (p q N : Nat) (h : q < 16) : (16 * p + q + 256 * N) / 16 = p + 16 * N := by omega
theorem n5 (a b : Nat) (h : a < 256) : (a + 256 * b) / 256 = b := by omega
theorem n6 (a b c : Nat) (h : a < 256) (h1 : b < 256) : (a + 256 * (b + 256 * c)) / 65536 = c := by omega
theorem n7 (a b c d e : Nat) (h : a < 256) (h1 : b < 256) (h2 : c < 256) (h3 : d < 256) : (a + 256 * (b + 256 * (c + 256 * (d + 256 * e)))) / 4294967296 = e := by omega
theorem nest_lt (a0 a1 a2 a3 a4 a5 a6 a7 k : Nat) (h : a0 < 256 ∧ a1 < 256 ∧ a2 < 256 ∧ a3 < 256 ∧ a4 < 256 ∧ a5 < 256 ∧ a6 < 256 ∧ a7 < k) : a0 + 256 * (a1 + 256 * (a2 + 256 * (a3 + 256 * (a4 + 256 * (a5 + 256 * (a6 + 256 * (a7))))))) < k * 72057594037927936 := by
  obtain ⟨h0, h1, h2, h3, h4, h5, h6, h7⟩ := h
  omega

theorem step3 (p0 q0 p1 q1 p2 q2 p3 q3 p4 q4 p5 q5 p6 q6 p7 q7 : Nat) (hp : p0 ≤ 4 ∧ p1 ≤ 4 ∧ p2 ≤ 4 ∧ p3 ≤ 4 ∧ p4 ≤ 4 ∧ p5 ≤ 4 ∧ p6 ≤ 4 ∧ p7 ≤ 4) (hq : q0 ≤ 4 ∧ q1 ≤ 4 ∧ q2 ≤ 4 ∧ q3 ≤ 4 ∧ q4 ≤ 4 ∧ q5 ≤ 4 ∧ q6 ≤ 4 ∧ q7 ≤ 4) (y : Nat)
    (hy : y = (16 * p0 + q0) + 256 * ((16 * p1 + q1) + 256 * ((16 * p2 + q2) + 256 * ((16 * p3 + q3) + 256 * ((16 * p4 + q4) + 256 * ((16 * p5 + q5) + 256 * ((16 * p6 + q6) + 256 * ((16 * p7 + q7))))))))) :
    y / 16 + y < 18446744073709551616 ∧ ((y / 16 + y) &&& 1085102592571150095) = (p0 + q0) + 256 * ((p1 + q1) + 256 * ((p2 + q2) + 256 * ((p3 + q3) + 256 * ((p4 + q4) + 256 * ((p5 + q5) + 256 * ((p6 + q6) + 256 * ((p7 + q7)))))))) := by
  obtain ⟨a0, a1, a2, a3, a4, a5, a6, a7⟩ := hp
  obtain ⟨c0, c1, c2, c3, c4, c5, c6, c7⟩ := hq
  have e : y / 16 + y = (p0 + 16 * q1 + (16 * p0 + q0)) + 256 * ((p1 + 16 * q2 + (16 * p1 + q1)) + 256 * ((p2 + 16 * q3 + (16 * p2 + q2)) + 256 * ((p3 + 16 * q4 + (16 * p3 + q3)) + 256 * ((p4 + 16 * q5 + (16 * p4 + q4)) + 256 * ((p5 + 16 * q6 + (16 * p5 + q5)) + 256 * ((p6 + 16 * q7 + (16 * p6 + q6)) + 256 * ((p7 + (16 * p7 + q7))))))))) := by
    rw [hy, n4 _ _ _ (by omega), n3, n3, n3, n3, n3, n3]
    rw [show p6 + 16 * (16 * p7 + q7) = p6 + 16 * q7 + 256 * p7 by omega]
    simp only [n2]
  rw [e]
  constructor
  · exact nest_lt _ _ _ _ _ _ _ _ 256 ⟨by omega, by omega, by omega, by omega, by omega, by omega, by omega, by omega⟩
  · rw [show (1085102592571150095 : Nat) = 15 + 256 * (15 + 256 * (15 + 256 * (15 + 256 * (15 + 256 * (15 + 256 * (15 + 256 * 15)))))) by rfl,
      and8 _ _ _ _ _ _ _ _ 15 ⟨by omega, by omega, by omega, by omega, by omega, by omega, by omega, by omega⟩ (by decide)]
    simp only [and15]
    rw [show (p0 + 16 * q1 + (16 * p0 + q0)) % 16 = p0 + q0 by omega]
    rw [show (p1 + 16 * q2 + (16 * p1 + q1)) % 16 = p1 + q1 by omega]
    rw [show (p2 + 16 * q3 + (16 * p2 + q2)) % 16 = p2 + q2 by omega]
    rw [show (p3 + 16 * q4 + (16 * p3 + q3)) % 16 = p3 + q3 by omega]
    rw [show (p4 + 16 * q5 + (16 * p4 + q4)) % 16 = p4 + q4 by omega]
    rw [show (p5 + 16 * q6 + (16 * p5 + q5)) % 16 = p5 + q5 by omega]
    rw [show (p6 + 16 * q7 + (16 * p6 + q6)) % 16 = p6 + q6 by omega]
    rw [show (p7 + (16 * p7 + q7)) % 16 = p7 + q7 by omega]

theorem lin1 (d0 d1 d2 d3 d4 d5 d6 d7 : Nat) : d0 + 256 * (d1 + 256 * (d2 + 256 * (d3 + 256 * (d4 + 256 * (d5 + 256 * (d6 + 256 * (d7))))))) + (d1 + 256 * (d2 + 256 * (d3 + 256 * (d4 + 256 * (d5 + 256 * (d6 + 256 * (d7))))))) = (d0 + d1) + 256 * ((d1 + d2) + 256 * ((d2 + d3) + 256 * ((d3 + d4) + 256 * ((d4 + d5) + 256 * ((d5 + d6) + 256 * ((d6 + d7) + 256 * (d7))))))) := by omega
theorem lin2 (d0 d1 d2 d3 d4 d5 d6 d7 : Nat) : d0 + 256 * (d1 + 256 * (d2 + 256 * (d3 + 256 * (d4 + 256 * (d5 + 256 * (d6 + 256 * (d7))))))) + (d2 + 256 * (d3 + 256 * (d4 + 256 * (d5 + 256 * (d6 + 256 * (d7)))))) = (d0 + d2) + 256 * ((d1 + d3) + 256 * ((d2 + d4) + 256 * ((d3 + d5) + 256 * ((d4 + d6) + 256 * ((d5 + d7) + 256 * (d6 + 256 * (d7))))))) := by omega
theorem lin4 (d0 d1 d2 d3 d4 d5 d6 d7 : Nat) : d0 + 256 * (d1 + 256 * (d2 + 256 * (d3 + 256 * (d4 + 256 * (d5 + 256 * (d6 + 256 * (d7))))))) + (d4 + 256 * (d5 + 256 * (d6 + 256 * (d7)))) = (d0 + d4) + 256 * ((d1 + d5) + 256 * ((d2 + d6) + 256 * ((d3 + d7) + 256 * (d4 + 256 * (d5 + 256 * (d6 + 256 * (d7))))))) := by omega
theorem low7 (a R : Nat) (h : a < 128) : (a + 256 * R) % 128 = a := by omega

theorem step4 (d0 d1 d2 d3 d4 d5 d6 d7 : Nat) (hd : d0 ≤ 8 ∧ d1 ≤ 8 ∧ d2 ≤ 8 ∧ d3 ≤ 8 ∧ d4 ≤ 8 ∧ d5 ≤ 8 ∧ d6 ≤ 8 ∧ d7 ≤ 8) (z : Nat) (hz : z = d0 + 256 * (d1 + 256 * (d2 + 256 * (d3 + 256 * (d4 + 256 * (d5 + 256 * (d6 + 256 * (d7)))))))) :
    ∃ x4 x5 x6 : Nat, x4 = z + z / 256 ∧ x4 < 18446744073709551616 ∧ x5 = x4 + x4 / 65536 ∧ x5 < 18446744073709551616 ∧ x6 = x5 + x5 / 4294967296 ∧ x6 < 9223372036854775808 ∧
      x6 % 128 = d0 + (d1 + (d2 + (d3 + (d4 + (d5 + (d6 + d7)))))) := by
  obtain ⟨a0, a1, a2, a3, a4, a5, a6, a7⟩ := hd
  have u0 : d0 < 256 := by clear hz; omega
  have u1 : d1 < 256 := by clear hz; omega
  have u2 : d2 < 256 := by clear hz; omega
  have u3 : d3 < 256 := by clear hz; omega
  have u4 : d4 < 256 := by clear hz; omega
  have u5 : d5 < 256 := by clear hz; omega
  have u6 : d6 < 256 := by clear hz; omega
  have u7 : d7 < 256 := by clear hz; omega
  have v0 : (d0 + d1) < 256 := by clear hz; omega
  have v1 : (d1 + d2) < 256 := by clear hz; omega
  have v2 : (d2 + d3) < 256 := by clear hz; omega
  have v3 : (d3 + d4) < 256 := by clear hz; omega
  have v4 : (d4 + d5) < 256 := by clear hz; omega
  have v5 : (d5 + d6) < 256 := by clear hz; omega
  have v6 : (d6 + d7) < 256 := by clear hz; omega
  have v7 : d7 < 256 := by clear hz; omega
  have w0 : ((d0 + d1) + (d2 + d3)) < 256 := by clear hz; omega
  have w1 : ((d1 + d2) + (d3 + d4)) < 256 := by clear hz; omega
  have w2 : ((d2 + d3) + (d4 + d5)) < 256 := by clear hz; omega
  have w3 : ((d3 + d4) + (d5 + d6)) < 256 := by clear hz; omega
  have w4 : ((d4 + d5) + (d6 + d7)) < 256 := by clear hz; omega
  have w5 : ((d5 + d6) + d7) < 256 := by clear hz; omega
  have w6 : (d6 + d7) < 256 := by clear hz; omega
  have w7 : d7 < 256 := by clear hz; omega
  have top : d7 < 128 := by clear hz; omega
  have l4 := nest_lt (d0 + d1) (d1 + d2) (d2 + d3) (d3 + d4) (d4 + d5) (d5 + d6) (d6 + d7) d7 256 ⟨v0, v1, v2, v3, v4, v5, v6, v7⟩
  have l5 := nest_lt ((d0 + d1) + (d2 + d3)) ((d1 + d2) + (d3 + d4)) ((d2 + d3) + (d4 + d5)) ((d3 + d4) + (d5 + d6)) ((d4 + d5) + (d6 + d7)) ((d5 + d6) + d7) (d6 + d7) d7 256 ⟨w0, w1, w2, w3, w4, w5, w6, w7⟩
  have l6 := nest_lt (((d0 + d1) + (d2 + d3)) + ((d4 + d5) + (d6 + d7))) (((d1 + d2) + (d3 + d4)) + ((d5 + d6) + d7)) (((d2 + d3) + (d4 + d5)) + (d6 + d7)) (((d3 + d4) + (d5 + d6)) + d7) ((d4 + d5) + (d6 + d7)) ((d5 + d6) + d7) (d6 + d7) d7 128 ⟨by clear hz l4 l5; omega, by clear hz l4 l5; omega, by clear hz l4 l5; omega, by clear hz l4 l5; omega, w4, w5, w6, top⟩
  have lowb : (((d0 + d1) + (d2 + d3)) + ((d4 + d5) + (d6 + d7))) < 128 := by clear hz l4 l5 l6; omega
  have sum : (((d0 + d1) + (d2 + d3)) + ((d4 + d5) + (d6 + d7))) = d0 + (d1 + (d2 + (d3 + (d4 + (d5 + (d6 + d7)))))) := by clear hz l4 l5 l6; omega
  have e4 : z + z / 256 = (d0 + d1) + 256 * ((d1 + d2) + 256 * ((d2 + d3) + 256 * ((d3 + d4) + 256 * ((d4 + d5) + 256 * ((d5 + d6) + 256 * ((d6 + d7) + 256 * (d7))))))) := by
    rw [hz, n5 _ _ u0, lin1]
  have e5 : (z + z / 256) + (z + z / 256) / 65536 = ((d0 + d1) + (d2 + d3)) + 256 * (((d1 + d2) + (d3 + d4)) + 256 * (((d2 + d3) + (d4 + d5)) + 256 * (((d3 + d4) + (d5 + d6)) + 256 * (((d4 + d5) + (d6 + d7)) + 256 * (((d5 + d6) + d7) + 256 * ((d6 + d7) + 256 * (d7))))))) := by
    rw [e4, n6 _ _ _ v0 v1, lin2]
  have e6 : ((z + z / 256) + (z + z / 256) / 65536) + ((z + z / 256) + (z + z / 256) / 65536) / 4294967296 = (((d0 + d1) + (d2 + d3)) + ((d4 + d5) + (d6 + d7))) + 256 * ((((d1 + d2) + (d3 + d4)) + ((d5 + d6) + d7)) + 256 * ((((d2 + d3) + (d4 + d5)) + (d6 + d7)) + 256 * ((((d3 + d4) + (d5 + d6)) + d7) + 256 * (((d4 + d5) + (d6 + d7)) + 256 * (((d5 + d6) + d7) + 256 * ((d6 + d7) + 256 * (d7))))))) := by
    rw [e5, n7 _ _ _ _ _ w0 w1 w2 w3, lin4]
  refine ⟨_, _, _, rfl, ?_, rfl, ?_, rfl, ?_, ?_⟩
  · rw [e4]; exact l4
  · rw [e5]; exact l5
  · rw [e6]; exact l6
  · rw [e6, low7 _ _ lowb, sum]

/-- All of it. -/
theorem ones (x : Nat) (hx : x < 18446744073709551616) : ∃ y1 y2 s3 z x4 x5 x6 : Nat,
    y1 = (x / 2 &&& 6148914691236517205) + (x &&& 6148914691236517205) ∧ y1 < 18446744073709551616 ∧ y2 = (y1 / 4 &&& 3689348814741910323) + (y1 &&& 3689348814741910323) ∧ y2 < 18446744073709551616 ∧
    s3 = y2 / 16 + y2 ∧ s3 < 18446744073709551616 ∧ z = s3 &&& 1085102592571150095 ∧ x4 = z + z / 256 ∧ x4 < 18446744073709551616 ∧ x5 = x4 + x4 / 65536 ∧ x5 < 18446744073709551616 ∧
    x6 = x5 + x5 / 4294967296 ∧ x6 < 9223372036854775808 ∧ x6 % 128 = pc x := by
  obtain ⟨b0, b1, b2, b3, b4, b5, b6, b7, h, hxe⟩ := bytes8 x hx
  have e1 := step1 _ _ _ _ _ _ _ _ h x hxe
  have hpc := pc_bytes _ _ _ _ _ _ _ _ h
  rw [← hxe] at hpc
  obtain ⟨h0, h1, h2, h3, h4, h5, h6, h7⟩ := h
  have g0 := (byte_even b0 h0).2.2.1
  obtain ⟨k0, l0, m0⟩ := byte_pc b0 h0
  have g1 := (byte_even b1 h1).2.2.1
  obtain ⟨k1, l1, m1⟩ := byte_pc b1 h1
  have g2 := (byte_even b2 h2).2.2.1
  obtain ⟨k2, l2, m2⟩ := byte_pc b2 h2
  have g3 := (byte_even b3 h3).2.2.1
  obtain ⟨k3, l3, m3⟩ := byte_pc b3 h3
  have g4 := (byte_even b4 h4).2.2.1
  obtain ⟨k4, l4, m4⟩ := byte_pc b4 h4
  have g5 := (byte_even b5 h5).2.2.1
  obtain ⟨k5, l5, m5⟩ := byte_pc b5 h5
  have g6 := (byte_even b6 h6).2.2.1
  obtain ⟨k6, l6, m6⟩ := byte_pc b6 h6
  have g7 := (byte_even b7 h7).2.2.1
  obtain ⟨k7, l7, m7⟩ := byte_pc b7 h7
  have e2 := step2 _ _ _ _ _ _ _ _ ⟨g0, g1, g2, g3, g4, g5, g6, g7⟩ _ e1
  have o0 : f2 (f1 b0) = 16 * (f2 (f1 b0) / 16) + f2 (f1 b0) % 16 := (Nat.div_add_mod _ _).symm
  have r0 : pcb b0 ≤ 8 := by rw [← m0]; exact Nat.add_le_add k0 l0
  have o1 : f2 (f1 b1) = 16 * (f2 (f1 b1) / 16) + f2 (f1 b1) % 16 := (Nat.div_add_mod _ _).symm
  have r1 : pcb b1 ≤ 8 := by rw [← m1]; exact Nat.add_le_add k1 l1
  have o2 : f2 (f1 b2) = 16 * (f2 (f1 b2) / 16) + f2 (f1 b2) % 16 := (Nat.div_add_mod _ _).symm
  have r2 : pcb b2 ≤ 8 := by rw [← m2]; exact Nat.add_le_add k2 l2
  have o3 : f2 (f1 b3) = 16 * (f2 (f1 b3) / 16) + f2 (f1 b3) % 16 := (Nat.div_add_mod _ _).symm
  have r3 : pcb b3 ≤ 8 := by rw [← m3]; exact Nat.add_le_add k3 l3
  have o4 : f2 (f1 b4) = 16 * (f2 (f1 b4) / 16) + f2 (f1 b4) % 16 := (Nat.div_add_mod _ _).symm
  have r4 : pcb b4 ≤ 8 := by rw [← m4]; exact Nat.add_le_add k4 l4
  have o5 : f2 (f1 b5) = 16 * (f2 (f1 b5) / 16) + f2 (f1 b5) % 16 := (Nat.div_add_mod _ _).symm
  have r5 : pcb b5 ≤ 8 := by rw [← m5]; exact Nat.add_le_add k5 l5
  have o6 : f2 (f1 b6) = 16 * (f2 (f1 b6) / 16) + f2 (f1 b6) % 16 := (Nat.div_add_mod _ _).symm
  have r6 : pcb b6 ≤ 8 := by rw [← m6]; exact Nat.add_le_add k6 l6
  have o7 : f2 (f1 b7) = 16 * (f2 (f1 b7) / 16) + f2 (f1 b7) % 16 := (Nat.div_add_mod _ _).symm
  have r7 : pcb b7 ≤ 8 := by rw [← m7]; exact Nat.add_le_add k7 l7
  rw [o0, o1, o2, o3, o4, o5, o6, o7] at e2
  obtain ⟨s1, s2⟩ := step3 _ _ _ _ _ _ _ _ _ _ _ _ _ _ _ _ ⟨k0, k1, k2, k3, k4, k5, k6, k7⟩ ⟨l0, l1, l2, l3, l4, l5, l6, l7⟩ _ e2
  rw [m0, m1, m2, m3, m4, m5, m6, m7] at s2
  obtain ⟨x4, x5, x6, t1, t2, t3, t4, t5, t6, t7⟩ := step4 _ _ _ _ _ _ _ _ ⟨r0, r1, r2, r3, r4, r5, r6, r7⟩ _ s2
  refine ⟨_, _, _, _, x4, x5, x6, rfl, ?_, rfl, ?_, rfl, s1, rfl, t1, t2, t3, t4, t5, t6, t7.trans hpc.symm⟩
  · rw [e1]; exact nest_lt _ _ _ _ _ _ _ _ 256 ⟨g0, g1, g2, g3, g4, g5, g6, g7⟩
  · exact Nat.lt_of_le_of_lt (Nat.le_add_left _ _) s1
end Go.Proofs.YtinopmdefndhoaaDoor.Ns
/- OnesCount64 and Count. -/
namespace Go.Proofs.YtinopmdefndhoaaDoor
open Go Go.RowKit Go.Shelf

set_option maxHeartbeats 1000000 in
theorem ones_any (x : Nat) (hx : x < 18446744073709551616) (w : World) :
    Calls Tryd.prog 60 #[.int .u64 x] w fun e w' => e = .returned (.int .i64 (Ns.pc x : Nat)) ∧ w = w' := by
  obtain ⟨y1, y2, s3, z, x4, x5, x6, h1, b1, h2, b2, h3, b3, h4, h5, b5, h6, b6, h7, b7, h8⟩ := Ns.ones x hx
  have A1 : bits .and .u64 ((x : Int) / 2) 6148914691236517205 = ((x / 2 &&& 6148914691236517205 : Nat) : Int) := u64_and_nat (x / 2) 6148914691236517205 (by omega) (by decide)
  have A2 : bits .and .u64 (x : Int) 6148914691236517205 = ((x &&& 6148914691236517205 : Nat) : Int) := u64_and_nat x 6148914691236517205 (by omega) (by decide)
  have A3 : IntKind.u64.wrap (((x / 2 &&& 6148914691236517205 : Nat) : Int) + ((x &&& 6148914691236517205 : Nat) : Int)) = (y1 : Int) := by rw [IntKind.wrap_u64]; omega
  have A4 : bits .and .u64 ((y1 : Int) / 4) 3689348814741910323 = ((y1 / 4 &&& 3689348814741910323 : Nat) : Int) := u64_and_nat (y1 / 4) 3689348814741910323 (by omega) (by decide)
  have A5 : bits .and .u64 (y1 : Int) 3689348814741910323 = ((y1 &&& 3689348814741910323 : Nat) : Int) := u64_and_nat y1 3689348814741910323 (by omega) (by decide)
  have A6 : IntKind.u64.wrap (((y1 / 4 &&& 3689348814741910323 : Nat) : Int) + ((y1 &&& 3689348814741910323 : Nat) : Int)) = (y2 : Int) := by rw [IntKind.wrap_u64]; omega
  have A7 : IntKind.u64.wrap ((y2 : Int) / 16 + (y2 : Int)) = (s3 : Int) := by rw [IntKind.wrap_u64]; omega
  have A8 : bits .and .u64 (s3 : Int) 1085102592571150095 = (z : Int) := by rw [h4]; exact u64_and_nat s3 1085102592571150095 (by omega) (by decide)
  have A9 : IntKind.u64.wrap ((z : Int) + (z : Int) / 256) = (x4 : Int) := by rw [IntKind.wrap_u64]; omega
  have A10 : IntKind.u64.wrap ((x4 : Int) + (x4 : Int) / 65536) = (x5 : Int) := by rw [IntKind.wrap_u64]; omega
  have A11 : IntKind.u64.wrap ((x5 : Int) + (x5 : Int) / 4294967296) = (x6 : Int) := by rw [IntKind.wrap_u64]; omega
  have A12 : IntKind.i64.wrap (x6 : Int) = (x6 : Int) := by rw [IntKind.wrap_i64]; omega
  have A13 : (x6 : Int) % 128 = (Ns.pc x : Nat) := by rw [← h8]; simp
  have A14 : bits .and .i64 (x6 : Int) 127 = (Ns.pc x : Nat) := by rw [← A13]; exact i64_and127 _
  clear h1 h2 h3 h4 h5 h6 h7 h8 A13
  go_enter Tryd.func60, Tryd.ntmps60
  go_wp2
  go_ret
  exact ⟨rfl, rfl⟩

theorem pc_le (x : Nat) : Ns.pc x ≤ 64 := by
  unfold Ns.pc
  have : ∀ l : List Nat, (l.map fun i => (x.testBit i).toNat).sum ≤ l.length := fun l => by
    induction l with
    | nil => simp
    | cons a l ih => simp; have : (x.testBit a).toNat ≤ 1 := by cases x.testBit a <;> simp
                     omega
  have h := this (List.range 64)
  simpa using h

set_option maxHeartbeats 1000000 in
theorem count_any (lo hi : Nat) (hl : lo < 18446744073709551616) (hh : hi < 18446744073709551616) (w : World) :
    Calls Tryd.prog 43 #[.agg #[.int .u64 lo, .int .u64 hi]] w fun e w' => e = .returned (.int .i64 (Ns.pc lo + Ns.pc hi : Nat)) ∧ ∃ k, w' = (w.alloc (.cells #[.int .u64 lo, .int .u64 hi] 26)).drewN k := by
  have c1 := pc_le lo
  have c2 := pc_le hi
  have e : ((Ns.pc lo + Ns.pc hi : Nat) : Int) = (Ns.pc lo : Int) + (Ns.pc hi : Int) := by simp
  have e1 : IntKind.i64.wrap ((Ns.pc lo : Int) + (Ns.pc hi : Int)) = (Ns.pc lo : Int) + (Ns.pc hi : Int) := by rw [IntKind.wrap_i64]; omega
  rw [e]
  clear e
  have O1 := Lib.hid (fun W => ones_any lo hl W)
  have O2 := Lib.hid (fun W => ones_any hi hh W)
  obtain ⟨p, hp⟩ : ∃ p, Ns.pc lo = p := ⟨_, rfl⟩
  obtain ⟨q, hq⟩ : ∃ q, Ns.pc hi = q := ⟨_, rfl⟩
  rw [hp] at O1 e1 c1 ⊢
  rw [hq] at O2 e1 c2 ⊢
  clear hp hq
  go_enter Tryd.func43, Tryd.ntmps43
  go_wp2
  go_quiet (first | (go_at_call_of 60 (Value.int .u64 lo); first | exact still_here (O1.out _) | exact still_more (O1.out _)) | (go_at_call_of 60 (Value.int .u64 hi); first | exact still_here (O2.out _) | exact still_more (O2.out _)))
  go_wp2
  go_ret
  exact ⟨rfl, _, rfl⟩
end Go.Proofs.YtinopmdefndhoaaDoor
