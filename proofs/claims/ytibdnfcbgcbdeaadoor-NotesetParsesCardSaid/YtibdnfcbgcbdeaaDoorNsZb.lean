/- Greatest, the reference's List, and Same. -/
import Derived.Test.YtibdnfcbgcbdeaaDoorNsZa
import Derived.Test.YtibdnfcbgcbdeaaDoorNsShelf
import Derived.Shelf.Small.Bits
import Derived.Test.YtibdnfcbgcbdeaaDoorNsI
import Derived.OwnWalk
namespace Go.Proofs.YtibdnfcbgcbdeaaDoor
open Go Go.RowKit Go.Shelf

theorem bl_spec : ∀ (x : Nat), x ≠ 0 → x < 18446744073709551616 → ∃ k, Lib.bitLen x = k + 1 ∧ x.testBit k = true ∧ ∀ i, k < i → x.testBit i = false := by
  intro x
  induction x using Nat.strongRecOn with
  | ind x ih =>
    intro h0 h
    by_cases h1 : x = 1
    · subst h1
      refine ⟨0, by decide, by decide, fun i hi => ?_⟩
      exact Nat.testBit_lt_two_pow (Nat.lt_of_lt_of_le (show 1 < 2 ^ 1 by decide) (Nat.pow_le_pow_right (by decide) hi))
    · obtain ⟨k, e, t, l⟩ := ih (x / 2) (by omega) (by omega) (by omega)
      refine ⟨k + 1, by rw [Lib.bitLen_half x h0 h, e]; omega, by rw [Nat.testBit_succ]; exact t, fun i hi => ?_⟩
      obtain ⟨j, rfl⟩ : ∃ j, i = j + 1 := ⟨i - 1, by omega⟩
      rw [Nat.testBit_succ]
      exact l j (by omega)

namespace Ns
def greatest (lo hi : Nat) : Nat := if hi = 0 then Lib.bitLen lo - 1 else 64 + (Lib.bitLen hi - 1)
theorem greatest_spec (lo hi : Nat) (hl : lo < 18446744073709551616) (hh : hi < 18446744073709551616) (h : ¬ (lo = 0 ∧ hi = 0)) :
    greatest lo hi < 128 ∧ has lo hi (greatest lo hi) = true ∧ ∀ i, greatest lo hi < i → i < 128 → has lo hi i = false := by
  unfold greatest
  by_cases h0 : hi = 0
  · subst h0
    obtain ⟨k, e, t, l⟩ := bl_spec lo (fun e => h ⟨e, rfl⟩) hl
    have hk : k < 64 := by
      rcases Nat.lt_or_ge k 64 with h | h
      · exact h
      · rw [testBit_ge hl h] at t; cases t
    rw [if_pos rfl, e]
    refine ⟨by omega, ?_, fun i hi _ => ?_⟩
    · unfold has; rw [if_pos (by omega)]; exact t
    · unfold has; split
      · exact l i (by omega)
      · simp
  · obtain ⟨k, e, t, l⟩ := bl_spec hi h0 hh
    have hk : k < 64 := by
      rcases Nat.lt_or_ge k 64 with h | h
      · exact h
      · rw [testBit_ge hh h] at t; cases t
    rw [if_neg h0, e]
    refine ⟨by omega, ?_, fun i hi _ => ?_⟩
    · unfold has; rw [if_neg (by omega), show 64 + (k + 1 - 1) - 64 = k by omega]; exact t
    · unfold has; rw [if_neg (by omega)]; exact l _ (by omega)

theorem notes_snoc (lo hi : Nat) (hl : lo < 18446744073709551616) (hh : hi < 18446744073709551616) (h : ¬ (lo = 0 ∧ hi = 0)) :
    ∃ pre, notes lo hi = pre ++ [greatest lo hi] := by
  obtain ⟨h1, h2, h3⟩ := greatest_spec lo hi hl hh h
  generalize greatest lo hi = k at h1 h2 h3
  refine ⟨(List.range' 0 k).filter (fun n => has lo hi n && decide (n < 128)), ?_⟩
  unfold notes
  have e : List.range' 0 128 = List.range' 0 k ++ k :: List.range' (k + 1) (127 - k) := by
    rw [← List.range'_succ, show 127 - k + 1 = 128 - k by omega]
    have := List.range'_append (s := 0) (m := k) (n := 128 - k) (step := 1)
    simp only [Nat.one_mul, Nat.zero_add] at this
    rw [this]
    congr 1
    omega
  rw [e, List.filter_append, List.filter_cons_of_pos (by simp [h2, h1])]
  congr 2
  rw [List.filter_eq_nil_iff]
  intro n hn
  have := List.mem_range'_1.1 hn
  rw [h3 n (by omega) (by omega)]
  simp
theorem notes_eq (lo hi : Nat) : notes lo hi = (List.range' 0 128).filter (fun n => has lo hi n) := by
  unfold notes
  apply List.filter_congr
  intro n hn
  have := List.mem_range'_1.1 hn
  rw [decide_eq_true (by omega), Bool.and_true]
end Ns

theorem len64_at (x : Nat) (hx : x < 18446744073709551616) (w : World) : Calls Tryd.prog 50 #[.int .u64 x] w fun e w' => e = .returned (.int .i64 (Lib.bitLen x : Nat)) ∧ w' = w :=
  Any.bits_Len64 Tryd.lays129 x w (by omega) (by omega)

set_option maxHeartbeats 400000 in
theorem greatest_high (lo hi : Nat) (hh : hi < 18446744073709551616) (h0 : hi ≠ 0) (w : World) :
    Calls Tryd.prog 26 #[.agg #[.int .u64 lo, .int .u64 hi]] w fun e w' => e = .returned (.tuple #[.int .i64 (Ns.greatest lo hi : Nat), .bool true]) ∧ Below w.heap.size w w' := by
  obtain ⟨k, hk, ht, _⟩ := bl_spec hi h0 hh
  have hk64 : k < 64 := by
    rcases Nat.lt_or_ge k 64 with h | h
    · exact h
    · rw [Ns.testBit_ge hh h] at ht; cases ht
  have e1 : (Ns.greatest lo hi : Int) = 64 + (k : Int) := by unfold Ns.greatest; rw [if_neg h0, hk]; omega
  rw [e1]
  have c := fun W => len64_at hi hh W
  rw [hk] at c
  have C := Lib.hid c
  clear c hk ht e1
  have hne : ((hi : Int) != 0) = true := by simp; omega
  have hw1 : IntKind.i64.wrap (64 + ((k : Int) + 1)) = 65 + k := by rw [IntKind.wrap_i64]; omega
  have hw2 : IntKind.i64.wrap (65 + (k : Int) - 1) = 64 + k := by rw [IntKind.wrap_i64]; omega
  go_enter Tryd.func26, Tryd.ntmps26
  go_wp2_with fail
  refine (C.out _).mono ?_
  rintro e w' ⟨rfl, rfl⟩
  go_wp2
  go_ret2
  exact ⟨rfl, (Below.refl _ _).alloc (Nat.le_refl _) _⟩

set_option maxHeartbeats 400000 in
theorem greatest_low (lo : Nat) (hl : lo < 18446744073709551616) (h0 : lo ≠ 0) (w : World) :
    Calls Tryd.prog 26 #[.agg #[.int .u64 lo, .int .u64 0]] w fun e w' => e = .returned (.tuple #[.int .i64 (Ns.greatest lo 0 : Nat), .bool true]) ∧ Below w.heap.size w w' := by
  obtain ⟨k, hk, ht, _⟩ := bl_spec lo h0 hl
  have hk64 : k < 64 := by
    rcases Nat.lt_or_ge k 64 with h | h
    · exact h
    · rw [Ns.testBit_ge hl h] at ht; cases ht
  have e1 : (Ns.greatest lo 0 : Int) = (k : Int) := by unfold Ns.greatest; rw [if_pos rfl, hk]; omega
  rw [e1]
  have c := fun W => len64_at lo hl W
  rw [hk] at c
  have C := Lib.hid c
  clear c hk ht e1
  have hne : ((lo : Int) != 0) = true := by simp; omega
  have hw2 : IntKind.i64.wrap ((k : Int) + 1 - 1) = k := by rw [IntKind.wrap_i64]; omega
  go_enter Tryd.func26, Tryd.ntmps26
  go_wp2_with fail
  refine (C.out _).mono ?_
  rintro e w' ⟨rfl, rfl⟩
  go_wp2
  go_ret2
  exact ⟨rfl, (Below.refl _ _).alloc (Nat.le_refl _) _⟩

theorem greatest_none (w : World) :
    Calls Tryd.prog 26 #[.agg #[.int .u64 0, .int .u64 0]] w fun e w' => e = .returned (.tuple #[.int .i64 0, .bool false]) ∧ Below w.heap.size w w' := by
  go_enter Tryd.func26, Tryd.ntmps26
  go_wp2
  go_ret2
  exact ⟨rfl, (Below.refl _ _).alloc (Nat.le_refl _) _⟩

def upto (lo hi k : Nat) : List Nat := (List.range' 0 k).filter fun n => Ns.has lo hi n
theorem upto_succ (lo hi k : Nat) : upto lo hi (k + 1) = if Ns.has lo hi k then upto lo hi k ++ [k] else upto lo hi k := by
  unfold upto
  rw [List.range'_1_concat, List.filter_append]
  cases h : Ns.has lo hi k <;> simp [h]
theorem upto_length (lo hi k : Nat) : (upto lo hi k).length ≤ k := by
  unfold upto
  exact Nat.le_trans (List.length_filter_le _ _) (by simp)

theorem rhas_below (a b n : Nat) (hn : n < 128) (ha : a < 18446744073709551616) (hb : b < 18446744073709551616) (w : World) :
    Calls Tryd.prog 31 #[.agg #[.int .u64 a, .int .u64 b], .int .i64 n] w fun e w' => e = .returned (.bool (Ns.has a b n)) ∧ Below w.heap.size w w' :=
  (rhas_any a b n hn ha hb w).mono fun _ _ ⟨h1, h2⟩ => ⟨h1, h2 ▸ (Below.refl _ _).alloc (Nat.le_refl _) _⟩

/-- A row that is appended to is all that is written: below its base nothing is. -/
theorem grown_below {W w1 : World} {B e size : Nat} {v : Value} {k : Nat} {xs : List Value} {o : Obj} (hB : B ≤ W.heap.size) (hrow : W.ownsRow B e size v k xs) (hg : (W.alloc o).grownBy w1 v.ownBlock) : Below B W w1 :=
  ((Below.refl B W).alloc hB o).grown hg (by simp; omega) (fun g hgv => by
    rcases hrow.2 with ⟨rfl, _⟩ | ⟨g', cap, cur, rfl, h1, _⟩
    · cases hgv
    · simp [Value.ownBlock] at hgv
      omega)

set_option maxRecDepth 100000 in
set_option maxHeartbeats 2000000 in
theorem list_any (lo hi : Nat) (hl : lo < 18446744073709551616) (hh : hi < 18446744073709551616) (w : World) :
    Calls Tryd.prog 24 #[.agg #[.int .u64 lo, .int .u64 hi]] w fun e w' => (∃ v, e = .returned v ∧ w'.ownsRow w.heap.size 3 1 v (Ns.notes lo hi).length (ints (Ns.notes lo hi))) ∧ Below w.heap.size w w' := by
  obtain ⟨i0, hi0, hz0, hz1, hz2⟩ := info_parts info_int
  have e128 : Ns.notes lo hi = upto lo hi 128 := Ns.notes_eq lo hi
  rw [e128]
  clear e128
  have HS := Lib.hid (fun k => upto_succ lo hi k)
  have HL := Lib.hid (fun k => upto_length lo hi k)
  have RH := Lib.hid (fun k (hk : k < 128) W => rhas_below lo hi k hk hl hh W)
  go_enter Tryd.func24, Tryd.ntmps24
  go_wp2
  go_loopw [4, 3] (fun i v wr => ∃ k : Nat, k ≤ 128 ∧ i = .int .i64 (k : Int) ∧ wr.ownsRow (w.heap.size + 1) 3 1 v (upto lo hi k).length (ints (upto lo hi k)) ∧ Below (w.heap.size + 1) (w.alloc (.cells #[.int .u64 lo, .int .u64 hi] 34)) wr) (fun i _ _ => 128 - (intOf i).toNat)
  case atStart => exact ⟨0, Nat.zero_le _, rfl, World.ownsRow_nil _ _ _ _, Below.refl _ _⟩
  case round =>
    obtain ⟨k, hk, rfl, hrow, hw⟩ := hrel
    have hsz := hw.size
    simp at hsz
    have hz : SetAt wr w.heap.size lo hi := (SetAt.new w lo hi).below (Nat.lt_succ_self _) hw
    have z0 := hz.fst
    have z1 := hz.snd
    have hlen := HL.out k
    have hsucc := HS.out k
    by_cases h1 : k < 128
    · have hk127 : (k : Int) ≤ 127 := by omega
      have R := Lib.hid (fun W => RH.out k h1 W)
      cases hb : Ns.has lo hi k with
      | false =>
        rw [hb] at R hsucc
        have HSS := Lib.hid hsucc
        clear hsucc
        go_wp2_with fail
        refine (R.out _).mono ?_
        rintro e w5 ⟨rfl, hb5⟩
        have hrow5 := ownsRow_step hrow (t := 34) (b := 0) (by decide) (Step.of_below (Nat.zero_le _) hb5)
        go_wp2
        go_roundw
        case rel => exact ⟨k + 1, by omega, by go_num, by rw [HSS.out]; exact hrow5, hw.trans (hb5.mono (by omega))⟩
        case measure => simp [intOf]; omega
      | true =>
        rw [hb] at R hsucc
        have HSS := Lib.hid hsucc
        clear hsucc
        go_wp2_with fail
        refine (R.out _).mono ?_
        rintro e w5 ⟨rfl, hb5⟩
        have hrow5 := ownsRow_step hrow (t := 34) (b := 0) (by decide) (Step.of_below (Nat.zero_le _) hb5)
        have hz5 := hb5.size
        go_wp2_with (at_builtin; refine wpList_append_own _ rfl _ _ 31 rfl (w.heap.size + 1) 3 i0 (.int .i64 0) 1 8 Tryd.underlying31 hi0 hz0 hz1 hz2 rfl (by decide) _ _ _ rfl (hrow5.alloc _) ⟨w5.heap.size, 0, none⟩ 1 1 [.int .i64 (k : Nat)] rfl rfl (cell_one_new _ _ _) (by simp [Value.oneCell']) (by unfold maxLen; omega) (by omega) (by simp; omega) ?_; intro v' w6 hown' hgrow _)
        have hb6 := grown_below (by omega) hrow5 hgrow
        go_roundw
        case rel => exact ⟨k + 1, by omega, by go_num, by rw [HSS.out]; simpa [ints] using hown', (hw.trans (hb5.mono (by omega))).trans hb6⟩
        case measure => simp [intOf]; omega
    · obtain rfl : k = 128 := by omega
      go_wp2
      go_ret
      exact ⟨⟨_, rfl, ownsRow_mono hrow (by omega)⟩, ((Below.refl _ _).alloc (Nat.le_refl _) _).trans (hw.mono (Nat.le_succ _))⟩
end Go.Proofs.YtibdnfcbgcbdeaaDoor
