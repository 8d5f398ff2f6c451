/- The law's known; what is answered to a player that is not right. -/
import Derived.Test.YtinopmdefndhoaaDoorSpCt
import Derived.Test.YtinopmdefndhoaaDoorSpH
namespace Go.Proofs.YtinopmdefndhoaaDoor
open Go Go.RowKit Go.Shelf

theorem notes_five : Ns.notes 1189231776602521600 257 = [48, 55, 60, 64, 72] := by decide +kernel
theorem div_five : divU (nth [48, 55, 60, 64, 72]) [48, 55, 60, 64, 72].length 5 12 ([48, 55, 60, 64, 72].length + 1) = [2, 3] := by decide +kernel
theorem ls_five : lsF (nth [48, 55, 60, 64, 72]) [48, 55, 60, 64, 72].length 5 (List.range' 0 ([48, 55, 60, 64, 72].length + 1)) = (12, true) := by decide +kernel
theorem cnt_three : cntP 5 12 8 = 8 := by decide +kernel

theorem known_all : KnB Tryd.prog 12 := fun w G => by
  refine known_c w G (fun W g => ?_) (fun W g => ?_) (fun W g => ?_)
  · refine two_ok 5 12 2 12 1189231776602521600 257 36310271995674624 0 1152921504606846976 257 true (by decide) W g (fun X gx => ?_)
    have h := first_cons 5 12 2 12 1189231776602521600 257 (by decide) (by decide) (by decide) 2 [3] (by rw [notes_five]; exact div_five) X gx
    rw [notes_five] at h
    have e1 : ofN (List.take 2 [48, 55, 60, 64, 72]) = (36310271995674624, 0) := of_two
    have e2 : ofN (List.drop 2 [48, 55, 60, 64, 72]) = (1152921504606846976, 257) := of_three
    rw [e1, e2] at h
    exact h
  · have h := least_ok 5 12 2 12 1189231776602521600 257 (by decide) (by decide) (by decide) W g
    rw [notes_five, ls_five] at h
    exact h
  · have h := count_ok 5 12 2 12 60 62 (by decide) (by decide) (by decide) W g
    rw [show ((62 : Int) - 60).toNat + 1 = 3 from rfl, show (2 : Nat) ^ 3 = 8 from rfl, cnt_three] at h
    exact h

set_option maxHeartbeats 1000000 in
theorem feet_bad (a b c d : Int) (v : Value) (hx : ¬ chk a b c d = 0) (w : World) :
    Calls Tryd.prog 16 #[.agg #[.int .i64 a, .int .i64 b, .int .i64 c, .int .i64 d], v] w fun e w' => e = .returned (.tuple #[.bool false, .int .i64 3]) ∧ Below w.heap.size w w' := by
  have hc := fun W => check_c a b c d W
  rw [chk_three hx] at hc
  have CC := Lib.hid hc
  clear hc hx
  obtain ⟨D, hD⟩ : ∃ D, w.heap.size = D := ⟨_, rfl⟩
  have hw1 : Below D w (w.alloc (.cells #[.int .i64 a, .int .i64 b, .int .i64 c, .int .i64 d] 23)) := (Below.refl _ _).alloc (by omega) _
  go_enter Tryd.func16, Tryd.ntmps16
  go_wp2_with fail
  refine (CC.out _).mono ?_
  rintro e v1 ⟨rfl, hb1⟩
  have hw2 : Below D w v1 := hw1.trans (hb1.mono (by simp; omega))
  go_wp2
  go_ret2
  exact ⟨rfl, by rw [hD]; exact hw2⟩

set_option maxHeartbeats 1000000 in
theorem poss_bad (a b c d : Int) (v u : Value) (hx : ¬ chk a b c d = 0) (w : World) :
    Calls Tryd.prog 20 #[.agg #[.int .i64 a, .int .i64 b, .int .i64 c, .int .i64 d], v, u] w fun e w' => e = .returned (.tuple #[.bool false, .int .i64 3]) ∧ Below w.heap.size w w' := by
  have hc := fun W => check_c a b c d W
  rw [chk_three hx] at hc
  have CC := Lib.hid hc
  clear hc hx
  obtain ⟨D, hD⟩ : ∃ D, w.heap.size = D := ⟨_, rfl⟩
  have hw1 : Below D w (w.alloc (.cells #[.int .i64 a, .int .i64 b, .int .i64 c, .int .i64 d] 23)) := (Below.refl _ _).alloc (by omega) _
  go_enter Tryd.func20, Tryd.ntmps20
  go_wp2_with fail
  refine (CC.out _).mono ?_
  rintro e v1 ⟨rfl, hb1⟩
  have hw2 : Below D w v1 := hw1.trans (hb1.mono (by simp; omega))
  go_wp2
  go_ret2
  exact ⟨rfl, by rw [hD]; exact hw2⟩
end Go.Proofs.YtinopmdefndhoaaDoor
