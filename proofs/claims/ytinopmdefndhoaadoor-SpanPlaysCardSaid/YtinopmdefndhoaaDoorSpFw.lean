/- Feet, a right player. -/
import Derived.Test.YtinopmdefndhoaaDoorSpFh
import Derived.Test.YtinopmdefndhoaaDoorSpKn
namespace Go.Proofs.YtinopmdefndhoaaDoor
open Go Go.RowKit Go.Shelf

theorem SetsAt.below {W W' : World} {v : Value} {n : Nat} {S : Nat → Nat × Nat} (h : SetsAt W v n S) (hb : Below W.heap.size W W') : SetsAt W' v n S := by
  obtain ⟨a, c, rfl, h⟩ := h
  refine ⟨a, c, rfl, fun hn => ?_⟩
  obtain ⟨g, off, e, hg, hc⟩ := h hn
  exact ⟨g, off, e, Nat.lt_of_lt_of_le hg hb.size, fun i hi => ⟨(hb.cell (p := ⟨g, off + i * 2, none⟩) hg).trans (hc i hi).1, (hb.cell (p := ⟨g, off + i * 2 + 1, none⟩) hg).trans (hc i hi).2⟩⟩

theorem feet_ok (a b c d : Int) (v : Value) (n : Nat) (S : Nat → Nat × Nat) (hx : chk a b c d = 0) (w : World) (G : Gl w) (hn : n ≤ 1000) (hv : SetsAt w v n S) (hS : ∀ i, i < n → (S i).1 < 18446744073709551616 ∧ (S i).2 < 18446744073709551616) :
    Calls Tryd.prog 16 #[.agg #[.int .i64 a, .int .i64 b, .int .i64 c, .int .i64 d], v] w fun e w' => e = .returned (.tuple #[.bool (feetB c d S n), .int .i64 0]) ∧ Below w.heap.size w w' := by
  have hc := fun W => check_c a b c d W
  rw [hx] at hc
  have CC := Lib.hid hc
  have HV := Lib.hid hv
  have HH := Lib.hid (fun W g h => fh_any a b c d v n S W g hn h hS)
  clear hc hx hS hn hv
  generalize feetB c d S n = r at *
  obtain ⟨D, hD⟩ : ∃ D, w.heap.size = D := ⟨_, rfl⟩
  have hw1 : Below D w (w.alloc (.cells #[.int .i64 a, .int .i64 b, .int .i64 c, .int .i64 d] 23)) := (Below.refl _ _).alloc (by omega) _
  have hP1 : PlAt (w.alloc (.cells #[.int .i64 a, .int .i64 b, .int .i64 c, .int .i64 d] 23)) D a b c d := heap_new hD.symm
  go_enter Tryd.func16, Tryd.ntmps16
  go_wp2_with fail
  refine (CC.out _).mono ?_
  rintro e v1 ⟨rfl, hb1⟩
  have hw2 : Below D w v1 := hw1.trans (hb1.mono (by simp; omega))
  have hP2 := hP1.below hP1.lt hb1
  clear hw1 hP1 hb1
  have c0 := cell4_0 hP2
  have c1 := cell4_1 hP2
  have c2 := cell4_2 hP2
  have c3 := cell4_3 hP2
  have G2 : Gl v1 := G.below (by rw [hD]; exact hw2)
  have V2 : SetsAt v1 v n S := HV.out.below (by rw [hD]; exact hw2)
  go_wp2_with fail
  refine (HH.out _ G2 V2).mono ?_
  rintro e v2 ⟨rfl, hb2⟩
  have hw3 : Below D w v2 := hw2.trans (hb2.mono (by rw [← hD]; exact hw2.size))
  clear c0 c1 c2 c3
  go_wp2
  go_ret2
  exact ⟨rfl, by rw [hD]; exact hw3⟩
end Go.Proofs.YtinopmdefndhoaaDoor
