/- Pairs of sets are equal to themselves. -/
import Derived.Test.YtinopmdefndhoaaDoorSpL
import Derived.Test.YtinopmdefndhoaaDoorNsQ
namespace Go.Proofs.YtinopmdefndhoaaDoor
open Go Go.RowKit Go.Shelf
theorem eq_pair_d (d : Nat) (A1 A2 B1 B2 : Int) (W : World) : (Op.equalIn (d + 1 + 1 + 1) 57 (.agg #[.int .u64 A1, .int .u64 A2, .int .u64 B1, .int .u64 B2]) (.agg #[.int .u64 A1, .int .u64 A2, .int .u64 B1, .int .u64 B2])).run Tryd.prog W = .ok true W := by
  rw [Op.equalIn]
  simp only [Sem.run_bind, run_underlying Tryd.underlying57, Result.andThen_ok]
  simp [go_sem]
  simp [go_sem, List.range', List.forIn_cons, Sem.run_bind]
theorem eq_pair (A1 A2 B1 B2 : Int) (W : World) : (binOp .neq 57 (.agg #[.int .u64 A1, .int .u64 A2, .int .u64 B1, .int .u64 B2]) (.agg #[.int .u64 A1, .int .u64 A2, .int .u64 B1, .int .u64 B2])).run Tryd.prog W = .ok (.bool false) W := by
  rw [run_neq_struct, show (10000 : Nat) = 9997 + 1 + 1 + 1 from rfl, eq_pair_d]
  rfl
end Go.Proofs.YtinopmdefndhoaaDoor
/- Compasses: CheckCompass, Range, and the reference's. -/
namespace Go.Proofs.YtinopmdefndhoaaDoor
open Go Go.RowKit Go.Shelf

/-- The error of a compass. -/
def compE (l h : Int) : Int := if l < 0 ∨ 127 < h then 3 else if h < l then 23 else 0

set_option maxHeartbeats 1000000 in
theorem check_any (l h : Int) (w : World) :
    Calls Tryd.prog 29 #[.agg #[.int .i64 l, .int .i64 h]] w fun e w' => e = .returned (.int .i64 (compE l h)) ∧ w' = w.alloc (.cells #[.int .i64 l, .int .i64 h] 45) := by
  by_cases h1 : l < 0
  · rw [show compE l h = 3 by unfold compE; rw [if_pos (.inl h1)]]
    go_enter Tryd.func29, Tryd.ntmps29
    go_wp2
    go_ret
    exact ⟨rfl, rfl⟩
  · have h1' : 0 ≤ l := by omega
    by_cases h2 : 127 < h
    · rw [show compE l h = 3 by unfold compE; rw [if_pos (.inr h2)]]
      go_enter Tryd.func29, Tryd.ntmps29
      go_wp2
      go_ret
      exact ⟨rfl, rfl⟩
    · have h2' : h ≤ 127 := by omega
      by_cases h3 : h < l
      · rw [show compE l h = 23 by unfold compE; rw [if_neg (by omega), if_pos h3]]
        go_enter Tryd.func29, Tryd.ntmps29
        go_wp2
        go_ret
        exact ⟨rfl, rfl⟩
      · have h3' : l ≤ h := by omega
        rw [show compE l h = 0 by unfold compE; rw [if_neg (by omega), if_neg h3]]
        go_enter Tryd.func29, Tryd.ntmps29
        go_wp2
        go_ret
        exact ⟨rfl, rfl⟩

set_option maxHeartbeats 1000000 in
theorem right_any (l h : Int) (w : World) :
    Calls Tryd.prog 30 #[.agg #[.int .i64 l, .int .i64 h]] w fun e w' => e = .returned (.int .i64 (compE l h)) ∧ w' = w.alloc (.cells #[.int .i64 l, .int .i64 h] 45) := by
  by_cases h1 : l < 0
  · rw [show compE l h = 3 by unfold compE; rw [if_pos (.inl h1)]]
    go_enter Tryd.func30, Tryd.ntmps30
    go_wp2
    go_ret
    exact ⟨rfl, rfl⟩
  · have h1' : 0 ≤ l := by omega
    by_cases h2 : 127 < h
    · rw [show compE l h = 3 by unfold compE; rw [if_pos (.inr h2)]]
      go_enter Tryd.func30, Tryd.ntmps30
      go_wp2
      go_ret
      exact ⟨rfl, rfl⟩
    · have h2' : h ≤ 127 := by omega
      by_cases h3 : h < l
      · rw [show compE l h = 23 by unfold compE; rw [if_neg (by omega), if_pos h3]]
        go_enter Tryd.func30, Tryd.ntmps30
        go_wp2
        go_ret
        exact ⟨rfl, rfl⟩
      · have h3' : l ≤ h := by omega
        rw [show compE l h = 0 by unfold compE; rw [if_neg (by omega), if_neg h3]]
        go_enter Tryd.func30, Tryd.ntmps30
        go_wp2
        go_ret
        exact ⟨rfl, rfl⟩

/-- The words of all notes of a right compass. -/
def rgLo (l h : Int) : Nat := Ns.shLo (Ns.shLo 18446744073709551615 18446744073709551615 (h - l - 127)) (Ns.shHi 18446744073709551615 18446744073709551615 (h - l - 127)) l
def rgHi (l h : Int) : Nat := Ns.shHi (Ns.shLo 18446744073709551615 18446744073709551615 (h - l - 127)) (Ns.shHi 18446744073709551615 18446744073709551615 (h - l - 127)) l
theorem has_all (m : Nat) (hm : m < 128) : Ns.has 18446744073709551615 18446744073709551615 m = true := by
  have : ∀ m, m < 128 → Ns.has 18446744073709551615 18446744073709551615 m = true := by decide +kernel
  exact this m hm
theorem rg_lt (l h : Int) : rgLo l h < 18446744073709551616 ∧ rgHi l h < 18446744073709551616 := by
  have h1 := Ns.sh_lt 18446744073709551615 18446744073709551615 (h - l - 127) (by decide) (by decide)
  exact Ns.sh_lt _ _ l h1.1 h1.2
theorem has_rg (l h : Int) (m : Nat) (hm : m < 128) (h1 : 0 ≤ l) (h2 : l ≤ h) (h3 : h ≤ 127) : Ns.has (rgLo l h) (rgHi l h) m = decide (l ≤ (m : Int) ∧ (m : Int) ≤ h) := by
  have hlt := Ns.sh_lt 18446744073709551615 18446744073709551615 (h - l - 127) (by decide) (by decide)
  unfold rgLo rgHi
  rw [Ns.has_sh _ _ m l hlt.1 hlt.2 hm]
  unfold Ns.movedB
  by_cases h4 : l ≤ (m : Int)
  · have hk : ((m : Int) - l).toNat < 128 := by omega
    rw [Ns.has_sh _ _ ((m : Int) - l).toNat _ (by decide) (by decide) hk]
    unfold Ns.movedB
    by_cases h5 : (m : Int) ≤ h
    · rw [has_all _ (by omega), Bool.and_true, decide_eq_true (by omega : 0 ≤ (((m : Int) - l).toNat : Int) - (h - l - 127) ∧ (((m : Int) - l).toNat : Int) - (h - l - 127) < (128 : Nat)), Bool.and_true, decide_eq_decide]
      omega
    · rw [decide_eq_false (by omega : ¬ (0 ≤ (((m : Int) - l).toNat : Int) - (h - l - 127) ∧ (((m : Int) - l).toNat : Int) - (h - l - 127) < (128 : Nat))), decide_eq_false (by omega : ¬ (l ≤ (m : Int) ∧ (m : Int) ≤ h))]
      simp
  · rw [decide_eq_false (by omega : ¬ (0 ≤ (m : Int) - l ∧ (m : Int) - l < (128 : Nat))), decide_eq_false (by omega : ¬ (l ≤ (m : Int) ∧ (m : Int) ≤ h))]
    simp

theorem shift_full (k : Int) (w : World) :
    Calls Tryd.prog 35 #[.agg #[.int .u64 18446744073709551615, .int .u64 18446744073709551615], .int .i64 k] w fun e w' => e = .returned (.agg #[.int .u64 (Ns.shLo 18446744073709551615 18446744073709551615 k : Nat), .int .u64 (Ns.shHi 18446744073709551615 18446744073709551615 k : Nat)]) ∧ Below w.heap.size w w' :=
  shift_any 18446744073709551615 18446744073709551615 k (by decide) w

set_option maxHeartbeats 1000000 in
theorem range_bad (l h : Int) (he : compE l h ≠ 0) (w : World) :
    Calls Tryd.prog 61 #[.agg #[.int .i64 l, .int .i64 h]] w fun e w' => e = .returned (.tuple #[.agg #[.int .u64 0, .int .u64 0], .int .i64 (compE l h)]) ∧ Below w.heap.size w w' := by
  have C := Lib.hid (fun W => check_any l h W)
  obtain ⟨z, hz⟩ : ∃ z, compE l h = z := ⟨_, rfl⟩
  rw [hz] at C he ⊢
  clear hz
  have hne : (z != 0) = true := by simp [he]
  go_enter Tryd.func61, Tryd.ntmps61
  go_wp2_with fail
  refine (C.out _).mono ?_
  rintro e w1 ⟨rfl, rfl⟩
  go_wp2
  refine bodyPost_ret (v := .tuple #[.agg #[.int .u64 0, .int .u64 0], .int .i64 z]) (by simp [results, Tryd.results61, go_sem]) rfl ⟨rfl, ?_⟩
  repeat (first | exact Below.refl _ _ | (refine Below.drew ?_) | (refine Below.setCell ?_ (by simp <;> omega) _) | (refine Below.alloc ?_ (by simp <;> omega) _))

/-- What lies while Range moves the whole set: the compass, the whole set, the result's block. -/
structure RangeR (w : World) (l h : Int) (W : World) : Prop where
  c : W.heap[w.heap.size]? = some (.cells #[.int .i64 l, .int .i64 h] 45)
  a : SetAt W (w.heap.size + 1 + 1 + 1) 18446744073709551615 18446744073709551615
  r : ∃ u v, SetAt W (w.heap.size + 1) u v
  b : Below w.heap.size w W
theorem RangeR.call {w W W' : World} {l h : Int} (H : RangeR w l h W) (hb : Below W.heap.size W W') : RangeR w l h W' where
  c := (hb.block _ (Array.getElem?_eq_some_iff.1 H.c).1).trans H.c
  a := H.a.below H.a.lt hb
  r := by obtain ⟨u, v, hr⟩ := H.r; exact ⟨u, v, hr.below hr.lt hb⟩
  b := H.b.trans (hb.mono H.b.size)
theorem RangeR.drew {w W : World} {l h : Int} (H : RangeR w l h W) : RangeR w l h W.drew := H.call (Below.refl _ _).drew
theorem RangeR.put {w W : World} {l h : Int} (H : RangeR w l h W) (x y : Nat) : RangeR w l h ((W.setCell ⟨w.heap.size + 1, 0, none⟩ (.int .u64 x)).setCell ⟨w.heap.size + 1, 1, none⟩ (.int .u64 y)) where
  c := ((Below.heap_setCell _ _ _ _ (by simp)).trans (Below.heap_setCell _ _ _ _ (by simp))).trans H.c
  a := ((Below.heap_setCell _ _ _ _ (by simp; omega)).trans (Below.heap_setCell _ _ _ _ (by simp; omega))).trans H.a
  r := by obtain ⟨u, v, hr⟩ := H.r; exact ⟨x, y, hr.put x y⟩
  b := (H.b.setCell (p := ⟨w.heap.size + 1, 0, none⟩) (Nat.le_succ _) _).setCell (p := ⟨w.heap.size + 1, 1, none⟩) (Nat.le_succ _) _

end Go.Proofs.YtinopmdefndhoaaDoor
