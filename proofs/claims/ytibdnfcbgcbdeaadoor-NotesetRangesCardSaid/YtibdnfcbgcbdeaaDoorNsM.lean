/- Compasses: CheckCompass, Range, and the reference's. -/
import Derived.Test.YtibdnfcbgcbdeaaDoorNsL
namespace Go.Proofs.YtibdnfcbgcbdeaaDoor
open Go Go.RowKit Go.Shelf

/-- The error of a compass. -/
def compE (l h : Int) : Int := if l < 0 ∨ 127 < h then 3 else if h < l then 23 else 0

set_option maxHeartbeats 1000000 in
theorem check_any (l h : Int) (w : World) :
    Calls Tryd.prog 22 #[.agg #[.int .i64 l, .int .i64 h]] w fun e w' => e = .returned (.int .i64 (compE l h)) ∧ w' = w.alloc (.cells #[.int .i64 l, .int .i64 h] 40) := by
  by_cases h1 : l < 0
  · rw [show compE l h = 3 by unfold compE; rw [if_pos (.inl h1)]]
    go_enter Tryd.func22, Tryd.ntmps22
    go_wp2
    go_ret
    exact ⟨rfl, rfl⟩
  · have h1' : 0 ≤ l := by omega
    by_cases h2 : 127 < h
    · rw [show compE l h = 3 by unfold compE; rw [if_pos (.inr h2)]]
      go_enter Tryd.func22, Tryd.ntmps22
      go_wp2
      go_ret
      exact ⟨rfl, rfl⟩
    · have h2' : h ≤ 127 := by omega
      by_cases h3 : h < l
      · rw [show compE l h = 23 by unfold compE; rw [if_neg (by omega), if_pos h3]]
        go_enter Tryd.func22, Tryd.ntmps22
        go_wp2
        go_ret
        exact ⟨rfl, rfl⟩
      · have h3' : l ≤ h := by omega
        rw [show compE l h = 0 by unfold compE; rw [if_neg (by omega), if_neg h3]]
        go_enter Tryd.func22, Tryd.ntmps22
        go_wp2
        go_ret
        exact ⟨rfl, rfl⟩

set_option maxHeartbeats 1000000 in
theorem right_any (l h : Int) (w : World) :
    Calls Tryd.prog 20 #[.agg #[.int .i64 l, .int .i64 h]] w fun e w' => e = .returned (.int .i64 (compE l h)) ∧ w' = w.alloc (.cells #[.int .i64 l, .int .i64 h] 40) := by
  by_cases h1 : l < 0
  · rw [show compE l h = 3 by unfold compE; rw [if_pos (.inl h1)]]
    go_enter Tryd.func20, Tryd.ntmps20
    go_wp2
    go_ret
    exact ⟨rfl, rfl⟩
  · have h1' : 0 ≤ l := by omega
    by_cases h2 : 127 < h
    · rw [show compE l h = 3 by unfold compE; rw [if_pos (.inr h2)]]
      go_enter Tryd.func20, Tryd.ntmps20
      go_wp2
      go_ret
      exact ⟨rfl, rfl⟩
    · have h2' : h ≤ 127 := by omega
      by_cases h3 : h < l
      · rw [show compE l h = 23 by unfold compE; rw [if_neg (by omega), if_pos h3]]
        go_enter Tryd.func20, Tryd.ntmps20
        go_wp2
        go_ret
        exact ⟨rfl, rfl⟩
      · have h3' : l ≤ h := by omega
        rw [show compE l h = 0 by unfold compE; rw [if_neg (by omega), if_neg h3]]
        go_enter Tryd.func20, Tryd.ntmps20
        go_wp2
        go_ret
        exact ⟨rfl, rfl⟩

/-- The words of all notes of a right compass. -/
def rgLo (l h : Int) : Nat := Ns.shLo (Ns.shLo 18446744073709551615 18446744073709551615 (h - l - 127)) (Ns.shHi 18446744073709551615 18446744073709551615 (h - l - 127)) l
def rgHi (l h : Int) : Nat := Ns.shHi (Ns.shLo 18446744073709551615 18446744073709551615 (h - l - 127)) (Ns.shHi 18446744073709551615 18446744073709551615 (h - l - 127)) l
theorem has_all (m : Nat) (hm : m < 128) : Ns.has 18446744073709551615 18446744073709551615 m = true := by
  have : ∀ m, m < 128 → Ns.has 18446744073709551615 18446744073709551615 m = true := by decide +kernel
  exact this m hm
theorem rg_lt (l h : Int) : rgLo l h < 18446744073709551616 ∧ rgHi l h < 18446744073709551616 := by
  have h1 := Ns.sh_lt 18446744073709551615 18446744073709551615 (h - l - 127) (by decide) (by decide)
  exact Ns.sh_lt _ _ l h1.1 h1.2
theorem has_rg (l h : Int) (m : Nat) (hm : m < 128) (h1 : 0 ≤ l) (h2 : l ≤ h) (h3 : h ≤ 127) : Ns.has (rgLo l h) (rgHi l h) m = decide (l ≤ (m : Int) ∧ (m : Int) ≤ h) := by
  have hlt := Ns.sh_lt 18446744073709551615 18446744073709551615 (h - l - 127) (by decide) (by decide)
  unfold rgLo rgHi
  rw [Ns.has_sh _ _ m l hlt.1 hlt.2 hm]
  unfold Ns.movedB
  by_cases h4 : l ≤ (m : Int)
  · have hk : ((m : Int) - l).toNat < 128 := by omega
    rw [Ns.has_sh _ _ ((m : Int) - l).toNat _ (by decide) (by decide) hk]
    unfold Ns.movedB
    by_cases h5 : (m : Int) ≤ h
    · rw [has_all _ (by omega), Bool.and_true, decide_eq_true (by omega : 0 ≤ (((m : Int) - l).toNat : Int) - (h - l - 127) ∧ (((m : Int) - l).toNat : Int) - (h - l - 127) < (128 : Nat)), Bool.and_true, decide_eq_decide]
      omega
    · rw [decide_eq_false (by omega : ¬ (0 ≤ (((m : Int) - l).toNat : Int) - (h - l - 127) ∧ (((m : Int) - l).toNat : Int) - (h - l - 127) < (128 : Nat))), decide_eq_false (by omega : ¬ (l ≤ (m : Int) ∧ (m : Int) ≤ h))]
      simp
  · rw [decide_eq_false (by omega : ¬ (0 ≤ (m : Int) - l ∧ (m : Int) - l < (128 : Nat))), decide_eq_false (by omega : ¬ (l ≤ (m : Int) ∧ (m : Int) ≤ h))]
    simp

theorem shift_full (k : Int) (w : World) :
    Calls Tryd.prog 36 #[.agg #[.int .u64 18446744073709551615, .int .u64 18446744073709551615], .int .i64 k] w fun e w' => e = .returned (.agg #[.int .u64 (Ns.shLo 18446744073709551615 18446744073709551615 k : Nat), .int .u64 (Ns.shHi 18446744073709551615 18446744073709551615 k : Nat)]) ∧ Below w.heap.size w w' :=
  shift_any 18446744073709551615 18446744073709551615 k (by decide) w

set_option maxHeartbeats 1000000 in
theorem range_bad (l h : Int) (he : compE l h ≠ 0) (w : World) :
    Calls Tryd.prog 21 #[.agg #[.int .i64 l, .int .i64 h]] w fun e w' => e = .returned (.tuple #[.agg #[.int .u64 0, .int .u64 0], .int .i64 (compE l h)]) ∧ Below w.heap.size w w' := by
  have C := Lib.hid (fun W => check_any l h W)
  obtain ⟨z, hz⟩ : ∃ z, compE l h = z := ⟨_, rfl⟩
  rw [hz] at C he ⊢
  clear hz
  have hne : (z != 0) = true := by simp [he]
  go_enter Tryd.func21, Tryd.ntmps21
  go_wp2_with fail
  refine (C.out _).mono ?_
  rintro e w1 ⟨rfl, rfl⟩
  go_wp2
  refine bodyPost_ret (v := .tuple #[.agg #[.int .u64 0, .int .u64 0], .int .i64 z]) (by simp [results, Tryd.results21, go_sem]) rfl ⟨rfl, ?_⟩
  repeat (first | exact Below.refl _ _ | (refine Below.drew ?_) | (refine Below.setCell ?_ (by simp <;> omega) _) | (refine Below.alloc ?_ (by simp <;> omega) _))

/-- What a cell holds. -/
def cellAt (W : World) (b o : Nat) : Value := (W.cell? ⟨b, o, none⟩).getD undef

/-- What lies while Range moves the whole set: the compass, the whole set, the result's block. -/
structure RangeR (w : World) (l h : Int) (W : World) : Prop where
  c : W.heap[w.heap.size]? = some (.cells #[.int .i64 l, .int .i64 h] 40)
  a : SetAt W (w.heap.size + 1 + 1 + 1) 18446744073709551615 18446744073709551615
  r : ∃ u v, SetAt W (w.heap.size + 1) u v
  b : Below w.heap.size w W
theorem RangeR.call {w W W' : World} {l h : Int} (H : RangeR w l h W) (hb : Below W.heap.size W W') : RangeR w l h W' where
  c := (hb.block _ (Array.getElem?_eq_some_iff.1 H.c).1).trans H.c
  a := H.a.below H.a.lt hb
  r := by obtain ⟨u, v, hr⟩ := H.r; exact ⟨u, v, hr.below hr.lt hb⟩
  b := H.b.trans (hb.mono H.b.size)
theorem RangeR.drew {w W : World} {l h : Int} (H : RangeR w l h W) : RangeR w l h W.drew := H.call (Below.refl _ _).drew
theorem RangeR.put {w W : World} {l h : Int} (H : RangeR w l h W) (x y : Nat) : RangeR w l h ((W.setCell ⟨w.heap.size + 1, 0, none⟩ (.int .u64 x)).setCell ⟨w.heap.size + 1, 1, none⟩ (.int .u64 y)) where
  c := ((Below.heap_setCell _ _ _ _ (by simp)).trans (Below.heap_setCell _ _ _ _ (by simp))).trans H.c
  a := ((Below.heap_setCell _ _ _ _ (by simp; omega)).trans (Below.heap_setCell _ _ _ _ (by simp; omega))).trans H.a
  r := by obtain ⟨u, v, hr⟩ := H.r; exact ⟨x, y, hr.put x y⟩
  b := (H.b.setCell (p := ⟨w.heap.size + 1, 0, none⟩) (Nat.le_succ _) _).setCell (p := ⟨w.heap.size + 1, 1, none⟩) (Nat.le_succ _) _

set_option maxHeartbeats 2000000 in
theorem range_ok (l h : Int) (h1 : 0 ≤ l) (h2 : l ≤ h) (h3 : h ≤ 127) (w : World) :
    Calls Tryd.prog 21 #[.agg #[.int .i64 l, .int .i64 h]] w fun e w' => e = .returned (.tuple #[.agg #[.int .u64 (rgLo l h : Nat), .int .u64 (rgHi l h : Nat)], .int .i64 0]) ∧ Below w.heap.size w w' := by
  have C := Lib.hid (fun W => check_any l h W)
  rw [show compE l h = 0 by unfold compE; rw [if_neg (by omega), if_neg (by omega)]] at C
  have hlt := Ns.sh_lt 18446744073709551615 18446744073709551615 (h - l - 127) (by decide) (by decide)
  have S1 := Lib.hid (fun W => shift_full (h - l - 127) W)
  have S2 := Lib.hid (fun W => shift_any _ (Ns.shHi 18446744073709551615 18446744073709551615 (h - l - 127)) l hlt.1 W)
  rw [show rgLo l h = Ns.shLo (Ns.shLo 18446744073709551615 18446744073709551615 (h - l - 127)) (Ns.shHi 18446744073709551615 18446744073709551615 (h - l - 127)) l by rfl, show rgHi l h = Ns.shHi (Ns.shLo 18446744073709551615 18446744073709551615 (h - l - 127)) (Ns.shHi 18446744073709551615 18446744073709551615 (h - l - 127)) l by rfl]
  generalize Ns.shLo 18446744073709551615 18446744073709551615 (h - l - 127) = x at S1 S2 ⊢
  generalize Ns.shHi 18446744073709551615 18446744073709551615 (h - l - 127) = y at S1 S2 ⊢
  generalize Ns.shLo x y l = x' at S2 ⊢
  generalize Ns.shHi x y l = y' at S2 ⊢
  clear hlt
  have e1 : IntKind.i64.wrap (h - l) = h - l := by rw [IntKind.wrap_i64]; omega
  have e2 : IntKind.i64.wrap (h - l - 127) = h - l - 127 := by rw [IntKind.wrap_i64]; omega
  go_enter Tryd.func21, Tryd.ntmps21
  go_wp2_with fail
  refine (C.out _).mono ?_
  rintro e w1 ⟨rfl, rfl⟩
  go_wp2_with fail
  have hR1 : RangeR w l h (((((w.alloc (.cells #[.int .i64 l, .int .i64 h] 40)).alloc (.cells #[.int .u64 0, .int .u64 0] 34)).alloc (.cells #[.int .i64 l, .int .i64 h] 40)).alloc (.cells #[.int .u64 18446744073709551615, .int .u64 18446744073709551615] 34))) := by
    refine ⟨?_, ?_, ⟨0, 0, ?_⟩, (((((Below.refl _ _).alloc (Nat.le_refl _) _).alloc (by simp) _).alloc (by simp; omega) _).alloc (by simp; omega) _)⟩
    · exact ((Below.heap_alloc _ _ _ (by simp; omega)).trans ((Below.heap_alloc _ _ _ (by simp; omega)).trans (Below.heap_alloc _ _ _ (by simp)))).trans (World.alloc_heap_new w _)
    · have := SetAt.new (((w.alloc (.cells #[.int .i64 l, .int .i64 h] 40)).alloc (.cells #[.int .u64 0, .int .u64 0] 34)).alloc (.cells #[.int .i64 l, .int .i64 h] 40)) 18446744073709551615 18446744073709551615
      simpa using this
    · have := SetAt.new (w.alloc (.cells #[.int .i64 l, .int .i64 h] 40)) 0 0
      have h2 : SetAt ((w.alloc (.cells #[.int .i64 l, .int .i64 h] 40)).alloc (.cells #[.int .u64 0, .int .u64 0] 34)) (w.heap.size + 1) 0 0 := by simpa using this
      exact (h2.below (B := w.heap.size + 1 + 1) (by omega) (((Below.refl _ _).alloc (by simp) _).alloc (by simp) _))
  have HS := Lib.hid (show ∀ W : World, RangeR w l h W → (W.cell? ⟨w.heap.size, 0, none⟩ = some (.int .i64 l) ∧ W.cell? ⟨w.heap.size, 1, none⟩ = some (.int .i64 h) ∧ W.cell? ⟨w.heap.size + 1 + 1 + 1, 0, none⟩ = some (.int .u64 18446744073709551615) ∧ W.cell? ⟨w.heap.size + 1 + 1 + 1, 1, none⟩ = some (.int .u64 18446744073709551615) ∧ W.cell? ⟨w.heap.size + 1, 0, none⟩ = some (cellAt W (w.heap.size + 1) 0) ∧ W.cell? ⟨w.heap.size + 1, 1, none⟩ = some (cellAt W (w.heap.size + 1) 1) ∧ W.frozen? ⟨w.heap.size + 1, 0, none⟩ = false ∧ W.frozen? ⟨w.heap.size + 1, 1, none⟩ = false ∧ RangeR w l h W) from fun W hW => ⟨by simp [World.cell?, hW.c], by simp [World.cell?, hW.c], hW.a.fst, hW.a.snd, by obtain ⟨u, v, hr⟩ := hW.r; simp [cellAt, hr.fst], by obtain ⟨u, v, hr⟩ := hW.r; simp [cellAt, hr.snd], by obtain ⟨u, v, hr⟩ := hW.r; exact hr.f0, by obtain ⟨u, v, hr⟩ := hW.r; exact hr.f1, hW⟩)
  have HN := Lib.hid (show ∀ W W' : World, Below W.heap.size W W' → (W.cell? ⟨w.heap.size, 0, none⟩ = some (.int .i64 l) ∧ W.cell? ⟨w.heap.size, 1, none⟩ = some (.int .i64 h) ∧ W.cell? ⟨w.heap.size + 1 + 1 + 1, 0, none⟩ = some (.int .u64 18446744073709551615) ∧ W.cell? ⟨w.heap.size + 1 + 1 + 1, 1, none⟩ = some (.int .u64 18446744073709551615) ∧ W.cell? ⟨w.heap.size + 1, 0, none⟩ = some (cellAt W (w.heap.size + 1) 0) ∧ W.cell? ⟨w.heap.size + 1, 1, none⟩ = some (cellAt W (w.heap.size + 1) 1) ∧ W.frozen? ⟨w.heap.size + 1, 0, none⟩ = false ∧ W.frozen? ⟨w.heap.size + 1, 1, none⟩ = false ∧ RangeR w l h W) → RangeR w l h W' from fun W W' hb h => h.2.2.2.2.2.2.2.2.call hb)
  go_region_held3 (fun W => W.cell? ⟨w.heap.size, 0, none⟩ = some (.int .i64 l) ∧ W.cell? ⟨w.heap.size, 1, none⟩ = some (.int .i64 h) ∧ W.cell? ⟨w.heap.size + 1 + 1 + 1, 0, none⟩ = some (.int .u64 18446744073709551615) ∧ W.cell? ⟨w.heap.size + 1 + 1 + 1, 1, none⟩ = some (.int .u64 18446744073709551615) ∧ W.cell? ⟨w.heap.size + 1, 0, none⟩ = some (cellAt W (w.heap.size + 1) 0) ∧ W.cell? ⟨w.heap.size + 1, 1, none⟩ = some (cellAt W (w.heap.size + 1) 1) ∧ W.frozen? ⟨w.heap.size + 1, 0, none⟩ = false ∧ W.frozen? ⟨w.heap.size + 1, 1, none⟩ = false ∧ RangeR w l h W) ((refine HS.out _ ?_; repeat' (first | (with_reducible exact hR3) | (with_reducible exact hR2) | (with_reducible exact hR1) | (with_reducible refine RangeR.drew ?_) | (with_reducible refine RangeR.put ?_ _ _))))
    (first
    | (go_at_call_of 36 (Value.agg #[.int .u64 18446744073709551615, .int .u64 18446744073709551615]); refine (S1.out _).mono ?_; rintro e w2 ⟨rfl, hb2⟩; have hR2 := HN.out _ _ hb2 (by assumption))
    | (go_at_call 36; refine (S2.out _).mono ?_; rintro e w3 ⟨rfl, hb3⟩; have hR3 := HN.out _ _ hb3 (by assumption)))
  go_wp2
  obtain ⟨u, v, hs⟩ := hR3.r
  have hq := hs.put x' y'
  have q0 := hq.fst
  have q1 := hq.snd
  refine bodyPost_ret (v := .tuple #[.agg #[.int .u64 (x' : Nat), .int .u64 (y' : Nat)], .int .i64 0]) (by simp [results, Tryd.results21, go_sem, q0, q1]) rfl ⟨rfl, ?_⟩
  exact (hR3.put x' y').b
end Go.Proofs.YtibdnfcbgcbdeaaDoor
