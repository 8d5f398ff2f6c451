/- Contracts of pitch's Usual, the law's usual, slices.IndexFunc and slices.Equal over the usual feet. -/
import Derived.Test.YtkoljddejjfbiaaGreatDoorPtR
import Derived.Test.YtkoljddejjfbiaaGreatDoorPtQ
import Derived.Laws.StructEq
namespace Go.Proofs.YtkoljddejjfbiaaGreatDoor
open Go Go.RowKit Go.Shelf

theorem us_of {W : World} {base : Nat} {v : Value} (h : W.ownsRow base 23 2 v 22 usC.toList) : ∃ g cap cur, v = .slice (some ⟨g, 0, none⟩) 22 cap ∧ base ≤ g ∧ 22 ≤ cap ∧ W.heap[g]? = some (.cells cur 23 (0, 0)) ∧ UsAt W g := by
  obtain ⟨g0, cap0, rfl⟩ := ownsRow_succ h
  have hc : ∀ j, j < 44 → W.cell? ⟨g0, j, none⟩ = usC[j]? := fun j hj => by
    have e : usC.toList[j]? = usC[j]? := Array.getElem?_toList
    cases hu : usC[j]? with
    | none => have := Array.getElem?_eq_none_iff.1 hu; have h44 : usC.size = 44 := rfl; omega
    | some u => exact owns_cell h (by rw [e, hu])
  rcases h.2 with ⟨h0, _⟩ | ⟨g, cap, cur, h1, h2, h3, h4, _⟩
  · cases h0
  · cases h1
    exact ⟨_, _, cur, rfl, h2, h4, h3, (Array.getElem?_eq_some_iff.1 h3).1, hc⟩
theorem collect_c (w : World) (U : Us w) :
    Calls Tryz.prog 45 #[.func (.func 65) #[] #[]] w fun e w' => (∃ v, e = .returned v ∧ w'.ownsRow w.heap.size 23 2 v 22 usC.toList) ∧ Below w.heap.size w w' := by
  have C := Lib.hid (fun W U => appendSeq_c W U)
  go_enter Tryz.func45, Tryz.ntmps45
  go_wp2_with fail
  refine (C.out _ U).mono ?_
  rintro e w1 ⟨⟨v, rfl, hv⟩, hb1⟩
  go_wp2
  go_ret
  exact ⟨⟨v, rfl, hv⟩, hb1⟩
theorem usual_c (w : World) (U : Us w) :
    Calls Tryz.prog 28 #[] w fun e w' => (∃ g cap cur, e = .returned (.slice (some ⟨g, 0, none⟩) 22 cap) ∧ w.heap.size ≤ g ∧ 22 ≤ cap ∧ w'.heap[g]? = some (.cells cur 23 (0, 0)) ∧ UsAt w' g) ∧ Below w.heap.size w w' := by
  have C := Lib.hid (fun W U => collect_c W U)
  go_enter Tryz.func28, Tryz.ntmps28
  go_wp2_with fail
  refine (low_c _).mono ?_
  rintro e w1 ⟨rfl, rfl⟩
  go_wp2_with fail
  refine (C.out _ U).mono ?_
  rintro e w1 ⟨⟨v, rfl, hv⟩, hb1⟩
  obtain ⟨g, cap, cur, rfl, h1, h2, h3, h4⟩ := us_of hv
  go_wp2
  go_ret
  exact ⟨⟨g, cap, cur, rfl, h1, h2, h3, h4⟩, hb1⟩


set_option maxRecDepth 100000 in
set_option maxHeartbeats 4000000 in
theorem lusual_c (w : World) :
    Calls Tryz.prog 25 #[] w fun e w' => (∃ g, e = .returned (.slice (some ⟨g, 0, none⟩) 22 22) ∧ w.heap.size ≤ g ∧ UsAt w' g) ∧ Below w.heap.size w w' := by
  obtain ⟨D, hD⟩ : ∃ D, w.heap.size = D := ⟨_, rfl⟩
  have F0 := Lib.hid (fun W => f_lit 64 1 W (by decide +kernel))
  have F1 := Lib.hid (fun W => f_lit 32 1 W (by decide +kernel))
  have F2 := Lib.hid (fun W => f_lit 64 3 W (by decide +kernel))
  have F3 := Lib.hid (fun W => f_lit 16 1 W (by decide +kernel))
  have F4 := Lib.hid (fun W => f_lit 64 5 W (by decide +kernel))
  have F5 := Lib.hid (fun W => f_lit 32 3 W (by decide +kernel))
  have F6 := Lib.hid (fun W => f_lit 8 1 W (by decide +kernel))
  have F7 := Lib.hid (fun W => f_lit 32 5 W (by decide +kernel))
  have F8 := Lib.hid (fun W => f_lit 16 3 W (by decide +kernel))
  have F9 := Lib.hid (fun W => f_lit 4 1 W (by decide +kernel))
  have F10 := Lib.hid (fun W => f_lit 16 5 W (by decide +kernel))
  have F11 := Lib.hid (fun W => f_lit 8 3 W (by decide +kernel))
  have F12 := Lib.hid (fun W => f_lit 16 7 W (by decide +kernel))
  have F13 := Lib.hid (fun W => f_lit 2 1 W (by decide +kernel))
  have F14 := Lib.hid (fun W => f_lit 8 5 W (by decide +kernel))
  have F15 := Lib.hid (fun W => f_lit 4 3 W (by decide +kernel))
  have F16 := Lib.hid (fun W => f_lit 8 7 W (by decide +kernel))
  have F17 := Lib.hid (fun W => f_lit 1 1 W (by decide +kernel))
  have F18 := Lib.hid (fun W => f_lit 4 5 W (by decide +kernel))
  have F19 := Lib.hid (fun W => f_lit 2 3 W (by decide +kernel))
  have F20 := Lib.hid (fun W => f_lit 1 2 W (by decide +kernel))
  have F21 := Lib.hid (fun W => f_lit 1 4 W (by decide +kernel))
  go_enter Tryz.func25, Tryz.ntmps25
  go_wp2_with fail
  refine (F0.out _).mono ?_
  rintro e v1 ⟨rfl, hb_v1⟩
  have hw_v1 : Below D w v1 := ((Below.refl _ w)).trans (hb_v1.mono (by first | omega | (simp; omega)))
  clear hb_v1
  go_wp2_with fail
  refine (F1.out _).mono ?_
  rintro e v2 ⟨rfl, hb_v2⟩
  have hs_v2 := hw_v1.size
  have hw_v2 : Below D w v2 := (hw_v1).trans (hb_v2.mono (by first | omega | (simp; omega)))
  clear hb_v2 hw_v1 hs_v2
  go_wp2_with fail
  refine (F2.out _).mono ?_
  rintro e v3 ⟨rfl, hb_v3⟩
  have hs_v3 := hw_v2.size
  have hw_v3 : Below D w v3 := (hw_v2).trans (hb_v3.mono (by first | omega | (simp; omega)))
  clear hb_v3 hw_v2 hs_v3
  go_wp2_with fail
  refine (F3.out _).mono ?_
  rintro e v4 ⟨rfl, hb_v4⟩
  have hs_v4 := hw_v3.size
  have hw_v4 : Below D w v4 := (hw_v3).trans (hb_v4.mono (by first | omega | (simp; omega)))
  clear hb_v4 hw_v3 hs_v4
  go_wp2_with fail
  refine (F4.out _).mono ?_
  rintro e v5 ⟨rfl, hb_v5⟩
  have hs_v5 := hw_v4.size
  have hw_v5 : Below D w v5 := (hw_v4).trans (hb_v5.mono (by first | omega | (simp; omega)))
  clear hb_v5 hw_v4 hs_v5
  go_wp2_with fail
  refine (F5.out _).mono ?_
  rintro e v6 ⟨rfl, hb_v6⟩
  have hs_v6 := hw_v5.size
  have hw_v6 : Below D w v6 := (hw_v5).trans (hb_v6.mono (by first | omega | (simp; omega)))
  clear hb_v6 hw_v5 hs_v6
  go_wp2_with fail
  refine (F6.out _).mono ?_
  rintro e v7 ⟨rfl, hb_v7⟩
  have hs_v7 := hw_v6.size
  have hw_v7 : Below D w v7 := (hw_v6).trans (hb_v7.mono (by first | omega | (simp; omega)))
  clear hb_v7 hw_v6 hs_v7
  go_wp2_with fail
  refine (F7.out _).mono ?_
  rintro e v8 ⟨rfl, hb_v8⟩
  have hs_v8 := hw_v7.size
  have hw_v8 : Below D w v8 := (hw_v7).trans (hb_v8.mono (by first | omega | (simp; omega)))
  clear hb_v8 hw_v7 hs_v8
  go_wp2_with fail
  refine (F8.out _).mono ?_
  rintro e v9 ⟨rfl, hb_v9⟩
  have hs_v9 := hw_v8.size
  have hw_v9 : Below D w v9 := (hw_v8).trans (hb_v9.mono (by first | omega | (simp; omega)))
  clear hb_v9 hw_v8 hs_v9
  go_wp2_with fail
  refine (F9.out _).mono ?_
  rintro e v10 ⟨rfl, hb_v10⟩
  have hs_v10 := hw_v9.size
  have hw_v10 : Below D w v10 := (hw_v9).trans (hb_v10.mono (by first | omega | (simp; omega)))
  clear hb_v10 hw_v9 hs_v10
  go_wp2_with fail
  refine (F10.out _).mono ?_
  rintro e v11 ⟨rfl, hb_v11⟩
  have hs_v11 := hw_v10.size
  have hw_v11 : Below D w v11 := (hw_v10).trans (hb_v11.mono (by first | omega | (simp; omega)))
  clear hb_v11 hw_v10 hs_v11
  go_wp2_with fail
  refine (F11.out _).mono ?_
  rintro e v12 ⟨rfl, hb_v12⟩
  have hs_v12 := hw_v11.size
  have hw_v12 : Below D w v12 := (hw_v11).trans (hb_v12.mono (by first | omega | (simp; omega)))
  clear hb_v12 hw_v11 hs_v12
  go_wp2_with fail
  refine (F12.out _).mono ?_
  rintro e v13 ⟨rfl, hb_v13⟩
  have hs_v13 := hw_v12.size
  have hw_v13 : Below D w v13 := (hw_v12).trans (hb_v13.mono (by first | omega | (simp; omega)))
  clear hb_v13 hw_v12 hs_v13
  go_wp2_with fail
  refine (F13.out _).mono ?_
  rintro e v14 ⟨rfl, hb_v14⟩
  have hs_v14 := hw_v13.size
  have hw_v14 : Below D w v14 := (hw_v13).trans (hb_v14.mono (by first | omega | (simp; omega)))
  clear hb_v14 hw_v13 hs_v14
  go_wp2_with fail
  refine (F14.out _).mono ?_
  rintro e v15 ⟨rfl, hb_v15⟩
  have hs_v15 := hw_v14.size
  have hw_v15 : Below D w v15 := (hw_v14).trans (hb_v15.mono (by first | omega | (simp; omega)))
  clear hb_v15 hw_v14 hs_v15
  go_wp2_with fail
  refine (F15.out _).mono ?_
  rintro e v16 ⟨rfl, hb_v16⟩
  have hs_v16 := hw_v15.size
  have hw_v16 : Below D w v16 := (hw_v15).trans (hb_v16.mono (by first | omega | (simp; omega)))
  clear hb_v16 hw_v15 hs_v16
  go_wp2_with fail
  refine (F16.out _).mono ?_
  rintro e v17 ⟨rfl, hb_v17⟩
  have hs_v17 := hw_v16.size
  have hw_v17 : Below D w v17 := (hw_v16).trans (hb_v17.mono (by first | omega | (simp; omega)))
  clear hb_v17 hw_v16 hs_v17
  go_wp2_with fail
  refine (F17.out _).mono ?_
  rintro e v18 ⟨rfl, hb_v18⟩
  have hs_v18 := hw_v17.size
  have hw_v18 : Below D w v18 := (hw_v17).trans (hb_v18.mono (by first | omega | (simp; omega)))
  clear hb_v18 hw_v17 hs_v18
  go_wp2_with fail
  refine (F18.out _).mono ?_
  rintro e v19 ⟨rfl, hb_v19⟩
  have hs_v19 := hw_v18.size
  have hw_v19 : Below D w v19 := (hw_v18).trans (hb_v19.mono (by first | omega | (simp; omega)))
  clear hb_v19 hw_v18 hs_v19
  go_wp2_with fail
  refine (F19.out _).mono ?_
  rintro e v20 ⟨rfl, hb_v20⟩
  have hs_v20 := hw_v19.size
  have hw_v20 : Below D w v20 := (hw_v19).trans (hb_v20.mono (by first | omega | (simp; omega)))
  clear hb_v20 hw_v19 hs_v20
  go_wp2_with fail
  refine (F20.out _).mono ?_
  rintro e v21 ⟨rfl, hb_v21⟩
  have hs_v21 := hw_v20.size
  have hw_v21 : Below D w v21 := (hw_v20).trans (hb_v21.mono (by first | omega | (simp; omega)))
  clear hb_v21 hw_v20 hs_v21
  go_wp2_with fail
  refine (F21.out _).mono ?_
  rintro e v22 ⟨rfl, hb_v22⟩
  have hs_v22 := hw_v21.size
  have hw_v22 : Below D w v22 := (hw_v21).trans (hb_v22.mono (by first | omega | (simp; omega)))
  clear hb_v22 hw_v21 hs_v22
  obtain ⟨E, hE⟩ : ∃ E, v22.heap.size = E := ⟨_, rfl⟩
  have hz := hw_v22.size
  go_wp2
  go_ret
  have hp : (v22.alloc (.cells usC 23)).heap[E]? = some (.cells usC 23) := heap_new hE.symm
  refine ⟨⟨E, rfl, by omega, by simp; omega, fun j hj => ?_⟩, ?_⟩
  · show (v22.alloc (.cells usC 23)).cell? ⟨E, j, none⟩ = _
    simp [World.cell?, hp]
  · have := hw_v22.alloc (by omega) (.cells usC 23)
    first | exact this | (rw [hD]; exact this)

theorem fr_neq (x y : Int) : ∀ W : World, (binOp .neq 23 (.agg #[.int .i64 x, .int .i64 y]) (.agg #[.int .i64 x, .int .i64 y])).run Tryz.prog W = .ok (.bool false) W := by
  intro W; simp [go_sem]
set_option maxRecDepth 100000 in
set_option maxHeartbeats 4000000 in
theorem equal_c (g h cap cap' : Nat) (w : World) (hg : UsAt w g) (hh : UsAt w h) :
    Calls Tryz.prog 27 #[.slice (some ⟨g, 0, none⟩) 22 cap, .slice (some ⟨h, 0, none⟩) 22 cap'] w fun e w' => e = .returned (.bool true) ∧ Below w.heap.size w w' := by
  go_enter Tryz.func27, Tryz.ntmps27
  go_wp2_with fail
  go_loopw [13] (fun i wr => ∃ k : Nat, k ≤ 22 ∧ i = .int .i64 (k : Int) ∧ Below w.heap.size w wr) (fun i _ => (22 - intOf i).toNat)
  case atStart => exact ⟨0, by omega, rfl, Below.refl _ _⟩
  case round =>
    obtain ⟨k, hk, rfl, hw⟩ := hrel
    by_cases h22 : k < 22
    · have hki : (k : Int) < 22 := by omega
      obtain ⟨x, y, s, hd, _, _⟩ := uidx k h22
      obtain ⟨c0, c1⟩ := (hg.below hg.1 hw).at h22 hd
      obtain ⟨d0, d1⟩ := (hh.below hh.1 hw).at h22 hd
      have he := fr_neq x y
      have wk := wrap_in (q := (k : Int) + 1) (by omega) (by omega)
      clear hd
      go_wp2_with fail
      go_quiet (fail)
      go_wp2_with fail
      go_roundw
      case rel => exact ⟨k + 1, by omega, rfl, hw.trans ((drew_below' _ _).mono hw.size)⟩
      case measure => simp [intOf]; omega
    · obtain rfl : k = 22 := by omega
      have hm : ¬ ((22 : Nat) : Int) < 22 := by omega
      go_wp2
      go_ret
      exact ⟨rfl, hw⟩

def f1Ia (x y s : Int) : Nat → Value → World → Prop
  | 0, v, _ => v = .agg #[.int .i64 x, .int .i64 y]
  | 1, v, _ => v = .agg #[.int .i64 8, .int .i64 1]
  | 2, v, _ => v = .int .i64 s
  | 3, v, _ => v = .int .i64 s
  | 4, v, _ => v = .bool true
  | 5, v, _ => v = .bool true
  | _, _, _ => True

theorem f1Ia_up (x y s : Int) : ∀ (j : Nat) (v : Value) (A B : World), Below A.heap.size A B → f1Ia x y s j v A → f1Ia x y s j v B
  | 0, _, _, _, _, h => h
  | 1, _, _, _, _, h => h
  | 2, _, _, _, _, h => h
  | 3, _, _, _, _, h => h
  | 4, _, _, _, _, h => h
  | 5, _, _, _, _, h => h
  | _ + 6, _, _, _, _, _ => trivial

def f1Ib (x y s n : Int) : Nat → Value → World → Prop
  | 0, v, _ => v = .agg #[.int .i64 x, .int .i64 y]
  | 1, v, _ => v = .agg #[.int .i64 8, .int .i64 1]
  | 2, v, _ => v = .int .i64 s
  | 3, v, _ => v = .int .i64 n
  | 4, v, _ => v = .bool false
  | 5, v, _ => v = .bool false
  | _, _, _ => True

theorem f1Ib_up (x y s n : Int) : ∀ (j : Nat) (v : Value) (A B : World), Below A.heap.size A B → f1Ib x y s n j v A → f1Ib x y s n j v B
  | 0, _, _, _, _, h => h
  | 1, _, _, _, _, h => h
  | 2, _, _, _, _, h => h
  | 3, _, _, _, _, h => h
  | 4, _, _, _, _, h => h
  | 5, _, _, _, _, h => h
  | _ + 6, _, _, _, _, _ => trivial


set_option maxRecDepth 100000 in
set_option maxHeartbeats 4000000 in
theorem feet1_c (n x y s : Int) (Bn : Nat) (h1 : pk x y = 0) (hs : ShI (8 * y) (1 * x) s) (w : World) (P : Pg w) (hN : w.heap[Bn]? = some (.cells #[.int .i64 n] 3)) :
    Calls Tryz.prog 26 (#[.agg #[.int .i64 x, .int .i64 y]] ++ #[.pointer (some ⟨Bn, 0, none⟩)]) w fun e w' => e = .returned (.bool (decide (s = n))) ∧ Below w.heap.size w w' := by
  have F81 := Lib.hid (fun W => f_lit 8 1 W (by decide +kernel))
  have LS := Lib.hid (fun W G => lshift_ok x y 8 1 s h1 pk_81 hs W G)
  clear hs h1
  obtain ⟨D, hD⟩ : ∃ D, w.heap.size = D := ⟨_, rfl⟩
  by_cases hsn : s = n
  · subst hsn
    rw [show decide (s = s) = true by simp]
    go_enter Tryz.func26, Tryz.ntmps26
    obtain ⟨V1, hV1⟩ : ∃ V, (w.alloc (.cells #[.int .i64 x, .int .i64 y] 23)) = V := ⟨_, rfl⟩
    have hw_V1 : Below D w V1 := by rw [← hV1]; exact ((Below.refl _ w).alloc (by first | omega | (simp; omega)) (.cells #[.int .i64 x, .int .i64 y] 23))
    have HN_V1 := Lib.hid (show V1.heap[Bn]? = some (.cells #[.int .i64 s] 3) by rw [← hV1]; exact (heap_old (o := .cells #[.int .i64 x, .int .i64 y] 23) hN))
    have HX_V1 := Lib.hid (show V1.heap[D]? = some (.cells #[.int .i64 x, .int .i64 y] 23) by rw [← hV1]; exact (heap_new (by first | omega | (simp; omega))))
    have PV_V1 : Pg V1 := P.below (by first | exact hw_V1 | (rw [hD]; exact hw_V1))
    have GG_V1 := Lib.hid (fun (W : World) (h : Below V1.heap.size V1 W) => PV_V1.below h)
    clear hN
    go_upto_region 1 with fail
    try rw [hV1]
    refine wp_region_slots_at rfl rfl (fun base ys => (((((base.set 4 (ys 0)).set 5 (ys 1)).set 6 (ys 2)).set 7 (ys 3)).set 8 (ys 4)).set 3 (ys 5)) (BelowI _ (fun A => Below V1.heap.size V1 A) (f1Ia x y s)) (fun | 5 => .bool false | _ => undef) (by kernel_rfl) (below_start (R := fun A => Below V1.heap.size V1 A) ⟨rfl, rfl, rfl, Nat.le_refl _, fun _ _ => rfl⟩) ?h
    case h =>
      intro FF hFF
      simp only [List.set_cons_succ, List.set_cons_zero] at hFF
      subst hFF
      refine ⟨rfl, ?_, ?_⟩
      refine ⟨?_, ?_⟩
      · refine SlotStep.below (fun A B hb h => h.trans (hb.mono h.size)) (f1Ia_up x y s) ?_
        intro ys W hR hd K hK
        have hl := (hR.block (D) (Array.getElem?_eq_some_iff.1 HX_V1.out).1).trans HX_V1.out
        have c0 := cell2_0 hl
        have c1 := cell2_1 hl
        go_simp
        have hK2 := hK (.agg #[.int .i64 x, .int .i64 y]) _ (Below.refl _ _) rfl
        simp (config := { decide := true }) only [upd, if_true, if_false] at hK2
        exact hK2
      refine ⟨?_, ?_⟩
      · refine SlotStep.below (fun A B hb h => h.trans (hb.mono h.size)) (f1Ia_up x y s) ?_
        intro ys W hR hd K hK
        go_simp
        refine (F81.out _).mono ?_
        rintro e w5 ⟨rfl, hb5⟩
        have hK2 := hK (.agg #[.int .i64 8, .int .i64 1]) _ hb5 rfl
        simp (config := { decide := true }) only [upd, if_true, if_false] at hK2
        exact hK2
      refine ⟨?_, ?_⟩
      · refine SlotStep.below (fun A B hb h => h.trans (hb.mono h.size)) (f1Ia_up x y s) ?_
        intro ys W hR hd K hK
        have dd0 : ys 0 = (.agg #[.int .i64 x, .int .i64 y]) := hd 0 (by kernel_rfl) (by decide)
        have dd1 : ys 1 = (.agg #[.int .i64 8, .int .i64 1]) := hd 1 (by kernel_rfl) (by decide)
        go_simp
        refine (LS.out _ (GG_V1.out W hR).gi).mono ?_
        rintro e w5 ⟨rfl, hb5⟩
        have hK2 := hK (.int .i64 s) _ hb5 rfl
        simp (config := { decide := true }) only [upd, if_true, if_false, dd0, dd1] at hK2
        exact hK2
      refine ⟨?_, ?_⟩
      · refine SlotStep.below (fun A B hb h => h.trans (hb.mono h.size)) (f1Ia_up x y s) ?_
        intro ys W hR hd K hK
        have hl := (hR.block (Bn) (Array.getElem?_eq_some_iff.1 HN_V1.out).1).trans HN_V1.out
        have c0 := cell1_0 hl
        go_simp
        have hK2 := hK (.int .i64 s) _ (Below.refl _ _) rfl
        simp (config := { decide := true }) only [upd, if_true, if_false] at hK2
        exact hK2
      refine ⟨?_, ?_⟩
      · refine SlotStep.below (fun A B hb h => h.trans (hb.mono h.size)) (f1Ia_up x y s) ?_
        intro ys W hR hd K hK
        have dd2 : ys 2 = (.int .i64 s) := hd 2 (by kernel_rfl) (by decide)
        have dd3 : ys 3 = (.int .i64 s) := hd 3 (by kernel_rfl) (by decide)
        go_simp
        have hK2 := hK (.bool true) _ (Below.refl _ _) rfl
        simp (config := { decide := true }) only [upd, if_true, if_false, dd2, dd3] at hK2
        exact hK2
      refine ⟨?_, ?_⟩
      · refine SlotStep.below (fun A B hb h => h.trans (hb.mono h.size)) (f1Ia_up x y s) ?_
        intro ys W hR hd K hK
        have dd4 : ys 4 = (.bool true) := hd 4 (by kernel_rfl) (by decide)
        go_simp
        have hK2 := hK (.bool true) _ (Below.refl _ _) rfl
        simp (config := { decide := true }) only [upd, if_true, if_false, dd4] at hK2
        exact hK2
      trivial
      · intro L5 ys5 U1 hL5 hI5
        obtain ⟨hR5, hj5⟩ := hI5
        have d5_U1 : ys5 5 = (.bool true) := hj5 5 (by decide) (hL5 5 (by decide))
        simp only [d5_U1]
        have cN_U1 : U1.heap[Bn]? = some (.cells #[.int .i64 s] 3) := (hR5.block (Bn) (Array.getElem?_eq_some_iff.1 HN_V1.out).1).trans HN_V1.out
        have cX_U1 : U1.heap[D]? = some (.cells #[.int .i64 x, .int .i64 y] 23) := (hR5.block (D) (Array.getElem?_eq_some_iff.1 HX_V1.out).1).trans HX_V1.out
        have hw_U1 : Below D w U1 := hw_V1.trans (hR5.mono (by have := hw_V1.size; first | omega | (simp; omega)))
        clear hj5 hL5 hR5 hw_V1 d5_U1 hV1 GG_V1 PV_V1 HN_V1 HX_V1
        have HW := Lib.hid (hw_U1)
        go_wp2
        go_ret
        exact ⟨rfl, by first | exact HW.out | (rw [hD]; exact HW.out)⟩
  · rw [decide_eq_false hsn]
    go_enter Tryz.func26, Tryz.ntmps26
    obtain ⟨V1, hV1⟩ : ∃ V, (w.alloc (.cells #[.int .i64 x, .int .i64 y] 23)) = V := ⟨_, rfl⟩
    have hw_V1 : Below D w V1 := by rw [← hV1]; exact ((Below.refl _ w).alloc (by first | omega | (simp; omega)) (.cells #[.int .i64 x, .int .i64 y] 23))
    have HN_V1 := Lib.hid (show V1.heap[Bn]? = some (.cells #[.int .i64 n] 3) by rw [← hV1]; exact (heap_old (o := .cells #[.int .i64 x, .int .i64 y] 23) hN))
    have HX_V1 := Lib.hid (show V1.heap[D]? = some (.cells #[.int .i64 x, .int .i64 y] 23) by rw [← hV1]; exact (heap_new (by first | omega | (simp; omega))))
    have PV_V1 : Pg V1 := P.below (by first | exact hw_V1 | (rw [hD]; exact hw_V1))
    have GG_V1 := Lib.hid (fun (W : World) (h : Below V1.heap.size V1 W) => PV_V1.below h)
    clear hN
    go_upto_region 1 with fail
    try rw [hV1]
    refine wp_region_slots_at rfl rfl (fun base ys => (((((base.set 4 (ys 0)).set 5 (ys 1)).set 6 (ys 2)).set 7 (ys 3)).set 8 (ys 4)).set 3 (ys 5)) (BelowI _ (fun A => Below V1.heap.size V1 A) (f1Ib x y s n)) (fun | 5 => .bool false | _ => undef) (by kernel_rfl) (below_start (R := fun A => Below V1.heap.size V1 A) ⟨rfl, rfl, rfl, Nat.le_refl _, fun _ _ => rfl⟩) ?h
    case h =>
      intro FF hFF
      simp only [List.set_cons_succ, List.set_cons_zero] at hFF
      subst hFF
      refine ⟨rfl, ?_, ?_⟩
      refine ⟨?_, ?_⟩
      · refine SlotStep.below (fun A B hb h => h.trans (hb.mono h.size)) (f1Ib_up x y s n) ?_
        intro ys W hR hd K hK
        have hl := (hR.block (D) (Array.getElem?_eq_some_iff.1 HX_V1.out).1).trans HX_V1.out
        have c0 := cell2_0 hl
        have c1 := cell2_1 hl
        go_simp
        have hK2 := hK (.agg #[.int .i64 x, .int .i64 y]) _ (Below.refl _ _) rfl
        simp (config := { decide := true }) only [upd, if_true, if_false] at hK2
        exact hK2
      refine ⟨?_, ?_⟩
      · refine SlotStep.below (fun A B hb h => h.trans (hb.mono h.size)) (f1Ib_up x y s n) ?_
        intro ys W hR hd K hK
        go_simp
        refine (F81.out _).mono ?_
        rintro e w5 ⟨rfl, hb5⟩
        have hK2 := hK (.agg #[.int .i64 8, .int .i64 1]) _ hb5 rfl
        simp (config := { decide := true }) only [upd, if_true, if_false] at hK2
        exact hK2
      refine ⟨?_, ?_⟩
      · refine SlotStep.below (fun A B hb h => h.trans (hb.mono h.size)) (f1Ib_up x y s n) ?_
        intro ys W hR hd K hK
        have dd0 : ys 0 = (.agg #[.int .i64 x, .int .i64 y]) := hd 0 (by kernel_rfl) (by decide)
        have dd1 : ys 1 = (.agg #[.int .i64 8, .int .i64 1]) := hd 1 (by kernel_rfl) (by decide)
        go_simp
        refine (LS.out _ (GG_V1.out W hR).gi).mono ?_
        rintro e w5 ⟨rfl, hb5⟩
        have hK2 := hK (.int .i64 s) _ hb5 rfl
        simp (config := { decide := true }) only [upd, if_true, if_false, dd0, dd1] at hK2
        exact hK2
      refine ⟨?_, ?_⟩
      · refine SlotStep.below (fun A B hb h => h.trans (hb.mono h.size)) (f1Ib_up x y s n) ?_
        intro ys W hR hd K hK
        have hl := (hR.block (Bn) (Array.getElem?_eq_some_iff.1 HN_V1.out).1).trans HN_V1.out
        have c0 := cell1_0 hl
        go_simp
        have hK2 := hK (.int .i64 n) _ (Below.refl _ _) rfl
        simp (config := { decide := true }) only [upd, if_true, if_false] at hK2
        exact hK2
      refine ⟨?_, ?_⟩
      · refine SlotStep.below (fun A B hb h => h.trans (hb.mono h.size)) (f1Ib_up x y s n) ?_
        intro ys W hR hd K hK
        have dd2 : ys 2 = (.int .i64 s) := hd 2 (by kernel_rfl) (by decide)
        have dd3 : ys 3 = (.int .i64 n) := hd 3 (by kernel_rfl) (by decide)
        have e0 : (s == n) = false := by rw [beq_eq_false_iff_ne]; exact hsn
        go_simp
        have hK2 := hK (.bool false) _ (Below.refl _ _) rfl
        simp (config := { decide := true }) only [upd, if_true, if_false, dd2, dd3] at hK2
        exact hK2
      refine ⟨?_, ?_⟩
      · refine SlotStep.below (fun A B hb h => h.trans (hb.mono h.size)) (f1Ib_up x y s n) ?_
        intro ys W hR hd K hK
        have dd4 : ys 4 = (.bool false) := hd 4 (by kernel_rfl) (by decide)
        go_simp
        have hK2 := hK (.bool false) _ (Below.refl _ _) rfl
        simp (config := { decide := true }) only [upd, if_true, if_false, dd4] at hK2
        exact hK2
      trivial
      · intro L5 ys5 U1 hL5 hI5
        obtain ⟨hR5, hj5⟩ := hI5
        have d5_U1 : ys5 5 = (.bool false) := hj5 5 (by decide) (hL5 5 (by decide))
        simp only [d5_U1]
        have cN_U1 : U1.heap[Bn]? = some (.cells #[.int .i64 n] 3) := (hR5.block (Bn) (Array.getElem?_eq_some_iff.1 HN_V1.out).1).trans HN_V1.out
        have cX_U1 : U1.heap[D]? = some (.cells #[.int .i64 x, .int .i64 y] 23) := (hR5.block (D) (Array.getElem?_eq_some_iff.1 HX_V1.out).1).trans HX_V1.out
        have hw_U1 : Below D w U1 := hw_V1.trans (hR5.mono (by have := hw_V1.size; first | omega | (simp; omega)))
        clear hj5 hL5 hR5 hw_V1 d5_U1 hV1 GG_V1 PV_V1 HN_V1 HX_V1
        have HW := Lib.hid (hw_U1)
        go_wp2
        go_ret
        exact ⟨rfl, by first | exact HW.out | (rw [hD]; exact HW.out)⟩

/-- Which index the law's search gives. -/
def IxIs (n r : Int) : Prop := (r = -1 ∧ ∀ t ∈ us, t.2.2 ≠ n) ∨ ∃ k : Nat, k < 22 ∧ r = k ∧ ∃ x y, us.drop k = (x, y, n) :: us.drop (k + 1) ∧ ∀ t ∈ us.take k, t.2.2 ≠ n
theorem mem_us {k : Nat} {t : Int × Int × Int} (hd : us.drop k = t :: us.drop (k + 1)) : t ∈ us := List.mem_of_mem_drop (by rw [hd]; simp)
theorem mem_take {k j : Nat} {t : Int × Int × Int} (hd : us.drop k = t :: us.drop (k + 1)) (hk : k < 22) (hj : k < j) : t ∈ us.take j := by
  have h1 := (us_split hd hk).2
  have h2 : us.take (k + 1) <+: us.take j := List.take_prefix_take_left (by omega)
  exact h2.subset (by rw [h1]; simp)
set_option maxRecDepth 100000 in
set_option maxHeartbeats 4000000 in
theorem indexF_c (n r : Int) (g cap Bn : Nat) (hr : IxIs n r) (w : World) (P : Pg w) (hN : w.heap[Bn]? = some (.cells #[.int .i64 n] 3)) (hg : UsAt w g) :
    Calls Tryz.prog 24 #[.slice (some ⟨g, 0, none⟩) 22 cap, .func (.func 26) #[] #[.pointer (some ⟨Bn, 0, none⟩)]] w fun e w' => e = .returned (.int .i64 r) ∧ Below w.heap.size w w' := by
  have HR := Lib.hid hr
  have FC := Lib.hid (fun (x y s : Int) (ok : UsOk x y s) (W : World) (hW : Below w.heap.size w W) => feet1_c n x y s Bn ok.pk ok.sh W (P.below hW) ((hW.block Bn (Array.getElem?_eq_some_iff.1 hN).1).trans hN))
  have eg : ∀ args w, (callFunc 26 args).run Tryz.prog w = .ok (.enter 26 args) w := enters_of Tryz.func26 (by kernel_rfl) rfl
  clear hr
  go_enter Tryz.func24, Tryz.ntmps24
  go_wp2_with fail
  go_loopw [8] (fun i wr => ∃ k : Nat, k ≤ 22 ∧ i = .int .i64 (k : Int) ∧ Below w.heap.size w wr ∧ Hid (∀ t ∈ us.take k, t.2.2 ≠ n)) (fun i _ => (22 - intOf i).toNat)
  case atStart => exact ⟨0, by omega, rfl, Below.refl _ _, Lib.hid (by simp)⟩
  case round =>
    obtain ⟨k, hk, rfl, hw, hT⟩ := hrel
    by_cases h22 : k < 22
    · have hki : (k : Int) < 22 := by omega
      obtain ⟨x, y, s, hd, ok, _⟩ := uidx k h22
      obtain ⟨c0, c1⟩ := (hg.below hg.1 hw).at h22 hd
      have FK := Lib.hid (FC.out x y s ok wr hw)
      have HD := Lib.hid hd
      have wk := wrap_in (q := (k : Int) + 1) (by omega) (by omega)
      clear hd ok
      by_cases hsn : s = n
      · rw [decide_eq_true hsn] at FK
        have HE := Lib.hid (show r = (k : Int) by
          rcases HR.out with ⟨_, h⟩ | ⟨j, hj, rfl, x', y', hd', hp⟩
          · exact absurd hsn (h _ (mem_us HD.out))
          · rcases Nat.lt_trichotomy j k with h | h | h
            · exact absurd rfl (hT.out _ (mem_take hd' hj h))
            · rw [h]
            · exact absurd hsn (hp _ (mem_take HD.out h22 h)))
        clear hsn
        go_wp2_with (go_at_fn 26; refine FK.out.mono ?_; rintro e w' ⟨rfl, hb⟩)
        go_ret
        exact ⟨by rw [HE.out]; first | done | rfl, hw.trans (hb.mono hw.size)⟩
      · rw [decide_eq_false hsn] at FK
        have HT2 := Lib.hid (show ∀ t ∈ us.take (k + 1), t.2.2 ≠ n by
          rw [(us_split HD.out h22).2]
          intro t ht
          rcases List.mem_append.1 ht with h | h
          · exact hT.out t h
          · simp at h; subst h; exact hsn)
        clear hsn
        go_wp2_with (go_at_fn 26; refine FK.out.mono ?_; rintro e w' ⟨rfl, hb⟩)
        go_roundw
        case rel => exact ⟨k + 1, by omega, rfl, hw.trans (hb.mono hw.size), HT2⟩
        case measure => simp [intOf]; omega
    · obtain rfl : k = 22 := by omega
      have hm : ¬ ((22 : Nat) : Int) < 22 := by omega
      obtain rfl : r = -1 := by
        rcases HR.out with ⟨h, _⟩ | ⟨j, hj, rfl, x', y', hd', hp⟩
        · exact h
        · exact absurd rfl (hT.out _ (mem_take hd' hj hj))
      go_wp2
      go_ret
      exact ⟨rfl, hw⟩
end Go.Proofs.YtkoljddejjfbiaaGreatDoor
