/- The walk of PitchSounds. -/
import Derived.Test.YtkoljddejjfbiaaGreatDoorPtJ
namespace Go.Proofs.YtkoljddejjfbiaaGreatDoor
open Go Go.RowKit Go.Shelf

def snI1 (a b key s : Int) : Nat → Value → World → Prop
  | 0, v, _ => v = .int .i64 key
  | 1, v, _ => v = .agg #[.int .i64 a, .int .i64 b]
  | 2, v, _ => v = .agg #[.int .i64 8, .int .i64 1]
  | 3, v, _ => v = .int .i64 s
  | 4, v, _ => v = .int .i64 (key + s)
  | 5, v, _ => v = .int .i64 (key + s)
  | _, _, _ => True

theorem snI1_up (a b key s : Int) : ∀ (j : Nat) (v : Value) (A B : World), Below A.heap.size A B → snI1 a b key s j v A → snI1 a b key s j v B
  | 0, _, _, _, _, h => h
  | 1, _, _, _, _, h => h
  | 2, _, _, _, _, h => h
  | 3, _, _, _, _, h => h
  | 4, _, _, _, _, h => h
  | 5, _, _, _, _, h => h
  | _ + 6, _, _, _, _, _ => trivial

def snI2 (a b key s : Int) : Nat → Value → World → Prop
  | 0, v, _ => v = .int .i64 key
  | 1, v, _ => v = .agg #[.int .i64 a, .int .i64 b]
  | 2, v, _ => v = .agg #[.int .i64 8, .int .i64 1]
  | 3, v, _ => v = .int .i64 s
  | 4, v, _ => v = .int .i64 (key + s)
  | 5, v, _ => v = .int .i64 (key + s)
  | _, _, _ => True

theorem snI2_up (a b key s : Int) : ∀ (j : Nat) (v : Value) (A B : World), Below A.heap.size A B → snI2 a b key s j v A → snI2 a b key s j v B
  | 0, _, _, _, _, h => h
  | 1, _, _, _, _, h => h
  | 2, _, _, _, _, h => h
  | 3, _, _, _, _, h => h
  | 4, _, _, _, _, h => h
  | 5, _, _, _, _, h => h
  | _ + 6, _, _, _, _, _ => trivial

set_option maxRecDepth 100000 in
set_option maxHeartbeats 8000000 in
theorem sounds_bad (a b key : Int) (h : ¬ pk a b = 0) (w : World) (P : Pg w) : Calls Tryz.prog 7 #[.agg #[.int .i64 a, .int .i64 b], .int .i64 key] w fun e w' => e = .returned (.bool true) ∧ Below w.heap.size w w' := by
  have KN := Lib.hid (fun W P => pknown_c W P)
  have CH := Lib.hid (fun W => lcheck_any a b W)
  obtain ⟨z, hz⟩ : ∃ z, pk a b = z := ⟨_, rfl⟩
  rw [hz] at CH h
  clear hz
  obtain ⟨D, hD⟩ : ∃ D, w.heap.size = D := ⟨_, rfl⟩
  go_enter Tryz.func7, Tryz.ntmps7
  have P1 : Pg (w.alloc (.cells #[.int .i64 a, .int .i64 b] 23)) := P.below (by first | exact ((Below.refl _ w).alloc (by first | omega | (simp; omega)) (.cells #[.int .i64 a, .int .i64 b] 23)) | (rw [hD]; exact ((Below.refl _ w).alloc (by first | omega | (simp; omega)) (.cells #[.int .i64 a, .int .i64 b] 23))))
  go_wp2_with fail
  refine (KN.out _ P1).mono ?_
  rintro e v1 ⟨rfl, hb_v1⟩
  have cX_v1 : v1.heap[D]? = some (.cells #[.int .i64 a, .int .i64 b] 23) := (hb_v1.block (D) (Array.getElem?_eq_some_iff.1 (show (w.alloc (.cells #[.int .i64 a, .int .i64 b] 23)).heap[D]? = some (.cells #[.int .i64 a, .int .i64 b] 23) from (heap_new (by first | omega | (simp; omega))))).1).trans (heap_new (by first | omega | (simp; omega)))
  have hw_v1 : Below D w v1 := (((Below.refl _ w).alloc (by first | omega | (simp; omega)) (.cells #[.int .i64 a, .int .i64 b] 23))).trans (hb_v1.mono (by first | omega | (simp; omega)))
  clear hb_v1
  have ld2 : v1.heap[D]? = some (.cells #[.int .i64 a, .int .i64 b] 23) := cX_v1
  have y2_0 := cell2_0 ld2
  have y2_1 := cell2_1 ld2
  clear ld2
  go_wp2_with fail
  refine (CH.out _).mono ?_
  rintro e v3 ⟨rfl, hb_v3⟩
  have hs_v3 := hw_v1.size
  have cX_v3 : v3.heap[D]? = some (.cells #[.int .i64 a, .int .i64 b] 23) := (hb_v3.block (D) (Array.getElem?_eq_some_iff.1 (show v1.heap[D]? = some (.cells #[.int .i64 a, .int .i64 b] 23) from cX_v1)).1).trans cX_v1
  have hw_v3 : Below D w v3 := (hw_v1).trans (hb_v3.mono (by first | omega | (simp; omega)))
  clear cX_v1 hb_v3 y2_0 y2_1 hw_v1 hs_v3
  have P2 : Pg v3 := P.below (by first | exact hw_v3 | (rw [hD]; exact hw_v3))
  go_wp2_with fail
  refine (KN.out _ P2).mono ?_
  rintro e v4 ⟨rfl, hb_v4⟩
  have hs_v4 := hw_v3.size
  have cX_v4 : v4.heap[D]? = some (.cells #[.int .i64 a, .int .i64 b] 23) := (hb_v4.block (D) (Array.getElem?_eq_some_iff.1 (show v3.heap[D]? = some (.cells #[.int .i64 a, .int .i64 b] 23) from cX_v3)).1).trans cX_v3
  have hw_v4 : Below D w v4 := (hw_v3).trans (hb_v4.mono (by first | omega | (simp; omega)))
  clear cX_v3 hb_v4 hw_v3 hs_v4
  have HW := Lib.hid (hw_v4)
  go_wp2
  go_ret
  exact ⟨rfl, by first | exact HW.out | (rw [hD]; exact HW.out)⟩

set_option maxRecDepth 100000 in
set_option maxHeartbeats 8000000 in
theorem sounds_ok (a b key : Int) (h1 : pk a b = 0) (w : World) (P : Pg w) : Calls Tryz.prog 7 #[.agg #[.int .i64 a, .int .i64 b], .int .i64 key] w fun e w' => e = .returned (.bool true) ∧ Below w.heap.size w w' := by
  obtain ⟨_, k1, k2, k3, k4, _⟩ := pk_ok h1
  obtain ⟨s, hs⟩ : ∃ s, ShI (8 * b) a s := shi_ex (by omega) k1
  have bs := sh_of_eq hs (by omega) (by omega) (by omega) (by omega)
  have KN := Lib.hid (fun W P => pknown_c W P)
  have CH := Lib.hid (fun W => lcheck_any a b W)
  rw [h1] at CH
  have SN := Lib.hid (fun W G => psound_ok a b key s h1 hs W G)
  have F81 := Lib.hid (fun W => f_lit 8 1 W (by decide +kernel))
  have LS := Lib.hid (fun W G => lshift_ok a b 8 1 s h1 pk_81 (shi_comm _ _ hs rfl (Int.one_mul a)) W G)
  unfold sndV at SN
  clear hs h1 k1 k2 k3 k4
  obtain ⟨D, hD⟩ : ∃ D, w.heap.size = D := ⟨_, rfl⟩
  by_cases g1 : 0 ≤ key ∧ key ≤ 127
  · rw [if_pos g1] at SN
    by_cases g2 : 0 ≤ key + s ∧ key + s ≤ 127
    · rw [if_pos g2] at SN
      go_enter Tryz.func7, Tryz.ntmps7
      have P3 : Pg (w.alloc (.cells #[.int .i64 a, .int .i64 b] 23)) := P.below (by first | exact ((Below.refl _ w).alloc (by first | omega | (simp; omega)) (.cells #[.int .i64 a, .int .i64 b] 23)) | (rw [hD]; exact ((Below.refl _ w).alloc (by first | omega | (simp; omega)) (.cells #[.int .i64 a, .int .i64 b] 23))))
      go_wp2_with fail
      refine (KN.out _ P3).mono ?_
      rintro e v1 ⟨rfl, hb_v1⟩
      have cX_v1 : v1.heap[D]? = some (.cells #[.int .i64 a, .int .i64 b] 23) := (hb_v1.block (D) (Array.getElem?_eq_some_iff.1 (show (w.alloc (.cells #[.int .i64 a, .int .i64 b] 23)).heap[D]? = some (.cells #[.int .i64 a, .int .i64 b] 23) from (heap_new (by first | omega | (simp; omega))))).1).trans (heap_new (by first | omega | (simp; omega)))
      have hw_v1 : Below D w v1 := (((Below.refl _ w).alloc (by first | omega | (simp; omega)) (.cells #[.int .i64 a, .int .i64 b] 23))).trans (hb_v1.mono (by first | omega | (simp; omega)))
      clear hb_v1
      have ld2 : v1.heap[D]? = some (.cells #[.int .i64 a, .int .i64 b] 23) := cX_v1
      have y2_0 := cell2_0 ld2
      have y2_1 := cell2_1 ld2
      clear ld2
      go_wp2_with fail
      refine (CH.out _).mono ?_
      rintro e v3 ⟨rfl, hb_v3⟩
      have hs_v3 := hw_v1.size
      have cX_v3 : v3.heap[D]? = some (.cells #[.int .i64 a, .int .i64 b] 23) := (hb_v3.block (D) (Array.getElem?_eq_some_iff.1 (show v1.heap[D]? = some (.cells #[.int .i64 a, .int .i64 b] 23) from cX_v1)).1).trans cX_v1
      have hw_v3 : Below D w v3 := (hw_v1).trans (hb_v3.mono (by first | omega | (simp; omega)))
      clear cX_v1 hb_v3 y2_0 y2_1 hw_v1 hs_v3
      have ld4 : v3.heap[D]? = some (.cells #[.int .i64 a, .int .i64 b] 23) := cX_v3
      have y4_0 := cell2_0 ld4
      have y4_1 := cell2_1 ld4
      clear ld4
      have P4 : Pg v3 := P.below (by first | exact hw_v3 | (rw [hD]; exact hw_v3))
      go_wp2_with fail
      refine (SN.out _ P4.gi).mono ?_
      rintro e v5 ⟨rfl, hb_v5⟩
      have hs_v5 := hw_v3.size
      have cX_v5 : v5.heap[D]? = some (.cells #[.int .i64 a, .int .i64 b] 23) := (hb_v5.block (D) (Array.getElem?_eq_some_iff.1 (show v3.heap[D]? = some (.cells #[.int .i64 a, .int .i64 b] 23) from cX_v3)).1).trans cX_v3
      have hw_v5 : Below D w v5 := (hw_v3).trans (hb_v5.mono (by first | omega | (simp; omega)))
      clear cX_v3 hb_v5 y4_0 y4_1 hw_v3 hs_v5
      obtain ⟨V1, hV1⟩ : ∃ V, v5 = V := ⟨_, rfl⟩
      have hw_V1 : Below D w V1 := by rw [← hV1]; exact hw_v5
      have HX_V1 := Lib.hid (show V1.heap[D]? = some (.cells #[.int .i64 a, .int .i64 b] 23) by rw [← hV1]; exact cX_v5)
      have PV_V1 : Pg V1 := P.below (by first | exact hw_V1 | (rw [hD]; exact hw_V1))
      have GG_V1 := Lib.hid (fun (W : World) (h : Below V1.heap.size V1 W) => PV_V1.below h)
      clear cX_v5 hw_v5
      go_upto_region 6 with fail
      try rw [hV1]
      refine wp_region_slots_at rfl rfl (fun base ys => (((((base.set 40 (ys 0)).set 41 (ys 1)).set 42 (ys 2)).set 43 (ys 3)).set 44 (ys 4)).set 8 (ys 5)) (BelowI _ (fun A => Below V1.heap.size V1 A) (snI1 a b key s)) (fun _ => undef) (by kernel_rfl) (below_start (R := fun A => Below V1.heap.size V1 A) ⟨rfl, rfl, rfl, Nat.le_refl _, fun _ _ => rfl⟩) ?h
      case h =>
        intro FF hFF
        simp only [List.set_cons_succ, List.set_cons_zero] at hFF
        subst hFF
        refine ⟨rfl, ?_, ?_⟩
        refine ⟨?_, ?_⟩
        · refine SlotStep.below (fun A B hb h => h.trans (hb.mono h.size)) (snI1_up a b key s) ?_
          intro ys W hR hd K hK
          go_simp
          have hK2 := hK (.int .i64 key) _ (Below.refl _ _) rfl
          simp (config := { decide := true }) only [upd, if_true, if_false] at hK2
          exact hK2
        refine ⟨?_, ?_⟩
        · refine SlotStep.below (fun A B hb h => h.trans (hb.mono h.size)) (snI1_up a b key s) ?_
          intro ys W hR hd K hK
          have hl := (hR.block (D) (Array.getElem?_eq_some_iff.1 HX_V1.out).1).trans HX_V1.out
          have c0 := cell2_0 hl
          have c1 := cell2_1 hl
          go_simp
          have hK2 := hK (.agg #[.int .i64 a, .int .i64 b]) _ (Below.refl _ _) rfl
          simp (config := { decide := true }) only [upd, if_true, if_false] at hK2
          exact hK2
        refine ⟨?_, ?_⟩
        · refine SlotStep.below (fun A B hb h => h.trans (hb.mono h.size)) (snI1_up a b key s) ?_
          intro ys W hR hd K hK
          go_simp
          refine (F81.out _).mono ?_
          rintro e w5 ⟨rfl, hb5⟩
          have hK2 := hK (.agg #[.int .i64 8, .int .i64 1]) _ hb5 rfl
          simp (config := { decide := true }) only [upd, if_true, if_false] at hK2
          exact hK2
        refine ⟨?_, ?_⟩
        · refine SlotStep.below (fun A B hb h => h.trans (hb.mono h.size)) (snI1_up a b key s) ?_
          intro ys W hR hd K hK
          have dd1 : ys 1 = (.agg #[.int .i64 a, .int .i64 b]) := hd 1 (by kernel_rfl) (by decide)
          have dd2 : ys 2 = (.agg #[.int .i64 8, .int .i64 1]) := hd 2 (by kernel_rfl) (by decide)
          go_simp
          refine (LS.out _ (GG_V1.out W hR).gi).mono ?_
          rintro e w5 ⟨rfl, hb5⟩
          have hK2 := hK (.int .i64 s) _ hb5 rfl
          simp (config := { decide := true }) only [upd, if_true, if_false, dd1, dd2] at hK2
          exact hK2
        refine ⟨?_, ?_⟩
        · refine SlotStep.below (fun A B hb h => h.trans (hb.mono h.size)) (snI1_up a b key s) ?_
          intro ys W hR hd K hK
          have dd0 : ys 0 = (.int .i64 key) := hd 0 (by kernel_rfl) (by decide)
          have dd3 : ys 3 = (.int .i64 s) := hd 3 (by kernel_rfl) (by decide)
          have wq := wrap_in (q := key + s) (by omega) (by omega)
          go_simp
          have hK2 := hK (.int .i64 (key + s)) _ (Below.refl _ _) rfl
          simp (config := { decide := true }) only [upd, if_true, if_false, dd0, dd3] at hK2
          exact hK2
        refine ⟨?_, ?_⟩
        · refine SlotStep.below (fun A B hb h => h.trans (hb.mono h.size)) (snI1_up a b key s) ?_
          intro ys W hR hd K hK
          have dd4 : ys 4 = (.int .i64 (key + s)) := hd 4 (by kernel_rfl) (by decide)
          go_simp
          have hK2 := hK (.int .i64 (key + s)) _ (Below.refl _ _) rfl
          simp (config := { decide := true }) only [upd, if_true, if_false, dd4] at hK2
          exact hK2
        trivial
        · intro L5 ys5 U1 hL5 hI5
          obtain ⟨hR5, hj5⟩ := hI5
          have d5_U1 : ys5 5 = (.int .i64 (key + s)) := hj5 5 (by decide) (hL5 5 (by decide))
          simp only [d5_U1]
          have cX_U1 : U1.heap[D]? = some (.cells #[.int .i64 a, .int .i64 b] 23) := (hR5.block (D) (Array.getElem?_eq_some_iff.1 HX_V1.out).1).trans HX_V1.out
          have hw_U1 : Below D w U1 := hw_V1.trans (hR5.mono (by have := hw_V1.size; first | omega | (simp; omega)))
          clear hj5 hL5 hR5 hw_V1 d5_U1 hV1 GG_V1 PV_V1 HX_V1
          have HW := Lib.hid (hw_U1)
          go_wp2
          go_ret
          exact ⟨rfl, by first | exact HW.out | (rw [hD]; exact HW.out)⟩
    · rw [if_neg g2] at SN
      go_enter Tryz.func7, Tryz.ntmps7
      have P5 : Pg (w.alloc (.cells #[.int .i64 a, .int .i64 b] 23)) := P.below (by first | exact ((Below.refl _ w).alloc (by first | omega | (simp; omega)) (.cells #[.int .i64 a, .int .i64 b] 23)) | (rw [hD]; exact ((Below.refl _ w).alloc (by first | omega | (simp; omega)) (.cells #[.int .i64 a, .int .i64 b] 23))))
      go_wp2_with fail
      refine (KN.out _ P5).mono ?_
      rintro e v1 ⟨rfl, hb_v1⟩
      have cX_v1 : v1.heap[D]? = some (.cells #[.int .i64 a, .int .i64 b] 23) := (hb_v1.block (D) (Array.getElem?_eq_some_iff.1 (show (w.alloc (.cells #[.int .i64 a, .int .i64 b] 23)).heap[D]? = some (.cells #[.int .i64 a, .int .i64 b] 23) from (heap_new (by first | omega | (simp; omega))))).1).trans (heap_new (by first | omega | (simp; omega)))
      have hw_v1 : Below D w v1 := (((Below.refl _ w).alloc (by first | omega | (simp; omega)) (.cells #[.int .i64 a, .int .i64 b] 23))).trans (hb_v1.mono (by first | omega | (simp; omega)))
      clear hb_v1
      have ld2 : v1.heap[D]? = some (.cells #[.int .i64 a, .int .i64 b] 23) := cX_v1
      have y2_0 := cell2_0 ld2
      have y2_1 := cell2_1 ld2
      clear ld2
      go_wp2_with fail
      refine (CH.out _).mono ?_
      rintro e v3 ⟨rfl, hb_v3⟩
      have hs_v3 := hw_v1.size
      have cX_v3 : v3.heap[D]? = some (.cells #[.int .i64 a, .int .i64 b] 23) := (hb_v3.block (D) (Array.getElem?_eq_some_iff.1 (show v1.heap[D]? = some (.cells #[.int .i64 a, .int .i64 b] 23) from cX_v1)).1).trans cX_v1
      have hw_v3 : Below D w v3 := (hw_v1).trans (hb_v3.mono (by first | omega | (simp; omega)))
      clear cX_v1 hb_v3 y2_0 y2_1 hw_v1 hs_v3
      have ld4 : v3.heap[D]? = some (.cells #[.int .i64 a, .int .i64 b] 23) := cX_v3
      have y4_0 := cell2_0 ld4
      have y4_1 := cell2_1 ld4
      clear ld4
      have P6 : Pg v3 := P.below (by first | exact hw_v3 | (rw [hD]; exact hw_v3))
      go_wp2_with fail
      refine (SN.out _ P6.gi).mono ?_
      rintro e v5 ⟨rfl, hb_v5⟩
      have hs_v5 := hw_v3.size
      have cX_v5 : v5.heap[D]? = some (.cells #[.int .i64 a, .int .i64 b] 23) := (hb_v5.block (D) (Array.getElem?_eq_some_iff.1 (show v3.heap[D]? = some (.cells #[.int .i64 a, .int .i64 b] 23) from cX_v3)).1).trans cX_v3
      have hw_v5 : Below D w v5 := (hw_v3).trans (hb_v5.mono (by first | omega | (simp; omega)))
      clear cX_v3 hb_v5 y4_0 y4_1 hw_v3 hs_v5
      obtain ⟨V1, hV1⟩ : ∃ V, v5 = V := ⟨_, rfl⟩
      have hw_V1 : Below D w V1 := by rw [← hV1]; exact hw_v5
      have HX_V1 := Lib.hid (show V1.heap[D]? = some (.cells #[.int .i64 a, .int .i64 b] 23) by rw [← hV1]; exact cX_v5)
      have PV_V1 : Pg V1 := P.below (by first | exact hw_V1 | (rw [hD]; exact hw_V1))
      have GG_V1 := Lib.hid (fun (W : World) (h : Below V1.heap.size V1 W) => PV_V1.below h)
      clear cX_v5 hw_v5
      go_upto_region 6 with fail
      try rw [hV1]
      refine wp_region_slots_at rfl rfl (fun base ys => (((((base.set 40 (ys 0)).set 41 (ys 1)).set 42 (ys 2)).set 43 (ys 3)).set 44 (ys 4)).set 8 (ys 5)) (BelowI _ (fun A => Below V1.heap.size V1 A) (snI2 a b key s)) (fun _ => undef) (by kernel_rfl) (below_start (R := fun A => Below V1.heap.size V1 A) ⟨rfl, rfl, rfl, Nat.le_refl _, fun _ _ => rfl⟩) ?h
      case h =>
        intro FF hFF
        simp only [List.set_cons_succ, List.set_cons_zero] at hFF
        subst hFF
        refine ⟨rfl, ?_, ?_⟩
        refine ⟨?_, ?_⟩
        · refine SlotStep.below (fun A B hb h => h.trans (hb.mono h.size)) (snI2_up a b key s) ?_
          intro ys W hR hd K hK
          go_simp
          have hK2 := hK (.int .i64 key) _ (Below.refl _ _) rfl
          simp (config := { decide := true }) only [upd, if_true, if_false] at hK2
          exact hK2
        refine ⟨?_, ?_⟩
        · refine SlotStep.below (fun A B hb h => h.trans (hb.mono h.size)) (snI2_up a b key s) ?_
          intro ys W hR hd K hK
          have hl := (hR.block (D) (Array.getElem?_eq_some_iff.1 HX_V1.out).1).trans HX_V1.out
          have c0 := cell2_0 hl
          have c1 := cell2_1 hl
          go_simp
          have hK2 := hK (.agg #[.int .i64 a, .int .i64 b]) _ (Below.refl _ _) rfl
          simp (config := { decide := true }) only [upd, if_true, if_false] at hK2
          exact hK2
        refine ⟨?_, ?_⟩
        · refine SlotStep.below (fun A B hb h => h.trans (hb.mono h.size)) (snI2_up a b key s) ?_
          intro ys W hR hd K hK
          go_simp
          refine (F81.out _).mono ?_
          rintro e w5 ⟨rfl, hb5⟩
          have hK2 := hK (.agg #[.int .i64 8, .int .i64 1]) _ hb5 rfl
          simp (config := { decide := true }) only [upd, if_true, if_false] at hK2
          exact hK2
        refine ⟨?_, ?_⟩
        · refine SlotStep.below (fun A B hb h => h.trans (hb.mono h.size)) (snI2_up a b key s) ?_
          intro ys W hR hd K hK
          have dd1 : ys 1 = (.agg #[.int .i64 a, .int .i64 b]) := hd 1 (by kernel_rfl) (by decide)
          have dd2 : ys 2 = (.agg #[.int .i64 8, .int .i64 1]) := hd 2 (by kernel_rfl) (by decide)
          go_simp
          refine (LS.out _ (GG_V1.out W hR).gi).mono ?_
          rintro e w5 ⟨rfl, hb5⟩
          have hK2 := hK (.int .i64 s) _ hb5 rfl
          simp (config := { decide := true }) only [upd, if_true, if_false, dd1, dd2] at hK2
          exact hK2
        refine ⟨?_, ?_⟩
        · refine SlotStep.below (fun A B hb h => h.trans (hb.mono h.size)) (snI2_up a b key s) ?_
          intro ys W hR hd K hK
          have dd0 : ys 0 = (.int .i64 key) := hd 0 (by kernel_rfl) (by decide)
          have dd3 : ys 3 = (.int .i64 s) := hd 3 (by kernel_rfl) (by decide)
          have wq := wrap_in (q := key + s) (by omega) (by omega)
          go_simp
          have hK2 := hK (.int .i64 (key + s)) _ (Below.refl _ _) rfl
          simp (config := { decide := true }) only [upd, if_true, if_false, dd0, dd3] at hK2
          exact hK2
        refine ⟨?_, ?_⟩
        · refine SlotStep.below (fun A B hb h => h.trans (hb.mono h.size)) (snI2_up a b key s) ?_
          intro ys W hR hd K hK
          have dd4 : ys 4 = (.int .i64 (key + s)) := hd 4 (by kernel_rfl) (by decide)
          go_simp
          have hK2 := hK (.int .i64 (key + s)) _ (Below.refl _ _) rfl
          simp (config := { decide := true }) only [upd, if_true, if_false, dd4] at hK2
          exact hK2
        trivial
        · intro L5 ys5 U1 hL5 hI5
          obtain ⟨hR5, hj5⟩ := hI5
          have d5_U1 : ys5 5 = (.int .i64 (key + s)) := hj5 5 (by decide) (hL5 5 (by decide))
          simp only [d5_U1]
          have cX_U1 : U1.heap[D]? = some (.cells #[.int .i64 a, .int .i64 b] 23) := (hR5.block (D) (Array.getElem?_eq_some_iff.1 HX_V1.out).1).trans HX_V1.out
          have hw_U1 : Below D w U1 := hw_V1.trans (hR5.mono (by have := hw_V1.size; first | omega | (simp; omega)))
          clear hj5 hL5 hR5 hw_V1 d5_U1 hV1 GG_V1 PV_V1 HX_V1
          rcases (show key + s < 0 ∨ (¬ key + s < 0 ∧ 127 < key + s) by omega) with q1 | ⟨q1, q2⟩
          · have HW := Lib.hid hw_U1
            go_wp2
            go_ret
            exact ⟨rfl, by first | exact HW.out | (rw [hD]; exact HW.out)⟩
          · have HW := Lib.hid hw_U1
            go_wp2
            go_ret
            exact ⟨rfl, by first | exact HW.out | (rw [hD]; exact HW.out)⟩
  · rw [if_neg g1] at SN
    go_enter Tryz.func7, Tryz.ntmps7
    have P7 : Pg (w.alloc (.cells #[.int .i64 a, .int .i64 b] 23)) := P.below (by first | exact ((Below.refl _ w).alloc (by first | omega | (simp; omega)) (.cells #[.int .i64 a, .int .i64 b] 23)) | (rw [hD]; exact ((Below.refl _ w).alloc (by first | omega | (simp; omega)) (.cells #[.int .i64 a, .int .i64 b] 23))))
    go_wp2_with fail
    refine (KN.out _ P7).mono ?_
    rintro e v1 ⟨rfl, hb_v1⟩
    have cX_v1 : v1.heap[D]? = some (.cells #[.int .i64 a, .int .i64 b] 23) := (hb_v1.block (D) (Array.getElem?_eq_some_iff.1 (show (w.alloc (.cells #[.int .i64 a, .int .i64 b] 23)).heap[D]? = some (.cells #[.int .i64 a, .int .i64 b] 23) from (heap_new (by first | omega | (simp; omega))))).1).trans (heap_new (by first | omega | (simp; omega)))
    have hw_v1 : Below D w v1 := (((Below.refl _ w).alloc (by first | omega | (simp; omega)) (.cells #[.int .i64 a, .int .i64 b] 23))).trans (hb_v1.mono (by first | omega | (simp; omega)))
    clear hb_v1
    have ld2 : v1.heap[D]? = some (.cells #[.int .i64 a, .int .i64 b] 23) := cX_v1
    have y2_0 := cell2_0 ld2
    have y2_1 := cell2_1 ld2
    clear ld2
    go_wp2_with fail
    refine (CH.out _).mono ?_
    rintro e v3 ⟨rfl, hb_v3⟩
    have hs_v3 := hw_v1.size
    have cX_v3 : v3.heap[D]? = some (.cells #[.int .i64 a, .int .i64 b] 23) := (hb_v3.block (D) (Array.getElem?_eq_some_iff.1 (show v1.heap[D]? = some (.cells #[.int .i64 a, .int .i64 b] 23) from cX_v1)).1).trans cX_v1
    have hw_v3 : Below D w v3 := (hw_v1).trans (hb_v3.mono (by first | omega | (simp; omega)))
    clear cX_v1 hb_v3 y2_0 y2_1 hw_v1 hs_v3
    have ld4 : v3.heap[D]? = some (.cells #[.int .i64 a, .int .i64 b] 23) := cX_v3
    have y4_0 := cell2_0 ld4
    have y4_1 := cell2_1 ld4
    clear ld4
    have P8 : Pg v3 := P.below (by first | exact hw_v3 | (rw [hD]; exact hw_v3))
    go_wp2_with fail
    refine (SN.out _ P8.gi).mono ?_
    rintro e v5 ⟨rfl, hb_v5⟩
    have hs_v5 := hw_v3.size
    have cX_v5 : v5.heap[D]? = some (.cells #[.int .i64 a, .int .i64 b] 23) := (hb_v5.block (D) (Array.getElem?_eq_some_iff.1 (show v3.heap[D]? = some (.cells #[.int .i64 a, .int .i64 b] 23) from cX_v3)).1).trans cX_v3
    have hw_v5 : Below D w v5 := (hw_v3).trans (hb_v5.mono (by first | omega | (simp; omega)))
    clear cX_v3 hb_v5 y4_0 y4_1 hw_v3 hs_v5
    rcases (show key < 0 ∨ (¬ key < 0 ∧ 127 < key) by omega) with q1 | ⟨q1, q2⟩
    · have HW := Lib.hid hw_v5
      go_wp2
      go_ret
      exact ⟨rfl, by first | exact HW.out | (rw [hD]; exact HW.out)⟩
    · have HW := Lib.hid hw_v5
      go_wp2
      go_ret
      exact ⟨rfl, by first | exact HW.out | (rw [hD]; exact HW.out)⟩

theorem sounds_law (a b key : Int) (w : World) (P : Pg w) : Calls Tryz.prog 7 #[.agg #[.int .i64 a, .int .i64 b], .int .i64 key] w fun e w' => e = .returned (.bool true) ∧ Below w.heap.size w w' := by
  by_cases h : pk a b = 0
  · exact sounds_ok a b key h w P
  · exact sounds_bad a b key h w P
end Go.Proofs.YtkoljddejjfbiaaGreatDoor
