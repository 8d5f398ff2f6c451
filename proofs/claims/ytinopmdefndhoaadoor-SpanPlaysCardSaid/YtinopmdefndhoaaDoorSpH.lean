/- The walks of SpanHands and SpanErrors, over what the package's functions answer. -/
import Derived.Test.YtinopmdefndhoaaDoorSpK
namespace Go.Proofs.YtinopmdefndhoaaDoor
open Go Go.RowKit Go.Shelf

/-- What every law asks of the package first. -/
def KnB (P : Program) (f : FuncId) : Prop := ∀ W, Gl W → Calls P f #[] W fun e w' => e = .returned (.bool true) ∧ Below W.heap.size W w'
theorem chk_ne (a b c d : Int) (h : chk a b c d ≠ 0) : chk a b c d = 3 := by
  unfold chk at h ⊢
  split
  · rename_i h'; rw [if_pos h'] at h; exact absurd rfl h
  · rfl
theorem holds_b (v : Value) (n : Nat) (X : Nat → Int) (k wd : Int) (w : World) (h : Lst w v n X) (hn : n ≤ 1000) (hX : ∀ j, j < n → 0 ≤ X j ∧ X j ≤ 127) :
    Calls Tryd.prog 22 #[v, .int .i64 k, .int .i64 wd] w fun e w' => e = .returned (.bool (holdX X n k wd)) ∧ Below w.heap.size w w' :=
  (holds_any v n X k wd w h.row hn hX).mono fun _ _ ⟨h1, nn, h2⟩ => ⟨h1, by rw [h2]; exact drew_below' _ _⟩
def haI (D n : Nat) (X : Nat → Int) (a b : Int) (lo hi : Nat) (hb : Bool) : Nat → Value → World → Prop
  | 0, v, _ => v = .int .i64 0
  | 1, v, _ => v = .bool true
  | 2, v, _ => v = .bool true
  | 3, v, _ => v = .bool hb
  | 4, v, _ => v = .agg #[.int .u64 lo, .int .u64 hi]
  | 5, v, W => Lst W v n X
  | 6, v, _ => v = .pointer (some ⟨D, 0, none⟩)
  | 7, v, _ => v = .int .i64 a
  | 8, v, _ => v = .pointer (some ⟨D, 1, none⟩)
  | 9, v, _ => v = .int .i64 b
  | 10, v, _ => v = .bool hb
  | 11, v, _ => v = .bool true
  | 12, v, _ => v = .bool true
  | 13, v, _ => v = .bool true
  | _, _, _ => True

theorem haI_up (D n : Nat) (X : Nat → Int) (a b : Int) (lo hi : Nat) (hb : Bool) : ∀ (j : Nat) (v : Value) (A B : World), Below A.heap.size A B → haI D n X a b lo hi hb j v A → haI D n X a b lo hi hb j v B
  | 0, _, _, _, _, h => h
  | 1, _, _, _, _, h => h
  | 2, _, _, _, _, h => h
  | 3, _, _, _, _, h => h
  | 4, _, _, _, _, h => h
  | 5, _, _, _, hb, h => Lst.below h hb
  | 6, _, _, _, _, h => h
  | 7, _, _, _, _, h => h
  | 8, _, _, _, _, h => h
  | 9, _, _, _, _, h => h
  | 10, _, _, _, _, h => h
  | 11, _, _, _, _, h => h
  | 12, _, _, _, _, h => h
  | 13, _, _, _, _, h => h
  | _ + 14, _, _, _, _, _ => trivial

def PsR (w : World) (D : Nat) (a b c d : Int) (lo hi : Nat) (A : World) : Prop := Below w.heap.size w A ∧ A.heap[D]? = some (.cells #[.int .i64 a, .int .i64 b, .int .i64 c, .int .i64 d] 23) ∧ A.heap[D + 1]? = some (.cells #[.int .u64 lo, .int .u64 hi] 26)
theorem PsR_up (w : World) (D : Nat) (a b c d : Int) (lo hi : Nat) (A B : World) (hb : Below A.heap.size A B) (h : PsR w D a b c d lo hi A) : PsR w D a b c d lo hi B :=
  ⟨h.1.trans (hb.mono h.1.size), heap_kept hb h.2.1, heap_kept hb h.2.2⟩
set_option maxRecDepth 100000 in
set_option maxHeartbeats 8000000 in
theorem hands_walk (a b c d : Int) (lo hi : Nat) (hl : lo < 18446744073709551616) (hh : hi < 18446744073709551616) (w : World) (G : Gl w) (kn : KnB Tryd.prog 12)
    (one : chk a b c d = 0 → ∀ W, Gl W → Calls Tryd.prog 15 #[.agg #[.int .i64 a, .int .i64 b, .int .i64 c, .int .i64 d], .agg #[.int .u64 lo, .int .u64 hi]] W fun e w' => e = .returned (.tuple #[.bool (holdX (nth (Ns.notes lo hi)) (Ns.notes lo hi).length a b), .int .i64 0]) ∧ Below W.heap.size W w') :
    Calls Tryd.prog 4 #[.agg #[.int .i64 a, .int .i64 b, .int .i64 c, .int .i64 d], .agg #[.int .u64 lo, .int .u64 hi]] w fun e w' => e = .returned (.bool true) ∧ Below w.heap.size w w' := by
  have KN := Lib.hid kn
  have CH := Lib.hid (fun W => chkp_any a b c d W)
  have LI := Lib.hid (fun W => list_c lo hi hl hh W)
  have HO := Lib.hid (fun v W (h : Lst W v (Ns.notes lo hi).length (nth (Ns.notes lo hi))) => holds_b v (Ns.notes lo hi).length (nth (Ns.notes lo hi)) a b W h (notes_bd lo hi).1 (notes_bd lo hi).2)
  generalize nth (Ns.notes lo hi) = X at *
  generalize (Ns.notes lo hi).length = n at *
  obtain ⟨D, hD⟩ : ∃ D, w.heap.size = D := ⟨_, rfl⟩
  clear kn hl hh
  by_cases hx : chk a b c d = 0
  · have ON := Lib.hid (one hx)
    rw [hx] at CH
    clear hx one
    generalize holdX X n a b = hb at *
    go_enter Tryd.func4, Tryd.ntmps4
    have G1 : Gl ((w.alloc (.cells #[.int .i64 a, .int .i64 b, .int .i64 c, .int .i64 d] 23)).alloc (.cells #[.int .u64 lo, .int .u64 hi] 26)) := G.below (by rw [hD]; exact (((Below.refl _ w).alloc (by first | omega | (simp; omega)) (.cells #[.int .i64 a, .int .i64 b, .int .i64 c, .int .i64 d] 23)).alloc (by first | omega | (simp; omega)) (.cells #[.int .u64 lo, .int .u64 hi] 26)))
    go_wp2_with fail
    refine (KN.out _ G1).mono ?_
    rintro e v1 ⟨rfl, hb_v1⟩
    have cP_v1 : v1.heap[D]? = some (.cells #[.int .i64 a, .int .i64 b, .int .i64 c, .int .i64 d] 23) := (hb_v1.block (D) (Array.getElem?_eq_some_iff.1 (show ((w.alloc (.cells #[.int .i64 a, .int .i64 b, .int .i64 c, .int .i64 d] 23)).alloc (.cells #[.int .u64 lo, .int .u64 hi] 26)).heap[D]? = some (.cells #[.int .i64 a, .int .i64 b, .int .i64 c, .int .i64 d] 23) from (heap_old (o := .cells #[.int .u64 lo, .int .u64 hi] 26) (heap_new (by first | omega | (simp; omega)))))).1).trans (heap_old (o := .cells #[.int .u64 lo, .int .u64 hi] 26) (heap_new (by first | omega | (simp; omega))))
    have cS_v1 : v1.heap[D + 1]? = some (.cells #[.int .u64 lo, .int .u64 hi] 26) := (hb_v1.block (D + 1) (Array.getElem?_eq_some_iff.1 (show ((w.alloc (.cells #[.int .i64 a, .int .i64 b, .int .i64 c, .int .i64 d] 23)).alloc (.cells #[.int .u64 lo, .int .u64 hi] 26)).heap[D + 1]? = some (.cells #[.int .u64 lo, .int .u64 hi] 26) from (heap_new (by first | omega | (simp; omega))))).1).trans (heap_new (by first | omega | (simp; omega)))
    have hw_v1 : Below D w v1 := ((((Below.refl _ w).alloc (by first | omega | (simp; omega)) (.cells #[.int .i64 a, .int .i64 b, .int .i64 c, .int .i64 d] 23)).alloc (by first | omega | (simp; omega)) (.cells #[.int .u64 lo, .int .u64 hi] 26))).trans (hb_v1.mono (by first | omega | (simp; omega)))
    clear hb_v1
    have ld2 : v1.heap[D]? = some (.cells #[.int .i64 a, .int .i64 b, .int .i64 c, .int .i64 d] 23) := cP_v1
    have y2_0 := cell4_0 ld2
    have y2_1 := cell4_1 ld2
    have y2_2 := cell4_2 ld2
    have y2_3 := cell4_3 ld2
    clear ld2
    go_wp2_with fail
    refine (CH.out _).mono ?_
    rintro e v3 ⟨rfl, hb_v3⟩
    have hs_v3 := hw_v1.size
    have cP_v3 : v3.heap[D]? = some (.cells #[.int .i64 a, .int .i64 b, .int .i64 c, .int .i64 d] 23) := (hb_v3.block (D) (Array.getElem?_eq_some_iff.1 (show v1.heap[D]? = some (.cells #[.int .i64 a, .int .i64 b, .int .i64 c, .int .i64 d] 23) from cP_v1)).1).trans cP_v1
    have cS_v3 : v3.heap[D + 1]? = some (.cells #[.int .u64 lo, .int .u64 hi] 26) := (hb_v3.block (D + 1) (Array.getElem?_eq_some_iff.1 (show v1.heap[D + 1]? = some (.cells #[.int .u64 lo, .int .u64 hi] 26) from cS_v1)).1).trans cS_v1
    have hw_v3 : Below D w v3 := (hw_v1).trans (hb_v3.mono (by first | omega | (simp; omega)))
    clear cP_v1 cS_v1 hb_v3 y2_0 y2_1 y2_2 y2_3 hw_v1 hs_v3
    have G2 : Gl v3 := G.below (by rw [hD]; exact hw_v3)
    have ld4 : v3.heap[D]? = some (.cells #[.int .i64 a, .int .i64 b, .int .i64 c, .int .i64 d] 23) := cP_v3
    have y4_0 := cell4_0 ld4
    have y4_1 := cell4_1 ld4
    have y4_2 := cell4_2 ld4
    have y4_3 := cell4_3 ld4
    clear ld4
    have ld5 : v3.heap[D + 1]? = some (.cells #[.int .u64 lo, .int .u64 hi] 26) := cS_v3
    have y5_0 := cell2_0 ld5
    have y5_1 := cell2_1 ld5
    clear ld5
    go_wp2_with fail
    refine (ON.out _ G2).mono ?_
    rintro e v6 ⟨rfl, hb_v6⟩
    have hs_v6 := hw_v3.size
    have cP_v6 : v6.heap[D]? = some (.cells #[.int .i64 a, .int .i64 b, .int .i64 c, .int .i64 d] 23) := (hb_v6.block (D) (Array.getElem?_eq_some_iff.1 (show v3.heap[D]? = some (.cells #[.int .i64 a, .int .i64 b, .int .i64 c, .int .i64 d] 23) from cP_v3)).1).trans cP_v3
    have cS_v6 : v6.heap[D + 1]? = some (.cells #[.int .u64 lo, .int .u64 hi] 26) := (hb_v6.block (D + 1) (Array.getElem?_eq_some_iff.1 (show v3.heap[D + 1]? = some (.cells #[.int .u64 lo, .int .u64 hi] 26) from cS_v3)).1).trans cS_v3
    have hw_v6 : Below D w v6 := (hw_v3).trans (hb_v6.mono (by first | omega | (simp; omega)))
    clear cP_v3 cS_v3 hb_v6 y4_0 y4_1 y4_2 y4_3 y5_0 y5_1 hw_v3 hs_v6
    have HR := Lib.hid (show PsR w D a b c d lo hi v6 from ⟨by rw [hD]; exact hw_v6, cP_v6, cS_v6⟩)
    clear hw_v6 cP_v6 cS_v6 
    go_wp2_with fail
    refine wp_region_slots_at rfl rfl (fun base ys => (((((((((((((base.set 21 (ys 0)).set 22 (ys 1)).set 23 (ys 2)).set 24 (ys 3)).set 25 (ys 4)).set 26 (ys 5)).set 27 (ys 6)).set 28 (ys 7)).set 29 (ys 8)).set 30 (ys 9)).set 31 (ys 10)).set 32 (ys 11)).set 33 (ys 12)).set 4 (ys 13)) (BelowI _ (PsR w D a b c d lo hi) (haI D n X a b lo hi hb)) (fun | 13 => .bool false | _ => undef) (by kernel_rfl) (below_start (PsR_up w D a b c d lo hi v6 v6.drew ⟨rfl, rfl, rfl, Nat.le_refl _, fun _ _ => rfl⟩ HR.out)) ?h
    case h =>
      intro FF hFF
      simp only [List.set_cons_succ, List.set_cons_zero] at hFF
      subst hFF
      refine ⟨rfl, ?_, ?_⟩
      refine ⟨?_, ?_⟩
      · refine SlotStep.below (PsR_up w D a b c d lo hi) (haI_up D n X a b lo hi hb) ?_
        intro ys W hR hd K hK
        go_simp
        have hK2 := hK (.int .i64 0) _ (Below.refl _ _) rfl
        simp (config := { decide := true }) only [upd, if_true, if_false] at hK2
        exact hK2
      refine ⟨?_, ?_⟩
      · refine SlotStep.below (PsR_up w D a b c d lo hi) (haI_up D n X a b lo hi hb) ?_
        intro ys W hR hd K hK
        have dd0 : ys 0 = (.int .i64 0) := hd 0 (by kernel_rfl) (by decide)
        go_simp
        have hK2 := hK (.bool true) _ (Below.refl _ _) rfl
        simp (config := { decide := true }) only [upd, if_true, if_false, dd0] at hK2
        exact hK2
      refine ⟨?_, ?_⟩
      · refine SlotStep.below (PsR_up w D a b c d lo hi) (haI_up D n X a b lo hi hb) ?_
        intro ys W hR hd K hK
        have dd1 : ys 1 = (.bool true) := hd 1 (by kernel_rfl) (by decide)
        go_simp
        have hK2 := hK (.bool true) _ (Below.refl _ _) rfl
        simp (config := { decide := true }) only [upd, if_true, if_false, dd1] at hK2
        exact hK2
      refine ⟨?_, ?_⟩
      · refine SlotStep.below (PsR_up w D a b c d lo hi) (haI_up D n X a b lo hi hb) ?_
        intro ys W hR hd K hK
        have dd2 : ys 2 = (.bool true) := hd 2 (by kernel_rfl) (by decide)
        go_simp
        have hK2 := hK (.bool hb) _ (Below.refl _ _) rfl
        simp (config := { decide := true }) only [upd, if_true, if_false, dd2] at hK2
        exact hK2
      refine ⟨?_, ?_⟩
      · refine SlotStep.below (PsR_up w D a b c d lo hi) (haI_up D n X a b lo hi hb) ?_
        intro ys W hR hd K hK
        have dd2 : ys 2 = (.bool true) := hd 2 (by kernel_rfl) (by decide)
        have c0 := cell2_0 hR.2.2
        have c1 := cell2_1 hR.2.2
        go_simp
        have hK2 := hK (.agg #[.int .u64 lo, .int .u64 hi]) _ (Below.refl _ _) rfl
        simp (config := { decide := true }) only [upd, if_true, if_false, dd2] at hK2
        exact hK2
      refine ⟨?_, ?_⟩
      · refine SlotStep.below (PsR_up w D a b c d lo hi) (haI_up D n X a b lo hi hb) ?_
        intro ys W hR hd K hK
        have dd2 : ys 2 = (.bool true) := hd 2 (by kernel_rfl) (by decide)
        have dd4 : ys 4 = (.agg #[.int .u64 lo, .int .u64 hi]) := hd 4 (by kernel_rfl) (by decide)
        go_simp
        refine (LI.out W).mono ?_
        rintro e w5 ⟨⟨v5, rfl, hv5⟩, hb5⟩
        have hK2 := hK (v5) _ hb5 hv5
        simp (config := { decide := true }) only [upd, if_true, if_false, dd2, dd4] at hK2
        exact hK2
      refine ⟨?_, ?_⟩
      · refine SlotStep.below (PsR_up w D a b c d lo hi) (haI_up D n X a b lo hi hb) ?_
        intro ys W hR hd K hK
        have dd2 : ys 2 = (.bool true) := hd 2 (by kernel_rfl) (by decide)
        go_simp
        have hK2 := hK (.pointer (some ⟨D, 0, none⟩)) _ (Below.refl _ _) rfl
        simp (config := { decide := true }) only [upd, if_true, if_false, dd2] at hK2
        exact hK2
      refine ⟨?_, ?_⟩
      · refine SlotStep.below (PsR_up w D a b c d lo hi) (haI_up D n X a b lo hi hb) ?_
        intro ys W hR hd K hK
        have dd2 : ys 2 = (.bool true) := hd 2 (by kernel_rfl) (by decide)
        have dd6 : ys 6 = (.pointer (some ⟨D, 0, none⟩)) := hd 6 (by kernel_rfl) (by decide)
        have c0 := cell4_0 hR.2.1
        go_simp
        have hK2 := hK (.int .i64 a) _ (Below.refl _ _) rfl
        simp (config := { decide := true }) only [upd, if_true, if_false, dd2, dd6] at hK2
        exact hK2
      refine ⟨?_, ?_⟩
      · refine SlotStep.below (PsR_up w D a b c d lo hi) (haI_up D n X a b lo hi hb) ?_
        intro ys W hR hd K hK
        have dd2 : ys 2 = (.bool true) := hd 2 (by kernel_rfl) (by decide)
        go_simp
        have hK2 := hK (.pointer (some ⟨D, 1, none⟩)) _ (Below.refl _ _) rfl
        simp (config := { decide := true }) only [upd, if_true, if_false, dd2] at hK2
        exact hK2
      refine ⟨?_, ?_⟩
      · refine SlotStep.below (PsR_up w D a b c d lo hi) (haI_up D n X a b lo hi hb) ?_
        intro ys W hR hd K hK
        have dd2 : ys 2 = (.bool true) := hd 2 (by kernel_rfl) (by decide)
        have dd8 : ys 8 = (.pointer (some ⟨D, 1, none⟩)) := hd 8 (by kernel_rfl) (by decide)
        have c1 := cell4_1 hR.2.1
        go_simp
        have hK2 := hK (.int .i64 b) _ (Below.refl _ _) rfl
        simp (config := { decide := true }) only [upd, if_true, if_false, dd2, dd8] at hK2
        exact hK2
      refine ⟨?_, ?_⟩
      · refine SlotStep.below (PsR_up w D a b c d lo hi) (haI_up D n X a b lo hi hb) ?_
        intro ys W hR hd K hK
        have dd2 : ys 2 = (.bool true) := hd 2 (by kernel_rfl) (by decide)
        have dd7 : ys 7 = (.int .i64 a) := hd 7 (by kernel_rfl) (by decide)
        have dd9 : ys 9 = (.int .i64 b) := hd 9 (by kernel_rfl) (by decide)
        have l5 : Lst W (ys 5) n X := hd 5 (by kernel_rfl) (by decide)
        go_simp
        refine (HO.out (ys 5) W l5).mono ?_
        rintro e w5 ⟨rfl, hb5⟩
        have hK2 := hK (.bool hb) _ hb5 rfl
        simp (config := { decide := true }) only [upd, if_true, if_false, dd2, dd7, dd9] at hK2
        exact hK2
      refine ⟨?_, ?_⟩
      · refine SlotStep.below (PsR_up w D a b c d lo hi) (haI_up D n X a b lo hi hb) ?_
        intro ys W hR hd K hK
        have dd2 : ys 2 = (.bool true) := hd 2 (by kernel_rfl) (by decide)
        have dd3 : ys 3 = (.bool hb) := hd 3 (by kernel_rfl) (by decide)
        have dd10 : ys 10 = (.bool hb) := hd 10 (by kernel_rfl) (by decide)
        have hq : (hb == hb) = true := by simp
        go_simp
        have hK2 := hK (.bool true) _ (Below.refl _ _) rfl
        simp (config := { decide := true }) only [upd, if_true, if_false, dd2, dd3, dd10] at hK2
        exact hK2
      refine ⟨?_, ?_⟩
      · refine SlotStep.below (PsR_up w D a b c d lo hi) (haI_up D n X a b lo hi hb) ?_
        intro ys W hR hd K hK
        have dd2 : ys 2 = (.bool true) := hd 2 (by kernel_rfl) (by decide)
        have dd11 : ys 11 = (.bool true) := hd 11 (by kernel_rfl) (by decide)
        go_simp
        have hK2 := hK (.bool true) _ (Below.refl _ _) rfl
        simp (config := { decide := true }) only [upd, if_true, if_false, dd2, dd11] at hK2
        exact hK2
      refine ⟨?_, ?_⟩
      · refine SlotStep.below (PsR_up w D a b c d lo hi) (haI_up D n X a b lo hi hb) ?_
        intro ys W hR hd K hK
        have dd12 : ys 12 = (.bool true) := hd 12 (by kernel_rfl) (by decide)
        go_simp
        have hK2 := hK (.bool true) _ (Below.refl _ _) rfl
        simp (config := { decide := true }) only [upd, if_true, if_false, dd12] at hK2
        exact hK2
      trivial
      · intro L5 ys5 W5 hL5 hI5
        obtain ⟨hR5, hj5⟩ := hI5
        have y : ys5 13 = .bool true := hj5 13 (by decide) (hL5 13 (by decide))
        have HW := Lib.hid hR5.1
        clear hR5 hj5 hL5
        simp only [y]
        go_wp2
        go_ret
        exact ⟨rfl, by first | exact HW.out | (rw [← hD]; exact HW.out)⟩
  · rw [chk_ne a b c d hx] at CH
    clear hx one
    go_enter Tryd.func4, Tryd.ntmps4
    have G1 : Gl ((w.alloc (.cells #[.int .i64 a, .int .i64 b, .int .i64 c, .int .i64 d] 23)).alloc (.cells #[.int .u64 lo, .int .u64 hi] 26)) := G.below (by rw [hD]; exact (((Below.refl _ w).alloc (by first | omega | (simp; omega)) (.cells #[.int .i64 a, .int .i64 b, .int .i64 c, .int .i64 d] 23)).alloc (by first | omega | (simp; omega)) (.cells #[.int .u64 lo, .int .u64 hi] 26)))
    go_wp2_with fail
    refine (KN.out _ G1).mono ?_
    rintro e v1 ⟨rfl, hb_v1⟩
    have cP_v1 : v1.heap[D]? = some (.cells #[.int .i64 a, .int .i64 b, .int .i64 c, .int .i64 d] 23) := (hb_v1.block (D) (Array.getElem?_eq_some_iff.1 (show ((w.alloc (.cells #[.int .i64 a, .int .i64 b, .int .i64 c, .int .i64 d] 23)).alloc (.cells #[.int .u64 lo, .int .u64 hi] 26)).heap[D]? = some (.cells #[.int .i64 a, .int .i64 b, .int .i64 c, .int .i64 d] 23) from (heap_old (o := .cells #[.int .u64 lo, .int .u64 hi] 26) (heap_new (by first | omega | (simp; omega)))))).1).trans (heap_old (o := .cells #[.int .u64 lo, .int .u64 hi] 26) (heap_new (by first | omega | (simp; omega))))
    have cS_v1 : v1.heap[D + 1]? = some (.cells #[.int .u64 lo, .int .u64 hi] 26) := (hb_v1.block (D + 1) (Array.getElem?_eq_some_iff.1 (show ((w.alloc (.cells #[.int .i64 a, .int .i64 b, .int .i64 c, .int .i64 d] 23)).alloc (.cells #[.int .u64 lo, .int .u64 hi] 26)).heap[D + 1]? = some (.cells #[.int .u64 lo, .int .u64 hi] 26) from (heap_new (by first | omega | (simp; omega))))).1).trans (heap_new (by first | omega | (simp; omega)))
    have hw_v1 : Below D w v1 := ((((Below.refl _ w).alloc (by first | omega | (simp; omega)) (.cells #[.int .i64 a, .int .i64 b, .int .i64 c, .int .i64 d] 23)).alloc (by first | omega | (simp; omega)) (.cells #[.int .u64 lo, .int .u64 hi] 26))).trans (hb_v1.mono (by first | omega | (simp; omega)))
    clear hb_v1
    have ld2 : v1.heap[D]? = some (.cells #[.int .i64 a, .int .i64 b, .int .i64 c, .int .i64 d] 23) := cP_v1
    have y2_0 := cell4_0 ld2
    have y2_1 := cell4_1 ld2
    have y2_2 := cell4_2 ld2
    have y2_3 := cell4_3 ld2
    clear ld2
    go_wp2_with fail
    refine (CH.out _).mono ?_
    rintro e v3 ⟨rfl, hb_v3⟩
    have hs_v3 := hw_v1.size
    have cP_v3 : v3.heap[D]? = some (.cells #[.int .i64 a, .int .i64 b, .int .i64 c, .int .i64 d] 23) := (hb_v3.block (D) (Array.getElem?_eq_some_iff.1 (show v1.heap[D]? = some (.cells #[.int .i64 a, .int .i64 b, .int .i64 c, .int .i64 d] 23) from cP_v1)).1).trans cP_v1
    have cS_v3 : v3.heap[D + 1]? = some (.cells #[.int .u64 lo, .int .u64 hi] 26) := (hb_v3.block (D + 1) (Array.getElem?_eq_some_iff.1 (show v1.heap[D + 1]? = some (.cells #[.int .u64 lo, .int .u64 hi] 26) from cS_v1)).1).trans cS_v1
    have hw_v3 : Below D w v3 := (hw_v1).trans (hb_v3.mono (by first | omega | (simp; omega)))
    clear cP_v1 cS_v1 hb_v3 y2_0 y2_1 y2_2 y2_3 hw_v1 hs_v3
    have G2 : Gl v3 := G.below (by rw [hD]; exact hw_v3)
    go_wp2_with fail
    refine (KN.out _ G2).mono ?_
    rintro e v4 ⟨rfl, hb_v4⟩
    have hs_v4 := hw_v3.size
    have cP_v4 : v4.heap[D]? = some (.cells #[.int .i64 a, .int .i64 b, .int .i64 c, .int .i64 d] 23) := (hb_v4.block (D) (Array.getElem?_eq_some_iff.1 (show v3.heap[D]? = some (.cells #[.int .i64 a, .int .i64 b, .int .i64 c, .int .i64 d] 23) from cP_v3)).1).trans cP_v3
    have cS_v4 : v4.heap[D + 1]? = some (.cells #[.int .u64 lo, .int .u64 hi] 26) := (hb_v4.block (D + 1) (Array.getElem?_eq_some_iff.1 (show v3.heap[D + 1]? = some (.cells #[.int .u64 lo, .int .u64 hi] 26) from cS_v3)).1).trans cS_v3
    have hw_v4 : Below D w v4 := (hw_v3).trans (hb_v4.mono (by first | omega | (simp; omega)))
    clear cP_v3 cS_v3 hb_v4 hw_v3 hs_v4
    have HW := Lib.hid (hw_v4)
    clear KN CH LI HO
    go_wp2
    go_ret
    exact ⟨rfl, by first | exact HW.out | (rw [hD]; exact HW.out)⟩
set_option maxRecDepth 100000 in
set_option maxHeartbeats 8000000 in
theorem errors_walk (a b c d : Int) (lo hi : Nat) (w : World) (G : Gl w) (kn : KnB Tryd.prog 12)
    (ch : ∀ W, Gl W → Calls Tryd.prog 14 #[.agg #[.int .i64 a, .int .i64 b, .int .i64 c, .int .i64 d]] W fun e w' => e = .returned (.int .i64 (chk a b c d)) ∧ Below W.heap.size W w')
    (one : chk a b c d ≠ 0 → ∀ W, Gl W → Calls Tryd.prog 15 #[.agg #[.int .i64 a, .int .i64 b, .int .i64 c, .int .i64 d], .agg #[.int .u64 lo, .int .u64 hi]] W fun e w' => e = .returned (.tuple #[.bool false, .int .i64 3]) ∧ Below W.heap.size W w')
    (feet : chk a b c d ≠ 0 → ∀ B, ∀ W, Gl W → Calls Tryd.prog 16 #[.agg #[.int .i64 a, .int .i64 b, .int .i64 c, .int .i64 d], .slice (some ⟨B, 0, none⟩) 1 1] W fun e w' => e = .returned (.tuple #[.bool false, .int .i64 3]) ∧ Below W.heap.size W w')
    (two : chk a b c d ≠ 0 → ∀ W, Gl W → Calls Tryd.prog 17 #[.agg #[.int .i64 a, .int .i64 b, .int .i64 c, .int .i64 d], .agg #[.int .u64 lo, .int .u64 hi]] W fun e w' => e = .returned (.tuple #[.agg #[.int .u64 0, .int .u64 0], .agg #[.int .u64 0, .int .u64 0], .bool false, .int .i64 3]) ∧ Below W.heap.size W w')
    (all : chk a b c d ≠ 0 → ∀ W, Gl W → Calls Tryd.prog 18 #[.agg #[.int .i64 a, .int .i64 b, .int .i64 c, .int .i64 d], .agg #[.int .u64 lo, .int .u64 hi]] W fun e w' => e = .returned (.tuple #[.slice none 0 0, .int .i64 3]) ∧ Below W.heap.size W w')
    (least : chk a b c d ≠ 0 → ∀ W, Gl W → Calls Tryd.prog 19 #[.agg #[.int .i64 a, .int .i64 b, .int .i64 c, .int .i64 d], .agg #[.int .u64 lo, .int .u64 hi]] W fun e w' => e = .returned (.tuple #[.int .i64 0, .bool false, .int .i64 3]) ∧ Below W.heap.size W w')
    (poss : chk a b c d ≠ 0 → ∀ W, Gl W → Calls Tryd.prog 20 #[.agg #[.int .i64 a, .int .i64 b, .int .i64 c, .int .i64 d], .slice none 0 0, .slice none 0 0] W fun e w' => e = .returned (.tuple #[.bool false, .int .i64 3]) ∧ Below W.heap.size W w')
    (count : chk a b c d ≠ 0 → ∀ W, Gl W → Calls Tryd.prog 21 #[.agg #[.int .i64 a, .int .i64 b, .int .i64 c, .int .i64 d], .agg #[.int .i64 0, .int .i64 0]] W fun e w' => e = .returned (.tuple #[.int .i64 0, .int .i64 3]) ∧ Below W.heap.size W w') :
    Calls Tryd.prog 3 #[.agg #[.int .i64 a, .int .i64 b, .int .i64 c, .int .i64 d], .agg #[.int .u64 lo, .int .u64 hi]] w fun e w' => e = .returned (.bool true) ∧ Below w.heap.size w w' := by
  have KN := Lib.hid kn
  have SC := Lib.hid ch
  have CH := Lib.hid (fun W => chkp_any a b c d W)
  obtain ⟨D, hD⟩ : ∃ D, w.heap.size = D := ⟨_, rfl⟩
  clear kn ch
  by_cases hx : chk a b c d = 0
  · rw [hx] at CH SC
    clear hx one feet two all least poss count
    go_enter Tryd.func3, Tryd.ntmps3
    have G1 : Gl ((w.alloc (.cells #[.int .i64 a, .int .i64 b, .int .i64 c, .int .i64 d] 23)).alloc (.cells #[.int .u64 lo, .int .u64 hi] 26)) := G.below (by rw [hD]; exact (((Below.refl _ w).alloc (by first | omega | (simp; omega)) (.cells #[.int .i64 a, .int .i64 b, .int .i64 c, .int .i64 d] 23)).alloc (by first | omega | (simp; omega)) (.cells #[.int .u64 lo, .int .u64 hi] 26)))
    go_wp2_with fail
    refine (KN.out _ G1).mono ?_
    rintro e v1 ⟨rfl, hb_v1⟩
    have cP_v1 : v1.heap[D]? = some (.cells #[.int .i64 a, .int .i64 b, .int .i64 c, .int .i64 d] 23) := (hb_v1.block (D) (Array.getElem?_eq_some_iff.1 (show ((w.alloc (.cells #[.int .i64 a, .int .i64 b, .int .i64 c, .int .i64 d] 23)).alloc (.cells #[.int .u64 lo, .int .u64 hi] 26)).heap[D]? = some (.cells #[.int .i64 a, .int .i64 b, .int .i64 c, .int .i64 d] 23) from (heap_old (o := .cells #[.int .u64 lo, .int .u64 hi] 26) (heap_new (by first | omega | (simp; omega)))))).1).trans (heap_old (o := .cells #[.int .u64 lo, .int .u64 hi] 26) (heap_new (by first | omega | (simp; omega))))
    have cS_v1 : v1.heap[D + 1]? = some (.cells #[.int .u64 lo, .int .u64 hi] 26) := (hb_v1.block (D + 1) (Array.getElem?_eq_some_iff.1 (show ((w.alloc (.cells #[.int .i64 a, .int .i64 b, .int .i64 c, .int .i64 d] 23)).alloc (.cells #[.int .u64 lo, .int .u64 hi] 26)).heap[D + 1]? = some (.cells #[.int .u64 lo, .int .u64 hi] 26) from (heap_new (by first | omega | (simp; omega))))).1).trans (heap_new (by first | omega | (simp; omega)))
    have hw_v1 : Below D w v1 := ((((Below.refl _ w).alloc (by first | omega | (simp; omega)) (.cells #[.int .i64 a, .int .i64 b, .int .i64 c, .int .i64 d] 23)).alloc (by first | omega | (simp; omega)) (.cells #[.int .u64 lo, .int .u64 hi] 26))).trans (hb_v1.mono (by first | omega | (simp; omega)))
    clear hb_v1
    have ld2 : v1.heap[D]? = some (.cells #[.int .i64 a, .int .i64 b, .int .i64 c, .int .i64 d] 23) := cP_v1
    have y2_0 := cell4_0 ld2
    have y2_1 := cell4_1 ld2
    have y2_2 := cell4_2 ld2
    have y2_3 := cell4_3 ld2
    clear ld2
    go_wp2_with fail
    refine (CH.out _).mono ?_
    rintro e v3 ⟨rfl, hb_v3⟩
    have hs_v3 := hw_v1.size
    have cP_v3 : v3.heap[D]? = some (.cells #[.int .i64 a, .int .i64 b, .int .i64 c, .int .i64 d] 23) := (hb_v3.block (D) (Array.getElem?_eq_some_iff.1 (show v1.heap[D]? = some (.cells #[.int .i64 a, .int .i64 b, .int .i64 c, .int .i64 d] 23) from cP_v1)).1).trans cP_v1
    have cS_v3 : v3.heap[D + 1]? = some (.cells #[.int .u64 lo, .int .u64 hi] 26) := (hb_v3.block (D + 1) (Array.getElem?_eq_some_iff.1 (show v1.heap[D + 1]? = some (.cells #[.int .u64 lo, .int .u64 hi] 26) from cS_v1)).1).trans cS_v1
    have hw_v3 : Below D w v3 := (hw_v1).trans (hb_v3.mono (by first | omega | (simp; omega)))
    clear cP_v1 cS_v1 hb_v3 y2_0 y2_1 y2_2 y2_3 hw_v1 hs_v3
    have G2 : Gl v3 := G.below (by rw [hD]; exact hw_v3)
    have ld4 : v3.heap[D]? = some (.cells #[.int .i64 a, .int .i64 b, .int .i64 c, .int .i64 d] 23) := cP_v3
    have y4_0 := cell4_0 ld4
    have y4_1 := cell4_1 ld4
    have y4_2 := cell4_2 ld4
    have y4_3 := cell4_3 ld4
    clear ld4
    go_wp2_with fail
    refine (SC.out _ G2).mono ?_
    rintro e v5 ⟨rfl, hb_v5⟩
    have hs_v5 := hw_v3.size
    have cP_v5 : v5.heap[D]? = some (.cells #[.int .i64 a, .int .i64 b, .int .i64 c, .int .i64 d] 23) := (hb_v5.block (D) (Array.getElem?_eq_some_iff.1 (show v3.heap[D]? = some (.cells #[.int .i64 a, .int .i64 b, .int .i64 c, .int .i64 d] 23) from cP_v3)).1).trans cP_v3
    have cS_v5 : v5.heap[D + 1]? = some (.cells #[.int .u64 lo, .int .u64 hi] 26) := (hb_v5.block (D + 1) (Array.getElem?_eq_some_iff.1 (show v3.heap[D + 1]? = some (.cells #[.int .u64 lo, .int .u64 hi] 26) from cS_v3)).1).trans cS_v3
    have hw_v5 : Below D w v5 := (hw_v3).trans (hb_v5.mono (by first | omega | (simp; omega)))
    clear cP_v3 cS_v3 hb_v5 y4_0 y4_1 y4_2 y4_3 hw_v3 hs_v5
    have HW := Lib.hid (hw_v5)
    clear KN CH SC
    go_wp2
    go_ret
    exact ⟨rfl, by first | exact HW.out | (rw [hD]; exact HW.out)⟩
  · have ON := Lib.hid (one hx)
    have FE := Lib.hid (feet hx)
    have TW := Lib.hid (two hx)
    have AL := Lib.hid (all hx)
    have LE := Lib.hid (least hx)
    have PO := Lib.hid (poss hx)
    have CO := Lib.hid (count hx)
    rw [chk_ne a b c d hx] at CH SC
    clear hx one feet two all least poss count
    have hez : ∀ W : World, (binOp .neq 26 (.agg #[.int .u64 0, .int .u64 0]) (.agg #[.int .u64 0, .int .u64 0])).run Tryd.prog W = .ok (.bool false) W := fun W => by simp [go_sem]
    go_enter Tryd.func3, Tryd.ntmps3
    have G1 : Gl ((w.alloc (.cells #[.int .i64 a, .int .i64 b, .int .i64 c, .int .i64 d] 23)).alloc (.cells #[.int .u64 lo, .int .u64 hi] 26)) := G.below (by rw [hD]; exact (((Below.refl _ w).alloc (by first | omega | (simp; omega)) (.cells #[.int .i64 a, .int .i64 b, .int .i64 c, .int .i64 d] 23)).alloc (by first | omega | (simp; omega)) (.cells #[.int .u64 lo, .int .u64 hi] 26)))
    go_wp2_with fail
    refine (KN.out _ G1).mono ?_
    rintro e v1 ⟨rfl, hb_v1⟩
    have cP_v1 : v1.heap[D]? = some (.cells #[.int .i64 a, .int .i64 b, .int .i64 c, .int .i64 d] 23) := (hb_v1.block (D) (Array.getElem?_eq_some_iff.1 (show ((w.alloc (.cells #[.int .i64 a, .int .i64 b, .int .i64 c, .int .i64 d] 23)).alloc (.cells #[.int .u64 lo, .int .u64 hi] 26)).heap[D]? = some (.cells #[.int .i64 a, .int .i64 b, .int .i64 c, .int .i64 d] 23) from (heap_old (o := .cells #[.int .u64 lo, .int .u64 hi] 26) (heap_new (by first | omega | (simp; omega)))))).1).trans (heap_old (o := .cells #[.int .u64 lo, .int .u64 hi] 26) (heap_new (by first | omega | (simp; omega))))
    have cS_v1 : v1.heap[D + 1]? = some (.cells #[.int .u64 lo, .int .u64 hi] 26) := (hb_v1.block (D + 1) (Array.getElem?_eq_some_iff.1 (show ((w.alloc (.cells #[.int .i64 a, .int .i64 b, .int .i64 c, .int .i64 d] 23)).alloc (.cells #[.int .u64 lo, .int .u64 hi] 26)).heap[D + 1]? = some (.cells #[.int .u64 lo, .int .u64 hi] 26) from (heap_new (by first | omega | (simp; omega))))).1).trans (heap_new (by first | omega | (simp; omega)))
    have hw_v1 : Below D w v1 := ((((Below.refl _ w).alloc (by first | omega | (simp; omega)) (.cells #[.int .i64 a, .int .i64 b, .int .i64 c, .int .i64 d] 23)).alloc (by first | omega | (simp; omega)) (.cells #[.int .u64 lo, .int .u64 hi] 26))).trans (hb_v1.mono (by first | omega | (simp; omega)))
    clear hb_v1
    have ld2 : v1.heap[D]? = some (.cells #[.int .i64 a, .int .i64 b, .int .i64 c, .int .i64 d] 23) := cP_v1
    have y2_0 := cell4_0 ld2
    have y2_1 := cell4_1 ld2
    have y2_2 := cell4_2 ld2
    have y2_3 := cell4_3 ld2
    clear ld2
    go_wp2_with fail
    refine (CH.out _).mono ?_
    rintro e v3 ⟨rfl, hb_v3⟩
    have hs_v3 := hw_v1.size
    have cP_v3 : v3.heap[D]? = some (.cells #[.int .i64 a, .int .i64 b, .int .i64 c, .int .i64 d] 23) := (hb_v3.block (D) (Array.getElem?_eq_some_iff.1 (show v1.heap[D]? = some (.cells #[.int .i64 a, .int .i64 b, .int .i64 c, .int .i64 d] 23) from cP_v1)).1).trans cP_v1
    have cS_v3 : v3.heap[D + 1]? = some (.cells #[.int .u64 lo, .int .u64 hi] 26) := (hb_v3.block (D + 1) (Array.getElem?_eq_some_iff.1 (show v1.heap[D + 1]? = some (.cells #[.int .u64 lo, .int .u64 hi] 26) from cS_v1)).1).trans cS_v1
    have hw_v3 : Below D w v3 := (hw_v1).trans (hb_v3.mono (by first | omega | (simp; omega)))
    clear cP_v1 cS_v1 hb_v3 y2_0 y2_1 y2_2 y2_3 hw_v1 hs_v3
    have G2 : Gl v3 := G.below (by rw [hD]; exact hw_v3)
    have ld4 : v3.heap[D]? = some (.cells #[.int .i64 a, .int .i64 b, .int .i64 c, .int .i64 d] 23) := cP_v3
    have y4_0 := cell4_0 ld4
    have y4_1 := cell4_1 ld4
    have y4_2 := cell4_2 ld4
    have y4_3 := cell4_3 ld4
    clear ld4
    go_wp2_with fail
    refine (SC.out _ G2).mono ?_
    rintro e v5 ⟨rfl, hb_v5⟩
    have hs_v5 := hw_v3.size
    have cP_v5 : v5.heap[D]? = some (.cells #[.int .i64 a, .int .i64 b, .int .i64 c, .int .i64 d] 23) := (hb_v5.block (D) (Array.getElem?_eq_some_iff.1 (show v3.heap[D]? = some (.cells #[.int .i64 a, .int .i64 b, .int .i64 c, .int .i64 d] 23) from cP_v3)).1).trans cP_v3
    have cS_v5 : v5.heap[D + 1]? = some (.cells #[.int .u64 lo, .int .u64 hi] 26) := (hb_v5.block (D + 1) (Array.getElem?_eq_some_iff.1 (show v3.heap[D + 1]? = some (.cells #[.int .u64 lo, .int .u64 hi] 26) from cS_v3)).1).trans cS_v3
    have hw_v5 : Below D w v5 := (hw_v3).trans (hb_v5.mono (by first | omega | (simp; omega)))
    clear cP_v3 cS_v3 hb_v5 y4_0 y4_1 y4_2 y4_3 hw_v3 hs_v5
    have G3 : Gl v5 := G.below (by rw [hD]; exact hw_v5)
    have ld6 : v5.heap[D]? = some (.cells #[.int .i64 a, .int .i64 b, .int .i64 c, .int .i64 d] 23) := cP_v5
    have y6_0 := cell4_0 ld6
    have y6_1 := cell4_1 ld6
    have y6_2 := cell4_2 ld6
    have y6_3 := cell4_3 ld6
    clear ld6
    have ld7 : v5.heap[D + 1]? = some (.cells #[.int .u64 lo, .int .u64 hi] 26) := cS_v5
    have y7_0 := cell2_0 ld7
    have y7_1 := cell2_1 ld7
    clear ld7
    go_wp2_with fail
    refine (ON.out _ G3).mono ?_
    rintro e v8 ⟨rfl, hb_v8⟩
    have hs_v8 := hw_v5.size
    have cP_v8 : v8.heap[D]? = some (.cells #[.int .i64 a, .int .i64 b, .int .i64 c, .int .i64 d] 23) := (hb_v8.block (D) (Array.getElem?_eq_some_iff.1 (show v5.heap[D]? = some (.cells #[.int .i64 a, .int .i64 b, .int .i64 c, .int .i64 d] 23) from cP_v5)).1).trans cP_v5
    have cS_v8 : v8.heap[D + 1]? = some (.cells #[.int .u64 lo, .int .u64 hi] 26) := (hb_v8.block (D + 1) (Array.getElem?_eq_some_iff.1 (show v5.heap[D + 1]? = some (.cells #[.int .u64 lo, .int .u64 hi] 26) from cS_v5)).1).trans cS_v5
    have hw_v8 : Below D w v8 := (hw_v5).trans (hb_v8.mono (by first | omega | (simp; omega)))
    clear cP_v5 cS_v5 hb_v8 y6_0 y6_1 y6_2 y6_3 y7_0 y7_1 hw_v5 hs_v8
    have ld9 : v8.heap[D]? = some (.cells #[.int .i64 a, .int .i64 b, .int .i64 c, .int .i64 d] 23) := cP_v8
    have y9_0 := cell4_0 ld9
    have y9_1 := cell4_1 ld9
    have y9_2 := cell4_2 ld9
    have y9_3 := cell4_3 ld9
    clear ld9
    have ld10 : v8.heap[D + 1]? = some (.cells #[.int .u64 lo, .int .u64 hi] 26) := cS_v8
    have y10_0 := cell2_0 ld10
    have y10_1 := cell2_1 ld10
    clear ld10
    obtain ⟨ELS, hELS⟩ : ∃ E, v8.heap.size = E := ⟨_, rfl⟩
    have G4 : Gl (v8.alloc (.cells #[.int .u64 lo, .int .u64 hi] 26)) := G.below (by rw [hD]; exact (hw_v8.alloc (by have := hw_v8.size; first | omega | (simp; omega)) (.cells #[.int .u64 lo, .int .u64 hi] 26)))
    go_wp2_with fail
    refine (FE.out _ _ G4).mono ?_
    rintro e v11 ⟨rfl, hb_v11⟩
    have hs_v11 := hw_v8.size
    have cP_v11 : v11.heap[D]? = some (.cells #[.int .i64 a, .int .i64 b, .int .i64 c, .int .i64 d] 23) := (hb_v11.block (D) (Array.getElem?_eq_some_iff.1 (show (v8.alloc (.cells #[.int .u64 lo, .int .u64 hi] 26)).heap[D]? = some (.cells #[.int .i64 a, .int .i64 b, .int .i64 c, .int .i64 d] 23) from (heap_old (o := .cells #[.int .u64 lo, .int .u64 hi] 26) cP_v8))).1).trans (heap_old (o := .cells #[.int .u64 lo, .int .u64 hi] 26) cP_v8)
    have cS_v11 : v11.heap[D + 1]? = some (.cells #[.int .u64 lo, .int .u64 hi] 26) := (hb_v11.block (D + 1) (Array.getElem?_eq_some_iff.1 (show (v8.alloc (.cells #[.int .u64 lo, .int .u64 hi] 26)).heap[D + 1]? = some (.cells #[.int .u64 lo, .int .u64 hi] 26) from (heap_old (o := .cells #[.int .u64 lo, .int .u64 hi] 26) cS_v8))).1).trans (heap_old (o := .cells #[.int .u64 lo, .int .u64 hi] 26) cS_v8)
    have cLS_v11 : v11.heap[ELS]? = some (.cells #[.int .u64 lo, .int .u64 hi] 26) := (hb_v11.block (ELS) (Array.getElem?_eq_some_iff.1 (show (v8.alloc (.cells #[.int .u64 lo, .int .u64 hi] 26)).heap[ELS]? = some (.cells #[.int .u64 lo, .int .u64 hi] 26) from (heap_new (by first | omega | (simp; omega))))).1).trans (heap_new (by first | omega | (simp; omega)))
    have hw_v11 : Below D w v11 := ((hw_v8.alloc (by have := hw_v8.size; first | omega | (simp; omega)) (.cells #[.int .u64 lo, .int .u64 hi] 26))).trans (hb_v11.mono (by first | omega | (simp; omega)))
    clear cP_v8 cS_v8 hb_v11 y9_0 y9_1 y9_2 y9_3 y10_0 y10_1 hw_v8 hs_v11
    have G5 : Gl v11 := G.below (by rw [hD]; exact hw_v11)
    have ld12 : v11.heap[D]? = some (.cells #[.int .i64 a, .int .i64 b, .int .i64 c, .int .i64 d] 23) := cP_v11
    have y12_0 := cell4_0 ld12
    have y12_1 := cell4_1 ld12
    have y12_2 := cell4_2 ld12
    have y12_3 := cell4_3 ld12
    clear ld12
    have ld13 : v11.heap[D + 1]? = some (.cells #[.int .u64 lo, .int .u64 hi] 26) := cS_v11
    have y13_0 := cell2_0 ld13
    have y13_1 := cell2_1 ld13
    clear ld13
    go_wp2_with fail
    refine (TW.out _ G5).mono ?_
    rintro e v14 ⟨rfl, hb_v14⟩
    have hs_v14 := hw_v11.size
    have cP_v14 : v14.heap[D]? = some (.cells #[.int .i64 a, .int .i64 b, .int .i64 c, .int .i64 d] 23) := (hb_v14.block (D) (Array.getElem?_eq_some_iff.1 (show v11.heap[D]? = some (.cells #[.int .i64 a, .int .i64 b, .int .i64 c, .int .i64 d] 23) from cP_v11)).1).trans cP_v11
    have cS_v14 : v14.heap[D + 1]? = some (.cells #[.int .u64 lo, .int .u64 hi] 26) := (hb_v14.block (D + 1) (Array.getElem?_eq_some_iff.1 (show v11.heap[D + 1]? = some (.cells #[.int .u64 lo, .int .u64 hi] 26) from cS_v11)).1).trans cS_v11
    have cLS_v14 : v14.heap[ELS]? = some (.cells #[.int .u64 lo, .int .u64 hi] 26) := (hb_v14.block (ELS) (Array.getElem?_eq_some_iff.1 (show v11.heap[ELS]? = some (.cells #[.int .u64 lo, .int .u64 hi] 26) from cLS_v11)).1).trans cLS_v11
    have hw_v14 : Below D w v14 := (hw_v11).trans (hb_v14.mono (by first | omega | (simp; omega)))
    clear cP_v11 cS_v11 cLS_v11 hb_v14 y12_0 y12_1 y12_2 y12_3 y13_0 y13_1 hw_v11 hs_v14
    obtain ⟨ELz, hELz⟩ : ∃ E, v14.heap.size = E := ⟨_, rfl⟩
    have G6 : Gl ((v14.alloc (.cells #[.int .u64 0, .int .u64 0] 26)).alloc (.cells #[.int .u64 0, .int .u64 0] 26)) := G.below (by rw [hD]; exact ((hw_v14.alloc (by have := hw_v14.size; first | omega | (simp; omega)) (.cells #[.int .u64 0, .int .u64 0] 26)).alloc (by have := hw_v14.size; first | omega | (simp; omega)) (.cells #[.int .u64 0, .int .u64 0] 26)))
    have ld15 : ((v14.alloc (.cells #[.int .u64 0, .int .u64 0] 26)).alloc (.cells #[.int .u64 0, .int .u64 0] 26)).heap[D]? = some (.cells #[.int .i64 a, .int .i64 b, .int .i64 c, .int .i64 d] 23) := (heap_old (o := .cells #[.int .u64 0, .int .u64 0] 26) (heap_old (o := .cells #[.int .u64 0, .int .u64 0] 26) cP_v14))
    have y15_0 := cell4_0 ld15
    have y15_1 := cell4_1 ld15
    have y15_2 := cell4_2 ld15
    have y15_3 := cell4_3 ld15
    clear ld15
    have ld16 : ((v14.alloc (.cells #[.int .u64 0, .int .u64 0] 26)).alloc (.cells #[.int .u64 0, .int .u64 0] 26)).heap[D + 1]? = some (.cells #[.int .u64 lo, .int .u64 hi] 26) := (heap_old (o := .cells #[.int .u64 0, .int .u64 0] 26) (heap_old (o := .cells #[.int .u64 0, .int .u64 0] 26) cS_v14))
    have y16_0 := cell2_0 ld16
    have y16_1 := cell2_1 ld16
    clear ld16
    go_wp2_with fail
    refine (AL.out _ G6).mono ?_
    rintro e v17 ⟨rfl, hb_v17⟩
    have hs_v17 := hw_v14.size
    have cP_v17 : v17.heap[D]? = some (.cells #[.int .i64 a, .int .i64 b, .int .i64 c, .int .i64 d] 23) := (hb_v17.block (D) (Array.getElem?_eq_some_iff.1 (show ((v14.alloc (.cells #[.int .u64 0, .int .u64 0] 26)).alloc (.cells #[.int .u64 0, .int .u64 0] 26)).heap[D]? = some (.cells #[.int .i64 a, .int .i64 b, .int .i64 c, .int .i64 d] 23) from (heap_old (o := .cells #[.int .u64 0, .int .u64 0] 26) (heap_old (o := .cells #[.int .u64 0, .int .u64 0] 26) cP_v14)))).1).trans (heap_old (o := .cells #[.int .u64 0, .int .u64 0] 26) (heap_old (o := .cells #[.int .u64 0, .int .u64 0] 26) cP_v14))
    have cS_v17 : v17.heap[D + 1]? = some (.cells #[.int .u64 lo, .int .u64 hi] 26) := (hb_v17.block (D + 1) (Array.getElem?_eq_some_iff.1 (show ((v14.alloc (.cells #[.int .u64 0, .int .u64 0] 26)).alloc (.cells #[.int .u64 0, .int .u64 0] 26)).heap[D + 1]? = some (.cells #[.int .u64 lo, .int .u64 hi] 26) from (heap_old (o := .cells #[.int .u64 0, .int .u64 0] 26) (heap_old (o := .cells #[.int .u64 0, .int .u64 0] 26) cS_v14)))).1).trans (heap_old (o := .cells #[.int .u64 0, .int .u64 0] 26) (heap_old (o := .cells #[.int .u64 0, .int .u64 0] 26) cS_v14))
    have cLS_v17 : v17.heap[ELS]? = some (.cells #[.int .u64 lo, .int .u64 hi] 26) := (hb_v17.block (ELS) (Array.getElem?_eq_some_iff.1 (show ((v14.alloc (.cells #[.int .u64 0, .int .u64 0] 26)).alloc (.cells #[.int .u64 0, .int .u64 0] 26)).heap[ELS]? = some (.cells #[.int .u64 lo, .int .u64 hi] 26) from (heap_old (o := .cells #[.int .u64 0, .int .u64 0] 26) (heap_old (o := .cells #[.int .u64 0, .int .u64 0] 26) cLS_v14)))).1).trans (heap_old (o := .cells #[.int .u64 0, .int .u64 0] 26) (heap_old (o := .cells #[.int .u64 0, .int .u64 0] 26) cLS_v14))
    have cLz_v17 : v17.heap[ELz]? = some (.cells #[.int .u64 0, .int .u64 0] 26) := (hb_v17.block (ELz) (Array.getElem?_eq_some_iff.1 (show ((v14.alloc (.cells #[.int .u64 0, .int .u64 0] 26)).alloc (.cells #[.int .u64 0, .int .u64 0] 26)).heap[ELz]? = some (.cells #[.int .u64 0, .int .u64 0] 26) from (heap_old (o := .cells #[.int .u64 0, .int .u64 0] 26) (heap_new (by first | omega | (simp; omega)))))).1).trans (heap_old (o := .cells #[.int .u64 0, .int .u64 0] 26) (heap_new (by first | omega | (simp; omega))))
    have cRz_v17 : v17.heap[ELz + 1]? = some (.cells #[.int .u64 0, .int .u64 0] 26) := (hb_v17.block (ELz + 1) (Array.getElem?_eq_some_iff.1 (show ((v14.alloc (.cells #[.int .u64 0, .int .u64 0] 26)).alloc (.cells #[.int .u64 0, .int .u64 0] 26)).heap[ELz + 1]? = some (.cells #[.int .u64 0, .int .u64 0] 26) from (heap_new (by first | omega | (simp; omega))))).1).trans (heap_new (by first | omega | (simp; omega)))
    have hw_v17 : Below D w v17 := (((hw_v14.alloc (by have := hw_v14.size; first | omega | (simp; omega)) (.cells #[.int .u64 0, .int .u64 0] 26)).alloc (by have := hw_v14.size; first | omega | (simp; omega)) (.cells #[.int .u64 0, .int .u64 0] 26))).trans (hb_v17.mono (by first | omega | (simp; omega)))
    clear cP_v14 cS_v14 cLS_v14 hb_v17 y15_0 y15_1 y15_2 y15_3 y16_0 y16_1 hw_v14 hs_v17
    have G7 : Gl v17 := G.below (by rw [hD]; exact hw_v17)
    have ld18 : v17.heap[D]? = some (.cells #[.int .i64 a, .int .i64 b, .int .i64 c, .int .i64 d] 23) := cP_v17
    have y18_0 := cell4_0 ld18
    have y18_1 := cell4_1 ld18
    have y18_2 := cell4_2 ld18
    have y18_3 := cell4_3 ld18
    clear ld18
    have ld19 : v17.heap[D + 1]? = some (.cells #[.int .u64 lo, .int .u64 hi] 26) := cS_v17
    have y19_0 := cell2_0 ld19
    have y19_1 := cell2_1 ld19
    clear ld19
    go_wp2_with fail
    refine (LE.out _ G7).mono ?_
    rintro e v20 ⟨rfl, hb_v20⟩
    have hs_v20 := hw_v17.size
    have cP_v20 : v20.heap[D]? = some (.cells #[.int .i64 a, .int .i64 b, .int .i64 c, .int .i64 d] 23) := (hb_v20.block (D) (Array.getElem?_eq_some_iff.1 (show v17.heap[D]? = some (.cells #[.int .i64 a, .int .i64 b, .int .i64 c, .int .i64 d] 23) from cP_v17)).1).trans cP_v17
    have cS_v20 : v20.heap[D + 1]? = some (.cells #[.int .u64 lo, .int .u64 hi] 26) := (hb_v20.block (D + 1) (Array.getElem?_eq_some_iff.1 (show v17.heap[D + 1]? = some (.cells #[.int .u64 lo, .int .u64 hi] 26) from cS_v17)).1).trans cS_v17
    have cLS_v20 : v20.heap[ELS]? = some (.cells #[.int .u64 lo, .int .u64 hi] 26) := (hb_v20.block (ELS) (Array.getElem?_eq_some_iff.1 (show v17.heap[ELS]? = some (.cells #[.int .u64 lo, .int .u64 hi] 26) from cLS_v17)).1).trans cLS_v17
    have cLz_v20 : v20.heap[ELz]? = some (.cells #[.int .u64 0, .int .u64 0] 26) := (hb_v20.block (ELz) (Array.getElem?_eq_some_iff.1 (show v17.heap[ELz]? = some (.cells #[.int .u64 0, .int .u64 0] 26) from cLz_v17)).1).trans cLz_v17
    have cRz_v20 : v20.heap[ELz + 1]? = some (.cells #[.int .u64 0, .int .u64 0] 26) := (hb_v20.block (ELz + 1) (Array.getElem?_eq_some_iff.1 (show v17.heap[ELz + 1]? = some (.cells #[.int .u64 0, .int .u64 0] 26) from cRz_v17)).1).trans cRz_v17
    have hw_v20 : Below D w v20 := (hw_v17).trans (hb_v20.mono (by first | omega | (simp; omega)))
    clear cP_v17 cS_v17 cLS_v17 cLz_v17 cRz_v17 hb_v20 y18_0 y18_1 y18_2 y18_3 y19_0 y19_1 hw_v17 hs_v20
    have G8 : Gl v20 := G.below (by rw [hD]; exact hw_v20)
    have ld21 : v20.heap[D]? = some (.cells #[.int .i64 a, .int .i64 b, .int .i64 c, .int .i64 d] 23) := cP_v20
    have y21_0 := cell4_0 ld21
    have y21_1 := cell4_1 ld21
    have y21_2 := cell4_2 ld21
    have y21_3 := cell4_3 ld21
    clear ld21
    go_wp2_with fail
    refine (PO.out _ G8).mono ?_
    rintro e v22 ⟨rfl, hb_v22⟩
    have hs_v22 := hw_v20.size
    have cP_v22 : v22.heap[D]? = some (.cells #[.int .i64 a, .int .i64 b, .int .i64 c, .int .i64 d] 23) := (hb_v22.block (D) (Array.getElem?_eq_some_iff.1 (show v20.heap[D]? = some (.cells #[.int .i64 a, .int .i64 b, .int .i64 c, .int .i64 d] 23) from cP_v20)).1).trans cP_v20
    have cS_v22 : v22.heap[D + 1]? = some (.cells #[.int .u64 lo, .int .u64 hi] 26) := (hb_v22.block (D + 1) (Array.getElem?_eq_some_iff.1 (show v20.heap[D + 1]? = some (.cells #[.int .u64 lo, .int .u64 hi] 26) from cS_v20)).1).trans cS_v20
    have cLS_v22 : v22.heap[ELS]? = some (.cells #[.int .u64 lo, .int .u64 hi] 26) := (hb_v22.block (ELS) (Array.getElem?_eq_some_iff.1 (show v20.heap[ELS]? = some (.cells #[.int .u64 lo, .int .u64 hi] 26) from cLS_v20)).1).trans cLS_v20
    have cLz_v22 : v22.heap[ELz]? = some (.cells #[.int .u64 0, .int .u64 0] 26) := (hb_v22.block (ELz) (Array.getElem?_eq_some_iff.1 (show v20.heap[ELz]? = some (.cells #[.int .u64 0, .int .u64 0] 26) from cLz_v20)).1).trans cLz_v20
    have cRz_v22 : v22.heap[ELz + 1]? = some (.cells #[.int .u64 0, .int .u64 0] 26) := (hb_v22.block (ELz + 1) (Array.getElem?_eq_some_iff.1 (show v20.heap[ELz + 1]? = some (.cells #[.int .u64 0, .int .u64 0] 26) from cRz_v20)).1).trans cRz_v20
    have hw_v22 : Below D w v22 := (hw_v20).trans (hb_v22.mono (by first | omega | (simp; omega)))
    clear cP_v20 cS_v20 cLS_v20 cLz_v20 cRz_v20 hb_v22 y21_0 y21_1 y21_2 y21_3 hw_v20 hs_v22
    have G9 : Gl v22 := G.below (by rw [hD]; exact hw_v22)
    have ld23 : v22.heap[D]? = some (.cells #[.int .i64 a, .int .i64 b, .int .i64 c, .int .i64 d] 23) := cP_v22
    have y23_0 := cell4_0 ld23
    have y23_1 := cell4_1 ld23
    have y23_2 := cell4_2 ld23
    have y23_3 := cell4_3 ld23
    clear ld23
    go_wp2_with fail
    refine (CO.out _ G9).mono ?_
    rintro e v24 ⟨rfl, hb_v24⟩
    have hs_v24 := hw_v22.size
    have cP_v24 : v24.heap[D]? = some (.cells #[.int .i64 a, .int .i64 b, .int .i64 c, .int .i64 d] 23) := (hb_v24.block (D) (Array.getElem?_eq_some_iff.1 (show v22.heap[D]? = some (.cells #[.int .i64 a, .int .i64 b, .int .i64 c, .int .i64 d] 23) from cP_v22)).1).trans cP_v22
    have cS_v24 : v24.heap[D + 1]? = some (.cells #[.int .u64 lo, .int .u64 hi] 26) := (hb_v24.block (D + 1) (Array.getElem?_eq_some_iff.1 (show v22.heap[D + 1]? = some (.cells #[.int .u64 lo, .int .u64 hi] 26) from cS_v22)).1).trans cS_v22
    have cLS_v24 : v24.heap[ELS]? = some (.cells #[.int .u64 lo, .int .u64 hi] 26) := (hb_v24.block (ELS) (Array.getElem?_eq_some_iff.1 (show v22.heap[ELS]? = some (.cells #[.int .u64 lo, .int .u64 hi] 26) from cLS_v22)).1).trans cLS_v22
    have cLz_v24 : v24.heap[ELz]? = some (.cells #[.int .u64 0, .int .u64 0] 26) := (hb_v24.block (ELz) (Array.getElem?_eq_some_iff.1 (show v22.heap[ELz]? = some (.cells #[.int .u64 0, .int .u64 0] 26) from cLz_v22)).1).trans cLz_v22
    have cRz_v24 : v24.heap[ELz + 1]? = some (.cells #[.int .u64 0, .int .u64 0] 26) := (hb_v24.block (ELz + 1) (Array.getElem?_eq_some_iff.1 (show v22.heap[ELz + 1]? = some (.cells #[.int .u64 0, .int .u64 0] 26) from cRz_v22)).1).trans cRz_v22
    have hw_v24 : Below D w v24 := (hw_v22).trans (hb_v24.mono (by first | omega | (simp; omega)))
    clear cP_v22 cS_v22 cLS_v22 cLz_v22 cRz_v22 hb_v24 y23_0 y23_1 y23_2 y23_3 hw_v22 hs_v24
    have HW := Lib.hid (hw_v24)
    have ld25 : v24.heap[ELz]? = some (.cells #[.int .u64 0, .int .u64 0] 26) := cLz_v24
    have y25_0 := cell2_0 ld25
    have y25_1 := cell2_1 ld25
    clear ld25
    have ld26 : v24.heap[ELz + 1]? = some (.cells #[.int .u64 0, .int .u64 0] 26) := cRz_v24
    have y26_0 := cell2_0 ld26
    have y26_1 := cell2_1 ld26
    clear ld26
    clear KN CH SC ON FE TW AL LE PO CO
    go_wp2
    go_ret
    exact ⟨rfl, by first | exact HW.out | (rw [hD]; exact HW.out)⟩
end Go.Proofs.YtinopmdefndhoaaDoor
