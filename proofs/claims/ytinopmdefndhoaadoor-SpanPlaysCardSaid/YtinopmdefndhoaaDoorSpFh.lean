/- What both feet can hold. -/
import Derived.Test.YtinopmdefndhoaaDoorSpFm
namespace Go.Proofs.YtinopmdefndhoaaDoor
open Go Go.RowKit Go.Shelf

def feA (w : World) (_a _b c _d _wd : Int) (lo hi n : Nat) : Nat → Value → World → Prop
  | 0, v, _ => v = .int .i64 (n : Nat)
  | 1, v, _ => v = .pointer (some ⟨w.heap.size, 2, none⟩)
  | 2, v, _ => v = .int .i64 c
  | 3, v, _ => v = .bool false
  | 4, v, _ => v = .bool false
  | 5, v, _ => v = undef
  | 6, v, _ => v = undef
  | 7, v, _ => v = undef
  | 8, v, _ => v = undef
  | 9, v, _ => v = undef
  | 10, v, _ => v = .bool false
  | 11, v, _ => v = .bool false
  | _, _, _ => True

theorem feA_up (w : World) (a b c d wd : Int) (lo hi n : Nat) : ∀ (j : Nat) (v : Value) (A B : World), Below A.heap.size A B → feA w a b c d wd lo hi n j v A → feA w a b c d wd lo hi n j v B
  | 0, _, _, _, _, h => h
  | 1, _, _, _, _, h => h
  | 2, _, _, _, _, h => h
  | 3, _, _, _, _, h => h
  | 4, _, _, _, _, h => h
  | 5, _, _, _, _, h => h
  | 6, _, _, _, _, h => h
  | 7, _, _, _, _, h => h
  | 8, _, _, _, _, h => h
  | 9, _, _, _, _, h => h
  | 10, _, _, _, _, h => h
  | 11, _, _, _, _, h => h
  | _ + 12, _, _, _, _, _ => trivial

def feB (w : World) (_a _b c d wd : Int) (lo hi n : Nat) : Nat → Value → World → Prop
  | 0, v, _ => v = .int .i64 (n : Nat)
  | 1, v, _ => v = .pointer (some ⟨w.heap.size, 2, none⟩)
  | 2, v, _ => v = .int .i64 c
  | 3, v, _ => v = .bool true
  | 4, v, _ => v = .bool true
  | 5, v, _ => v = .agg #[.int .u64 lo, .int .u64 hi]
  | 6, v, _ => v = .int .i64 wd
  | 7, v, _ => v = .pointer (some ⟨w.heap.size, 3, none⟩)
  | 8, v, _ => v = .int .i64 d
  | 9, v, _ => v = .bool false
  | 10, v, _ => v = .bool false
  | 11, v, _ => v = .bool false
  | _, _, _ => True

theorem feB_up (w : World) (a b c d wd : Int) (lo hi n : Nat) : ∀ (j : Nat) (v : Value) (A B : World), Below A.heap.size A B → feB w a b c d wd lo hi n j v A → feB w a b c d wd lo hi n j v B
  | 0, _, _, _, _, h => h
  | 1, _, _, _, _, h => h
  | 2, _, _, _, _, h => h
  | 3, _, _, _, _, h => h
  | 4, _, _, _, _, h => h
  | 5, _, _, _, _, h => h
  | 6, _, _, _, _, h => h
  | 7, _, _, _, _, h => h
  | 8, _, _, _, _, h => h
  | 9, _, _, _, _, h => h
  | 10, _, _, _, _, h => h
  | 11, _, _, _, _, h => h
  | _ + 12, _, _, _, _, _ => trivial

def feC (w : World) (_a _b c d wd : Int) (lo hi n : Nat) : Nat → Value → World → Prop
  | 0, v, _ => v = .int .i64 (n : Nat)
  | 1, v, _ => v = .pointer (some ⟨w.heap.size, 2, none⟩)
  | 2, v, _ => v = .int .i64 c
  | 3, v, _ => v = .bool true
  | 4, v, _ => v = .bool true
  | 5, v, _ => v = .agg #[.int .u64 lo, .int .u64 hi]
  | 6, v, _ => v = .int .i64 wd
  | 7, v, _ => v = .pointer (some ⟨w.heap.size, 3, none⟩)
  | 8, v, _ => v = .int .i64 d
  | 9, v, _ => v = .bool true
  | 10, v, _ => v = .bool true
  | 11, v, _ => v = .bool true
  | _, _, _ => True

theorem feC_up (w : World) (a b c d wd : Int) (lo hi n : Nat) : ∀ (j : Nat) (v : Value) (A B : World), Below A.heap.size A B → feC w a b c d wd lo hi n j v A → feC w a b c d wd lo hi n j v B
  | 0, _, _, _, _, h => h
  | 1, _, _, _, _, h => h
  | 2, _, _, _, _, h => h
  | 3, _, _, _, _, h => h
  | 4, _, _, _, _, h => h
  | 5, _, _, _, _, h => h
  | 6, _, _, _, _, h => h
  | 7, _, _, _, _, h => h
  | 8, _, _, _, _, h => h
  | 9, _, _, _, _, h => h
  | 10, _, _, _, _, h => h
  | 11, _, _, _, _, h => h
  | _ + 12, _, _, _, _, _ => trivial

set_option maxRecDepth 100000 in
set_option maxHeartbeats 4000000 in
theorem fh_any (a b c d : Int) (v : Value) (n : Nat) (S : Nat → Nat × Nat) (w : World) (G : Gl w) (hn : n ≤ 1000) (hv : SetsAt w v n S) (hS : ∀ i, i < n → (S i).1 < 18446744073709551616 ∧ (S i).2 < 18446744073709551616) :
    Calls Tryd.prog 39 #[.agg #[.int .i64 a, .int .i64 b, .int .i64 c, .int .i64 d], v] w fun e w' => e = .returned (.bool (feetB c d S n)) ∧ Below w.heap.size w w' := by
  obtain ⟨res, hres⟩ : ∃ res, feetB c d S n = res := ⟨_, rfl⟩
  rw [hres]
  have HRES := Lib.hid hres
  clear hres
  obtain ⟨va, vc, rfl, hv⟩ := hv
  have HV := Lib.hid hv
  have HS := Lib.hid hS
  have HU := Lib.hid (uniS_lt S n hS)
  have HC := Lib.hid (cntS_le S)
  clear hv hS
  obtain ⟨D, hD⟩ : ∃ D, w.heap.size = D := ⟨_, rfl⟩
  obtain ⟨V, hV⟩ : ∃ V, (w.alloc (.cells #[.int .i64 a, .int .i64 b, .int .i64 c, .int .i64 d] 23)).alloc (.cells #[.int .u64 0, .int .u64 0] 26) = V := ⟨_, rfl⟩
  have hwV : Below D w V := by rw [← hV]; exact ((Below.refl _ _).alloc (by omega) _).alloc (by simp; omega) _
  have hPV : PlAt V D a b c d := by rw [← hV]; exact heap_old (heap_new hD.symm)
  have hUV : SetAt V (D + 1) (uniS S 0).1 (uniS S 0).2 := by rw [← hV]; exact heap_new (by simp [hD])
  have HVV := Lib.hid hV
  clear hV
  go_enter Tryd.func39, Tryd.ntmps39
  go_wp2_with fail
  rw [HVV.out]
  clear HVV
  go_loopw [5, 12] (fun cv i wr => ∃ k : Nat, k ≤ n ∧ i = .int .i64 (k : Nat) ∧ cv = .int .i64 (cntS S k : Nat) ∧ Below D w wr ∧ PlAt wr D a b c d ∧ SetAt wr (D + 1) (uniS S k).1 (uniS S k).2) (fun _ i _ => n - (intOf i).toNat)
  case atStart => exact ⟨0, Nat.zero_le _, rfl, rfl, hwV, hPV, hUV⟩
  case round =>
    obtain ⟨k, hk, rfl, rfl, hwr, hPr, hUr⟩ := hrel
    by_cases hkn : k = n
    · subst hkn
      subst hD
      have hlt : ¬ (k : Int) < (k : Int) := by omega
      obtain ⟨q1, q2⟩ := HU.out k (Nat.le_refl _)
      have hr2 := HRES.out
      unfold feetB setN at hr2
      have hw9 : Below w.heap.size w wr := hwr
      have HRw := Lib.hid (show HdR w a b c d (uniS S k).1 (uniS S k).2 wr from ⟨hw9, hPr, hUr⟩)
      have wi := fun W g => width_any (uniS S k).1 (uniS S k).2 q1 q2 W g
      generalize wdX (nth (Ns.notes (uniS S k).1 (uniS S k).2)) (Ns.notes (uniS S k).1 (uniS S k).2).length = wd at *
      have WI := Lib.hid wi
      clear wi q1 q2 HU HS HV HRES hk hwr hPr hUr hwV hPV hUV hw9
      generalize (uniS S k).1 = lo at *
      generalize (uniS S k).2 = hi at *
      have hcl := HC.out k
      clear HC
      generalize cntS S k = n at *
      by_cases h1 : (n : Int) ≤ c
      · have H1 := Lib.hid h1
        by_cases h2 : wd ≤ d
        · have H2 := Lib.hid h2
          rw [decide_eq_true h1, decide_eq_true h2] at hr2
          have HR2 := Lib.hid hr2
          clear hr2
          clear h1 h2
          go_wp2_with fail
          refine wp_region_slots_at rfl rfl (fun base ys => (((((((((((base.set 24 (ys 0)).set 25 (ys 1)).set 26 (ys 2)).set 27 (ys 3)).set 28 (ys 4)).set 29 (ys 5)).set 30 (ys 6)).set 31 (ys 7)).set 32 (ys 8)).set 33 (ys 9)).set 34 (ys 10)).set 4 (ys 11)) (BelowI _ (HdR w a b c d lo hi) (feC w a b c d wd lo hi n)) (fun | 11 => .bool false | _ => undef) (by kernel_rfl) (below_start (HdR_up w a b c d lo hi wr wr.drew ⟨rfl, rfl, rfl, Nat.le_refl _, fun _ _ => rfl⟩ HRw.out)) ?h
          case h =>
            intro FF hFF
            simp only [List.set_cons_succ, List.set_cons_zero] at hFF
            subst hFF
            refine ⟨rfl, ?_, ?_⟩
            refine ⟨?_, ?_⟩
            · refine SlotStep.below (HdR_up w a b c d lo hi) (feC_up w a b c d wd lo hi n) ?_
              intro ys W hR hd K hK
              go_simp
              have hK2 := hK (.int .i64 (n : Nat)) _ (Below.refl _ _) rfl
              simp (config := { decide := true }) only [upd, if_true, if_false] at hK2
              exact hK2
            refine ⟨?_, ?_⟩
            · refine SlotStep.below (HdR_up w a b c d lo hi) (feC_up w a b c d wd lo hi n) ?_
              intro ys W hR hd K hK
              go_simp
              have hK2 := hK (.pointer (some ⟨w.heap.size, 2, none⟩)) _ (Below.refl _ _) rfl
              simp (config := { decide := true }) only [upd, if_true, if_false] at hK2
              exact hK2
            refine ⟨?_, ?_⟩
            · refine SlotStep.below (HdR_up w a b c d lo hi) (feC_up w a b c d wd lo hi n) ?_
              intro ys W hR hd K hK
              have dd1 : ys 1 = (.pointer (some ⟨w.heap.size, 2, none⟩)) := hd 1 (by kernel_rfl) (by decide)
              have c0 := cell4_2 hR.2.1
              go_simp
              have hK2 := hK (.int .i64 c) _ (Below.refl _ _) rfl
              simp (config := { decide := true }) only [upd, if_true, if_false, dd1] at hK2
              exact hK2
            refine ⟨?_, ?_⟩
            · refine SlotStep.below (HdR_up w a b c d lo hi) (feC_up w a b c d wd lo hi n) ?_
              intro ys W hR hd K hK
              have dd0 : ys 0 = (.int .i64 (n : Nat)) := hd 0 (by kernel_rfl) (by decide)
              have dd2 : ys 2 = (.int .i64 c) := hd 2 (by kernel_rfl) (by decide)
              have hh1 := H1.out
              go_simp
              have hK2 := hK (.bool true) _ (Below.refl _ _) rfl
              simp (config := { decide := true }) only [upd, if_true, if_false, dd0, dd2] at hK2
              exact hK2
            refine ⟨?_, ?_⟩
            · refine SlotStep.below (HdR_up w a b c d lo hi) (feC_up w a b c d wd lo hi n) ?_
              intro ys W hR hd K hK
              have dd3 : ys 3 = (.bool true) := hd 3 (by kernel_rfl) (by decide)
              go_simp
              have hK2 := hK (.bool true) _ (Below.refl _ _) rfl
              simp (config := { decide := true }) only [upd, if_true, if_false, dd3] at hK2
              exact hK2
            refine ⟨?_, ?_⟩
            · refine SlotStep.below (HdR_up w a b c d lo hi) (feC_up w a b c d wd lo hi n) ?_
              intro ys W hR hd K hK
              have dd4 : ys 4 = (.bool true) := hd 4 (by kernel_rfl) (by decide)
              have c0 := cell2_0 hR.2.2
              have c1 := cell2_1 hR.2.2
              go_simp
              have hK2 := hK (.agg #[.int .u64 lo, .int .u64 hi]) _ (Below.refl _ _) rfl
              simp (config := { decide := true }) only [upd, if_true, if_false, dd4] at hK2
              exact hK2
            refine ⟨?_, ?_⟩
            · refine SlotStep.below (HdR_up w a b c d lo hi) (feC_up w a b c d wd lo hi n) ?_
              intro ys W hR hd K hK
              have dd4 : ys 4 = (.bool true) := hd 4 (by kernel_rfl) (by decide)
              have dd5 : ys 5 = (.agg #[.int .u64 lo, .int .u64 hi]) := hd 5 (by kernel_rfl) (by decide)
              go_simp
              refine (WI.out W (G.below hR.1)).mono ?_
              rintro e w5 ⟨rfl, hb5⟩
              have hK2 := hK (.int .i64 wd) _ hb5 rfl
              simp (config := { decide := true }) only [upd, if_true, if_false, dd4, dd5] at hK2
              exact hK2
            refine ⟨?_, ?_⟩
            · refine SlotStep.below (HdR_up w a b c d lo hi) (feC_up w a b c d wd lo hi n) ?_
              intro ys W hR hd K hK
              have dd4 : ys 4 = (.bool true) := hd 4 (by kernel_rfl) (by decide)
              go_simp
              have hK2 := hK (.pointer (some ⟨w.heap.size, 3, none⟩)) _ (Below.refl _ _) rfl
              simp (config := { decide := true }) only [upd, if_true, if_false, dd4] at hK2
              exact hK2
            refine ⟨?_, ?_⟩
            · refine SlotStep.below (HdR_up w a b c d lo hi) (feC_up w a b c d wd lo hi n) ?_
              intro ys W hR hd K hK
              have dd4 : ys 4 = (.bool true) := hd 4 (by kernel_rfl) (by decide)
              have dd7 : ys 7 = (.pointer (some ⟨w.heap.size, 3, none⟩)) := hd 7 (by kernel_rfl) (by decide)
              have c0 := cell4_3 hR.2.1
              go_simp
              have hK2 := hK (.int .i64 d) _ (Below.refl _ _) rfl
              simp (config := { decide := true }) only [upd, if_true, if_false, dd4, dd7] at hK2
              exact hK2
            refine ⟨?_, ?_⟩
            · refine SlotStep.below (HdR_up w a b c d lo hi) (feC_up w a b c d wd lo hi n) ?_
              intro ys W hR hd K hK
              have dd4 : ys 4 = (.bool true) := hd 4 (by kernel_rfl) (by decide)
              have dd6 : ys 6 = (.int .i64 wd) := hd 6 (by kernel_rfl) (by decide)
              have dd8 : ys 8 = (.int .i64 d) := hd 8 (by kernel_rfl) (by decide)
              have hh2 := H2.out
              go_simp
              have hK2 := hK (.bool true) _ (Below.refl _ _) rfl
              simp (config := { decide := true }) only [upd, if_true, if_false, dd4, dd6, dd8] at hK2
              exact hK2
            refine ⟨?_, ?_⟩
            · refine SlotStep.below (HdR_up w a b c d lo hi) (feC_up w a b c d wd lo hi n) ?_
              intro ys W hR hd K hK
              have dd4 : ys 4 = (.bool true) := hd 4 (by kernel_rfl) (by decide)
              have dd9 : ys 9 = (.bool true) := hd 9 (by kernel_rfl) (by decide)
              go_simp
              have hK2 := hK (.bool true) _ (Below.refl _ _) rfl
              simp (config := { decide := true }) only [upd, if_true, if_false, dd4, dd9] at hK2
              exact hK2
            refine ⟨?_, ?_⟩
            · refine SlotStep.below (HdR_up w a b c d lo hi) (feC_up w a b c d wd lo hi n) ?_
              intro ys W hR hd K hK
              have dd10 : ys 10 = (.bool true) := hd 10 (by kernel_rfl) (by decide)
              go_simp
              have hK2 := hK (.bool true) _ (Below.refl _ _) rfl
              simp (config := { decide := true }) only [upd, if_true, if_false, dd10] at hK2
              exact hK2
            trivial
            · intro L ys W hL hI
              obtain ⟨hR, hj⟩ := hI
              have y11 : ys 11 = .bool true := hj 11 (by decide) (hL 11 (by decide))
              have HW := Lib.hid hR.1
              clear hR hj
              simp only [y11]
              go_wp2
              go_ret
              exact ⟨by rw [← HR2.out]; rfl, HW.out⟩
        · have H2 := Lib.hid h2
          rw [decide_eq_true h1, decide_eq_false h2] at hr2
          have HR2 := Lib.hid hr2
          clear hr2
          clear h1 h2
          go_wp2_with fail
          refine wp_region_slots_at rfl rfl (fun base ys => (((((((((((base.set 24 (ys 0)).set 25 (ys 1)).set 26 (ys 2)).set 27 (ys 3)).set 28 (ys 4)).set 29 (ys 5)).set 30 (ys 6)).set 31 (ys 7)).set 32 (ys 8)).set 33 (ys 9)).set 34 (ys 10)).set 4 (ys 11)) (BelowI _ (HdR w a b c d lo hi) (feB w a b c d wd lo hi n)) (fun | 11 => .bool false | _ => undef) (by kernel_rfl) (below_start (HdR_up w a b c d lo hi wr wr.drew ⟨rfl, rfl, rfl, Nat.le_refl _, fun _ _ => rfl⟩ HRw.out)) ?h
          case h =>
            intro FF hFF
            simp only [List.set_cons_succ, List.set_cons_zero] at hFF
            subst hFF
            refine ⟨rfl, ?_, ?_⟩
            refine ⟨?_, ?_⟩
            · refine SlotStep.below (HdR_up w a b c d lo hi) (feB_up w a b c d wd lo hi n) ?_
              intro ys W hR hd K hK
              go_simp
              have hK2 := hK (.int .i64 (n : Nat)) _ (Below.refl _ _) rfl
              simp (config := { decide := true }) only [upd, if_true, if_false] at hK2
              exact hK2
            refine ⟨?_, ?_⟩
            · refine SlotStep.below (HdR_up w a b c d lo hi) (feB_up w a b c d wd lo hi n) ?_
              intro ys W hR hd K hK
              go_simp
              have hK2 := hK (.pointer (some ⟨w.heap.size, 2, none⟩)) _ (Below.refl _ _) rfl
              simp (config := { decide := true }) only [upd, if_true, if_false] at hK2
              exact hK2
            refine ⟨?_, ?_⟩
            · refine SlotStep.below (HdR_up w a b c d lo hi) (feB_up w a b c d wd lo hi n) ?_
              intro ys W hR hd K hK
              have dd1 : ys 1 = (.pointer (some ⟨w.heap.size, 2, none⟩)) := hd 1 (by kernel_rfl) (by decide)
              have c0 := cell4_2 hR.2.1
              go_simp
              have hK2 := hK (.int .i64 c) _ (Below.refl _ _) rfl
              simp (config := { decide := true }) only [upd, if_true, if_false, dd1] at hK2
              exact hK2
            refine ⟨?_, ?_⟩
            · refine SlotStep.below (HdR_up w a b c d lo hi) (feB_up w a b c d wd lo hi n) ?_
              intro ys W hR hd K hK
              have dd0 : ys 0 = (.int .i64 (n : Nat)) := hd 0 (by kernel_rfl) (by decide)
              have dd2 : ys 2 = (.int .i64 c) := hd 2 (by kernel_rfl) (by decide)
              have hh1 := H1.out
              go_simp
              have hK2 := hK (.bool true) _ (Below.refl _ _) rfl
              simp (config := { decide := true }) only [upd, if_true, if_false, dd0, dd2] at hK2
              exact hK2
            refine ⟨?_, ?_⟩
            · refine SlotStep.below (HdR_up w a b c d lo hi) (feB_up w a b c d wd lo hi n) ?_
              intro ys W hR hd K hK
              have dd3 : ys 3 = (.bool true) := hd 3 (by kernel_rfl) (by decide)
              go_simp
              have hK2 := hK (.bool true) _ (Below.refl _ _) rfl
              simp (config := { decide := true }) only [upd, if_true, if_false, dd3] at hK2
              exact hK2
            refine ⟨?_, ?_⟩
            · refine SlotStep.below (HdR_up w a b c d lo hi) (feB_up w a b c d wd lo hi n) ?_
              intro ys W hR hd K hK
              have dd4 : ys 4 = (.bool true) := hd 4 (by kernel_rfl) (by decide)
              have c0 := cell2_0 hR.2.2
              have c1 := cell2_1 hR.2.2
              go_simp
              have hK2 := hK (.agg #[.int .u64 lo, .int .u64 hi]) _ (Below.refl _ _) rfl
              simp (config := { decide := true }) only [upd, if_true, if_false, dd4] at hK2
              exact hK2
            refine ⟨?_, ?_⟩
            · refine SlotStep.below (HdR_up w a b c d lo hi) (feB_up w a b c d wd lo hi n) ?_
              intro ys W hR hd K hK
              have dd4 : ys 4 = (.bool true) := hd 4 (by kernel_rfl) (by decide)
              have dd5 : ys 5 = (.agg #[.int .u64 lo, .int .u64 hi]) := hd 5 (by kernel_rfl) (by decide)
              go_simp
              refine (WI.out W (G.below hR.1)).mono ?_
              rintro e w5 ⟨rfl, hb5⟩
              have hK2 := hK (.int .i64 wd) _ hb5 rfl
              simp (config := { decide := true }) only [upd, if_true, if_false, dd4, dd5] at hK2
              exact hK2
            refine ⟨?_, ?_⟩
            · refine SlotStep.below (HdR_up w a b c d lo hi) (feB_up w a b c d wd lo hi n) ?_
              intro ys W hR hd K hK
              have dd4 : ys 4 = (.bool true) := hd 4 (by kernel_rfl) (by decide)
              go_simp
              have hK2 := hK (.pointer (some ⟨w.heap.size, 3, none⟩)) _ (Below.refl _ _) rfl
              simp (config := { decide := true }) only [upd, if_true, if_false, dd4] at hK2
              exact hK2
            refine ⟨?_, ?_⟩
            · refine SlotStep.below (HdR_up w a b c d lo hi) (feB_up w a b c d wd lo hi n) ?_
              intro ys W hR hd K hK
              have dd4 : ys 4 = (.bool true) := hd 4 (by kernel_rfl) (by decide)
              have dd7 : ys 7 = (.pointer (some ⟨w.heap.size, 3, none⟩)) := hd 7 (by kernel_rfl) (by decide)
              have c0 := cell4_3 hR.2.1
              go_simp
              have hK2 := hK (.int .i64 d) _ (Below.refl _ _) rfl
              simp (config := { decide := true }) only [upd, if_true, if_false, dd4, dd7] at hK2
              exact hK2
            refine ⟨?_, ?_⟩
            · refine SlotStep.below (HdR_up w a b c d lo hi) (feB_up w a b c d wd lo hi n) ?_
              intro ys W hR hd K hK
              have dd4 : ys 4 = (.bool true) := hd 4 (by kernel_rfl) (by decide)
              have dd6 : ys 6 = (.int .i64 wd) := hd 6 (by kernel_rfl) (by decide)
              have dd8 : ys 8 = (.int .i64 d) := hd 8 (by kernel_rfl) (by decide)
              have hh2 : decide (wd ≤ d) = false := decide_eq_false (by have := H2.out; omega)
              go_simp
              have hK2 := hK (.bool false) _ (Below.refl _ _) rfl
              simp (config := { decide := true }) only [upd, if_true, if_false, dd4, dd6, dd8] at hK2
              exact hK2
            refine ⟨?_, ?_⟩
            · refine SlotStep.below (HdR_up w a b c d lo hi) (feB_up w a b c d wd lo hi n) ?_
              intro ys W hR hd K hK
              have dd4 : ys 4 = (.bool true) := hd 4 (by kernel_rfl) (by decide)
              have dd9 : ys 9 = (.bool false) := hd 9 (by kernel_rfl) (by decide)
              go_simp
              have hK2 := hK (.bool false) _ (Below.refl _ _) rfl
              simp (config := { decide := true }) only [upd, if_true, if_false, dd4, dd9] at hK2
              exact hK2
            refine ⟨?_, ?_⟩
            · refine SlotStep.below (HdR_up w a b c d lo hi) (feB_up w a b c d wd lo hi n) ?_
              intro ys W hR hd K hK
              have dd10 : ys 10 = (.bool false) := hd 10 (by kernel_rfl) (by decide)
              go_simp
              have hK2 := hK (.bool false) _ (Below.refl _ _) rfl
              simp (config := { decide := true }) only [upd, if_true, if_false, dd10] at hK2
              exact hK2
            trivial
            · intro L ys W hL hI
              obtain ⟨hR, hj⟩ := hI
              have y11 : ys 11 = .bool false := hj 11 (by decide) (hL 11 (by decide))
              have HW := Lib.hid hR.1
              clear hR hj
              simp only [y11]
              go_wp2
              go_ret
              exact ⟨by rw [← HR2.out]; rfl, HW.out⟩
      · have H1 := Lib.hid h1
        rw [decide_eq_false h1, Bool.false_and] at hr2
        have HR2 := Lib.hid hr2
        clear hr2
        clear h1
        go_wp2_with fail
        refine wp_region_slots_at rfl rfl (fun base ys => (((((((((((base.set 24 (ys 0)).set 25 (ys 1)).set 26 (ys 2)).set 27 (ys 3)).set 28 (ys 4)).set 29 (ys 5)).set 30 (ys 6)).set 31 (ys 7)).set 32 (ys 8)).set 33 (ys 9)).set 34 (ys 10)).set 4 (ys 11)) (BelowI _ (HdR w a b c d lo hi) (feA w a b c d wd lo hi n)) (fun | 11 => .bool false | _ => undef) (by kernel_rfl) (below_start (HdR_up w a b c d lo hi wr wr.drew ⟨rfl, rfl, rfl, Nat.le_refl _, fun _ _ => rfl⟩ HRw.out)) ?h
        case h =>
          intro FF hFF
          simp only [List.set_cons_succ, List.set_cons_zero] at hFF
          subst hFF
          refine ⟨rfl, ?_, ?_⟩
          refine ⟨?_, ?_⟩
          · refine SlotStep.below (HdR_up w a b c d lo hi) (feA_up w a b c d wd lo hi n) ?_
            intro ys W hR hd K hK
            go_simp
            have hK2 := hK (.int .i64 (n : Nat)) _ (Below.refl _ _) rfl
            simp (config := { decide := true }) only [upd, if_true, if_false] at hK2
            exact hK2
          refine ⟨?_, ?_⟩
          · refine SlotStep.below (HdR_up w a b c d lo hi) (feA_up w a b c d wd lo hi n) ?_
            intro ys W hR hd K hK
            go_simp
            have hK2 := hK (.pointer (some ⟨w.heap.size, 2, none⟩)) _ (Below.refl _ _) rfl
            simp (config := { decide := true }) only [upd, if_true, if_false] at hK2
            exact hK2
          refine ⟨?_, ?_⟩
          · refine SlotStep.below (HdR_up w a b c d lo hi) (feA_up w a b c d wd lo hi n) ?_
            intro ys W hR hd K hK
            have dd1 : ys 1 = (.pointer (some ⟨w.heap.size, 2, none⟩)) := hd 1 (by kernel_rfl) (by decide)
            have c0 := cell4_2 hR.2.1
            go_simp
            have hK2 := hK (.int .i64 c) _ (Below.refl _ _) rfl
            simp (config := { decide := true }) only [upd, if_true, if_false, dd1] at hK2
            exact hK2
          refine ⟨?_, ?_⟩
          · refine SlotStep.below (HdR_up w a b c d lo hi) (feA_up w a b c d wd lo hi n) ?_
            intro ys W hR hd K hK
            have dd0 : ys 0 = (.int .i64 (n : Nat)) := hd 0 (by kernel_rfl) (by decide)
            have dd2 : ys 2 = (.int .i64 c) := hd 2 (by kernel_rfl) (by decide)
            have hh1 : decide ((n : Int) ≤ c) = false := decide_eq_false (by have := H1.out; omega)
            go_simp
            have hK2 := hK (.bool false) _ (Below.refl _ _) rfl
            simp (config := { decide := true }) only [upd, if_true, if_false, dd0, dd2] at hK2
            exact hK2
          refine ⟨?_, ?_⟩
          · refine SlotStep.below (HdR_up w a b c d lo hi) (feA_up w a b c d wd lo hi n) ?_
            intro ys W hR hd K hK
            have dd3 : ys 3 = (.bool false) := hd 3 (by kernel_rfl) (by decide)
            go_simp
            have hK2 := hK (.bool false) _ (Below.refl _ _) rfl
            simp (config := { decide := true }) only [upd, if_true, if_false, dd3] at hK2
            exact hK2
          refine ⟨?_, ?_⟩
          · refine SlotStep.below (HdR_up w a b c d lo hi) (feA_up w a b c d wd lo hi n) ?_
            intro ys W hR hd K hK
            have dd4 : ys 4 = (.bool false) := hd 4 (by kernel_rfl) (by decide)
            go_simp
            have hK2 := hK (undef) _ (Below.refl _ _) rfl
            simp (config := { decide := true }) only [upd, if_true, if_false, dd4] at hK2
            exact hK2
          refine ⟨?_, ?_⟩
          · refine SlotStep.below (HdR_up w a b c d lo hi) (feA_up w a b c d wd lo hi n) ?_
            intro ys W hR hd K hK
            have dd4 : ys 4 = (.bool false) := hd 4 (by kernel_rfl) (by decide)
            have dd5 : ys 5 = (undef) := hd 5 (by kernel_rfl) (by decide)
            go_simp
            have hK2 := hK (undef) _ (Below.refl _ _) rfl
            simp (config := { decide := true }) only [upd, if_true, if_false, dd4, dd5] at hK2
            exact hK2
          refine ⟨?_, ?_⟩
          · refine SlotStep.below (HdR_up w a b c d lo hi) (feA_up w a b c d wd lo hi n) ?_
            intro ys W hR hd K hK
            have dd4 : ys 4 = (.bool false) := hd 4 (by kernel_rfl) (by decide)
            go_simp
            have hK2 := hK (undef) _ (Below.refl _ _) rfl
            simp (config := { decide := true }) only [upd, if_true, if_false, dd4] at hK2
            exact hK2
          refine ⟨?_, ?_⟩
          · refine SlotStep.below (HdR_up w a b c d lo hi) (feA_up w a b c d wd lo hi n) ?_
            intro ys W hR hd K hK
            have dd4 : ys 4 = (.bool false) := hd 4 (by kernel_rfl) (by decide)
            have dd7 : ys 7 = (undef) := hd 7 (by kernel_rfl) (by decide)
            go_simp
            have hK2 := hK (undef) _ (Below.refl _ _) rfl
            simp (config := { decide := true }) only [upd, if_true, if_false, dd4, dd7] at hK2
            exact hK2
          refine ⟨?_, ?_⟩
          · refine SlotStep.below (HdR_up w a b c d lo hi) (feA_up w a b c d wd lo hi n) ?_
            intro ys W hR hd K hK
            have dd4 : ys 4 = (.bool false) := hd 4 (by kernel_rfl) (by decide)
            have dd6 : ys 6 = (undef) := hd 6 (by kernel_rfl) (by decide)
            have dd8 : ys 8 = (undef) := hd 8 (by kernel_rfl) (by decide)
            go_simp
            have hK2 := hK (undef) _ (Below.refl _ _) rfl
            simp (config := { decide := true }) only [upd, if_true, if_false, dd4, dd6, dd8] at hK2
            exact hK2
          refine ⟨?_, ?_⟩
          · refine SlotStep.below (HdR_up w a b c d lo hi) (feA_up w a b c d wd lo hi n) ?_
            intro ys W hR hd K hK
            have dd4 : ys 4 = (.bool false) := hd 4 (by kernel_rfl) (by decide)
            have dd9 : ys 9 = (undef) := hd 9 (by kernel_rfl) (by decide)
            go_simp
            have hK2 := hK (.bool false) _ (Below.refl _ _) rfl
            simp (config := { decide := true }) only [upd, if_true, if_false, dd4, dd9] at hK2
            exact hK2
          refine ⟨?_, ?_⟩
          · refine SlotStep.below (HdR_up w a b c d lo hi) (feA_up w a b c d wd lo hi n) ?_
            intro ys W hR hd K hK
            have dd10 : ys 10 = (.bool false) := hd 10 (by kernel_rfl) (by decide)
            go_simp
            have hK2 := hK (.bool false) _ (Below.refl _ _) rfl
            simp (config := { decide := true }) only [upd, if_true, if_false, dd10] at hK2
            exact hK2
          trivial
          · intro L ys W hL hI
            obtain ⟨hR, hj⟩ := hI
            have y11 : ys 11 = .bool false := hj 11 (by decide) (hL 11 (by decide))
            have HW := Lib.hid hR.1
            clear hR hj
            simp only [y11]
            go_wp2
            go_ret
            exact ⟨by rw [← HR2.out]; rfl, HW.out⟩
    · have hkl : (k : Int) < (n : Int) := by omega
      obtain ⟨g, off, rfl, hgl, hcell⟩ := HV.out (by omega)
      obtain ⟨s1, s2⟩ := HS.out k (by omega)
      obtain ⟨u1, u2⟩ := HU.out k (by omega)
      obtain ⟨x0, x1⟩ := hcell k (by omega)
      have y0 := (hwr.cell (p := ⟨g, off + k * 2, none⟩) (by show g < D; omega)).trans x0
      have y1 := (hwr.cell (p := ⟨g, off + k * 2 + 1, none⟩) (by show g < D; omega)).trans x1
      have co := fun W => count_below (S k).1 (S k).2 s1 s2 W
      rw [← notes_pc] at co
      have CO := Lib.hid co
      have UN := Lib.hid (fun W => union_any (uniS S k).1 (uniS S k).2 (S k).1 (S k).2 u1 u2 s1 s2 W)
      have ec : cntS S (k + 1) = cntS S k + (Ns.notes (S k).1 (S k).2).length := rfl
      have eu : uniS S (k + 1) = ((uniS S k).1 ||| (S k).1, (uniS S k).2 ||| (S k).2) := rfl
      have EC := Lib.hid ec
      have EU := Lib.hid eu
      have cl := HC.out k
      have nl := Ns.notes_length (S k).1 (S k).2
      clear co ec eu x0 x1 hcell
      have wz : IntKind.i64.wrap ((cntS S k : Int) + ((Ns.notes (S k).1 (S k).2).length : Int)) = ((cntS S k + (Ns.notes (S k).1 (S k).2).length : Nat) : Int) := by rw [IntKind.wrap_i64]; omega
      generalize (Ns.notes (S k).1 (S k).2).length = ln at *
      generalize cntS S k = ck at *
      generalize uniS S k = uk at *
      generalize S k = sk at *
      have hzr := hwr.size
      rw [hD] at hzr
      obtain ⟨X, hX⟩ : ∃ X, wr.alloc (.cells #[.int .u64 (sk.1 : Nat), .int .u64 (sk.2 : Nat)] 26) = X := ⟨_, rfl⟩
      have hwX : Below D w X := by rw [← hX]; exact hwr.alloc hzr _
      have hPX : PlAt X D a b c d := by rw [← hX]; exact heap_old hPr
      have hUX : SetAt X (D + 1) uk.1 uk.2 := by rw [← hX]; exact heap_old hUr
      obtain ⟨O, hO⟩ : ∃ O, wr.heap.size = O := ⟨_, rfl⟩
      have hOX : SetAt X O sk.1 sk.2 := by rw [← hX, ← hO]; exact SetAt.new wr _ _
      have HX := Lib.hid hX
      clear hX
      go_wp2_with fail
      refine (CO.out _).mono ?_
      rw [HX.out]
      rintro e v1 ⟨rfl, hb1⟩
      have hw1 : Below D w v1 := hwX.trans (hb1.mono (by rw [← hD]; exact hwX.size))
      have hP1 := hPX.below hPX.lt hb1
      have hU1 := hUX.below hUX.lt hb1
      have hO1 := hOX.below hOX.lt hb1
      have e0 := hU1.fst
      have e1 := hU1.snd
      have e2 := hO1.fst
      have e3 := hO1.snd
      clear y0 y1 HX hb1 hwX hPX hUX hOX
      go_wp2_with fail
      refine (UN.out _).mono ?_
      rintro e v2 ⟨rfl, hb2⟩
      have hw2 : Below D w v2 := hw1.trans (hb2.mono (by rw [← hD]; exact hw1.size))
      have hP2 := hP1.below hP1.lt hb2
      have hU2 := hU1.below hU1.lt hb2
      clear e0 e1 e2 e3 hb2 hw1 hP1 hU1 hO1
      have f0 := hU2.fst
      have f1 := hU2.snd
      have f2 := hU2.f0
      have f3 := hU2.f1
      go_wp2_with fail
      go_roundw
      case rel =>
        refine ⟨k + 1, by omega, rfl, by rw [EC.out]; first | rfl | (congr 1; omega) | simp, (hw2.setCell (p := ⟨D + 1, 0, none⟩) (by show D ≤ D + 1; omega) _).setCell (p := ⟨D + 1, 1, none⟩) (by show D ≤ D + 1; omega) _, (heap_set (by omega)).trans ((heap_set (by omega)).trans hP2), ?_⟩
        rw [EU.out]
        exact hU2.set _ _
      case measure => simp [intOf]; omega
end Go.Proofs.YtinopmdefndhoaaDoor
