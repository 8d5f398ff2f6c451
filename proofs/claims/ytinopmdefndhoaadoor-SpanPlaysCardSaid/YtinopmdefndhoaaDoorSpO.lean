/- The law's Held. -/
import Derived.Test.YtinopmdefndhoaaDoorRg
import Derived.Test.YtinopmdefndhoaaDoorSlT
namespace Go.Proofs.YtinopmdefndhoaaDoor
open Go Go.RowKit Go.Shelf

/-- Whether notes in order can be divided. -/
def heldX (X : Nat → Int) (n : Nat) (a b : Int) : Bool := decide (0 < (divU X n a b (n + 1)).length)
def hdI (P S : Value) (n m : Nat) (X Y : Nat → Int) : Nat → Value → World → Prop
  | 0, v, _ => v = P
  | 1, v, _ => v = S
  | 2, v, W => Lst W v n X
  | 3, v, W => Lst W v m Y
  | 4, v, _ => v = .int .i64 (m : Int)
  | 5, v, _ => v = .bool (decide (0 < m))
  | 6, v, _ => v = .bool (decide (0 < m))
  | _, _, _ => True
theorem hdI_up (P S : Value) (n m : Nat) (X Y : Nat → Int) : ∀ (j : Nat) (v : Value) (A B : World), Below A.heap.size A B → hdI P S n m X Y j v A → hdI P S n m X Y j v B
  | 0, _, _, _, _, h => h
  | 1, _, _, _, _, h => h
  | 2, _, _, _, hb, h => Lst.below h hb
  | 3, _, _, _, hb, h => Lst.below h hb
  | 4, _, _, _, _, h => h
  | 5, _, _, _, _, h => h
  | 6, _, _, _, _, h => h
  | _ + 7, _, _, _, _, _ => trivial
def HdR (w : World) (a b c d : Int) (lo hi : Nat) (A : World) : Prop := Below w.heap.size w A ∧ A.heap[w.heap.size]? = some (.cells #[.int .i64 a, .int .i64 b, .int .i64 c, .int .i64 d] 23) ∧ A.heap[w.heap.size + 1]? = some (.cells #[.int .u64 lo, .int .u64 hi] 26)
theorem HdR_up (w : World) (a b c d : Int) (lo hi : Nat) (A B : World) (hb : Below A.heap.size A B) (h : HdR w a b c d lo hi A) : HdR w a b c d lo hi B :=
  ⟨h.1.trans (hb.mono h.1.size), heap_kept hb h.2.1, heap_kept hb h.2.2⟩
set_option maxRecDepth 100000 in
set_option maxHeartbeats 4000000 in
theorem held_any (a b c d : Int) (lo hi : Nat) (hl : lo < 18446744073709551616) (hh : hi < 18446744073709551616) (w : World) :
    Calls Tryd.prog 28 #[.agg #[.int .i64 a, .int .i64 b, .int .i64 c, .int .i64 d], .agg #[.int .u64 lo, .int .u64 hi]] w fun e w' => e = .returned (.bool (heldX (nth (Ns.notes lo hi)) (Ns.notes lo hi).length a b)) ∧ Below w.heap.size w w' := by
  have LI := Lib.hid (fun W => list_c lo hi hl hh W)
  have DV := Lib.hid (fun v W (h : Lst W v (Ns.notes lo hi).length (nth (Ns.notes lo hi))) => divisions_any v (Ns.notes lo hi).length (nth (Ns.notes lo hi)) a b c d W h (notes_bd lo hi).1 (notes_bd lo hi).2)
  unfold heldX
  have hnl := (notes_bd lo hi).1
  generalize hX : nth (Ns.notes lo hi) = X at *
  generalize hn : (Ns.notes lo hi).length = n at *
  generalize hY : nth (divU X n a b (n + 1)) = Y at *
  generalize hm : (divU X n a b (n + 1)).length = m at *
  have hml : m ≤ 1001 := by rw [← hm]; exact Nat.le_trans (divU_length X n a b (n + 1)) (by omega)
  clear hX hn hY hm
  go_enter Tryd.func28, Tryd.ntmps28
  go_wp2_with fail
  obtain ⟨V, hV⟩ : ∃ V : World, (w.alloc (.cells #[.int .i64 a, .int .i64 b, .int .i64 c, .int .i64 d] 23)).alloc (.cells #[.int .u64 lo, .int .u64 hi] 26) = V := ⟨_, rfl⟩
  have HR := Lib.hid (show HdR w a b c d lo hi V from by rw [← hV]; exact ⟨((Below.refl _ w).alloc (Nat.le_refl _) _).alloc (by simp) _, heap_old (heap_new rfl), heap_new (by simp)⟩)
  try rw [hV]
  clear hV
  refine wp_region_slots_at rfl rfl (fun base ys => ((((((base.set 5 (ys 0)).set 6 (ys 1)).set 7 (ys 2)).set 8 (ys 3)).set 9 (ys 4)).set 10 (ys 5)).set 4 (ys 6)) (BelowI _ (HdR w a b c d lo hi) (hdI (.agg #[.int .i64 a, .int .i64 b, .int .i64 c, .int .i64 d]) (.agg #[.int .u64 lo, .int .u64 hi]) n m X Y)) (fun | 6 => .bool false | _ => undef) (by kernel_rfl) (below_start (HdR_up w a b c d lo hi V V.drew ⟨rfl, rfl, rfl, Nat.le_refl _, fun _ _ => rfl⟩ HR.out)) ?h
  case h =>
    intro FF hFF
    simp only [List.set_cons_succ, List.set_cons_zero] at hFF
    subst hFF
    refine ⟨rfl, ?_, ?_⟩
    refine ⟨?_, ?_⟩
    · refine SlotStep.below (HdR_up w a b c d lo hi) (hdI_up (.agg #[.int .i64 a, .int .i64 b, .int .i64 c, .int .i64 d]) (.agg #[.int .u64 lo, .int .u64 hi]) n m X Y) ?_
      intro ys W hR hd K hK
      have c0 := cell4_0 hR.2.1
      have c1 := cell4_1 hR.2.1
      have c2 := cell4_2 hR.2.1
      have c3 := cell4_3 hR.2.1
      go_simp
      have hK2 := hK (.agg #[.int .i64 a, .int .i64 b, .int .i64 c, .int .i64 d]) _ (Below.refl _ _) rfl
      simp (config := { decide := true }) only [upd, if_true, if_false] at hK2
      exact hK2
    refine ⟨?_, ?_⟩
    · refine SlotStep.below (HdR_up w a b c d lo hi) (hdI_up (.agg #[.int .i64 a, .int .i64 b, .int .i64 c, .int .i64 d]) (.agg #[.int .u64 lo, .int .u64 hi]) n m X Y) ?_
      intro ys W hR hd K hK
      have c0 := cell2_0 hR.2.2
      have c1 := cell2_1 hR.2.2
      go_simp
      have hK2 := hK (.agg #[.int .u64 lo, .int .u64 hi]) _ (Below.refl _ _) rfl
      simp (config := { decide := true }) only [upd, if_true, if_false] at hK2
      exact hK2
    refine ⟨?_, ?_⟩
    · refine SlotStep.below (HdR_up w a b c d lo hi) (hdI_up (.agg #[.int .i64 a, .int .i64 b, .int .i64 c, .int .i64 d]) (.agg #[.int .u64 lo, .int .u64 hi]) n m X Y) ?_
      intro ys W hR hd K hK
      have dd1 : ys 1 = (.agg #[.int .u64 lo, .int .u64 hi]) := hd 1 (by kernel_rfl) (by decide)
      go_simp
      refine (LI.out W).mono ?_
      rintro e w5 ⟨⟨v5, rfl, hv5⟩, hb5⟩
      have hK2 := hK v5 _ hb5 hv5
      simp (config := { decide := true }) only [upd, if_true, if_false, dd1] at hK2
      exact hK2
    refine ⟨?_, ?_⟩
    · refine SlotStep.below (HdR_up w a b c d lo hi) (hdI_up (.agg #[.int .i64 a, .int .i64 b, .int .i64 c, .int .i64 d]) (.agg #[.int .u64 lo, .int .u64 hi]) n m X Y) ?_
      intro ys W hR hd K hK
      have dd0 : ys 0 = (.agg #[.int .i64 a, .int .i64 b, .int .i64 c, .int .i64 d]) := hd 0 (by kernel_rfl) (by decide)
      have l2 : Lst W (ys 2) n X := hd 2 (by kernel_rfl) (by decide)
      go_simp
      refine (DV.out (ys 2) W l2).mono ?_
      rintro e w5 ⟨⟨v5, rfl, hv5⟩, hb5⟩
      have hK2 := hK v5 _ hb5 hv5
      simp (config := { decide := true }) only [upd, if_true, if_false, dd0] at hK2
      exact hK2
    refine ⟨?_, ?_⟩
    · refine SlotStep.below (HdR_up w a b c d lo hi) (hdI_up (.agg #[.int .i64 a, .int .i64 b, .int .i64 c, .int .i64 d]) (.agg #[.int .u64 lo, .int .u64 hi]) n m X Y) ?_
      intro ys W hR hd K hK
      have l3 : Lst W (ys 3) m Y := hd 3 (by kernel_rfl) (by decide)
      obtain ⟨a3, c3, dd3⟩ := l3.len
      clear l3
      go_simp
      have hK2 := hK (.int .i64 (m : Int)) _ (Below.refl _ _) rfl
      simp (config := { decide := true }) only [upd, if_true, if_false, dd3] at hK2
      exact hK2
    refine ⟨?_, ?_⟩
    · refine SlotStep.below (HdR_up w a b c d lo hi) (hdI_up (.agg #[.int .i64 a, .int .i64 b, .int .i64 c, .int .i64 d]) (.agg #[.int .u64 lo, .int .u64 hi]) n m X Y) ?_
      intro ys W hR hd K hK
      have dd4 : ys 4 = (.int .i64 (m : Int)) := hd 4 (by kernel_rfl) (by decide)
      have hdm : decide ((0 : Int) < (m : Int)) = decide (0 < m) := by simp
      go_simp
      have hK2 := hK (.bool (decide (0 < m))) _ (Below.refl _ _) rfl
      simp (config := { decide := true }) only [upd, if_true, if_false, dd4] at hK2
      exact hK2
    refine ⟨?_, ?_⟩
    · refine SlotStep.below (HdR_up w a b c d lo hi) (hdI_up (.agg #[.int .i64 a, .int .i64 b, .int .i64 c, .int .i64 d]) (.agg #[.int .u64 lo, .int .u64 hi]) n m X Y) ?_
      intro ys W hR hd K hK
      have dd5 : ys 5 = (.bool (decide (0 < m))) := hd 5 (by kernel_rfl) (by decide)
      go_simp
      have hK2 := hK (.bool (decide (0 < m))) _ (Below.refl _ _) rfl
      simp (config := { decide := true }) only [upd, if_true, if_false, dd5] at hK2
      exact hK2
    trivial
    · intro L ys W hL hI
      obtain ⟨hR, hj⟩ := hI
      have y6 : ys 6 = .bool (decide (0 < m)) := hj 6 (by decide) (hL 6 (by decide))
      have HW := Lib.hid hR.1
      clear hR hj
      simp only [y6]
      go_wp2
      go_ret
      exact ⟨rfl, HW.out⟩
end Go.Proofs.YtinopmdefndhoaaDoor
/- How wide a set is, and whether a hand can hold it. -/
namespace Go.Proofs.YtinopmdefndhoaaDoor
open Go Go.RowKit Go.Shelf

theorem width_any (lo hi : Nat) (hl : lo < 18446744073709551616) (hh : hi < 18446744073709551616) (w : World) (G : Gl w) :
    Calls Tryd.prog 44 #[.agg #[.int .u64 lo, .int .u64 hi]] w fun e w' => e = .returned (.int .i64 (wdX (nth (Ns.notes lo hi)) (Ns.notes lo hi).length)) ∧ Below w.heap.size w w' := by
  by_cases h0 : lo = 0 ∧ hi = 0
  · obtain ⟨rfl, rfl⟩ := h0
    have h := width_of 0 0 0 0 false (by decide) (by decide) w G (fun W _ => least_none W) (fun W => greatest_none W)
    rw [Ns.notes_nil]
    exact h
  · have h := width_of lo hi (Ns.least lo hi) (Ns.greatest lo hi) true (Ns.least_spec lo hi hl hh h0).1 (Ns.greatest_spec lo hi hl hh h0).1 w G (fun W g => least_some lo hi hl hh h0 W g) (fun W => greatest_some lo hi hl hh h0 W)
    have e1 : nth (Ns.notes lo hi) 0 = (Ns.least lo hi : Nat) := by rw [Ns.notes_cons lo hi hl hh h0]; rfl
    obtain ⟨pre, hp⟩ := Ns.notes_snoc lo hi hl hh h0
    have e2 : nth (Ns.notes lo hi) ((Ns.notes lo hi).length - 1) = (Ns.greatest lo hi : Nat) := by rw [hp]; simp [nth]
    have e3 : (Ns.notes lo hi).length ≠ 0 := by rw [hp]; simp
    unfold wdX
    rw [if_neg e3, e1, e2]
    exact h

theorem holdX_is (X : Nat → Int) (n : Nat) (k wd : Int) (h : 0 ≤ wd) : holdX X n k wd = (decide ((n : Int) ≤ k) && decide (wdX X n ≤ wd)) := by
  unfold holdX wdX
  by_cases hn : n = 0
  · subst hn; simp [h]
  · simp [hn]

def hhA (w : World) (a _b _c _d _wd : Int) (lo hi n : Nat) : Nat → Value → World → Prop
  | 0, v, _ => v = .agg #[.int .u64 lo, .int .u64 hi]
  | 1, v, _ => v = .int .i64 (n : Nat)
  | 2, v, _ => v = .pointer (some ⟨w.heap.size, 0, none⟩)
  | 3, v, _ => v = .int .i64 a
  | 4, v, _ => v = .bool false
  | 5, v, _ => v = .bool false
  | 6, v, _ => v = undef
  | 7, v, _ => v = undef
  | 8, v, _ => v = undef
  | 9, v, _ => v = undef
  | 10, v, _ => v = undef
  | 11, v, _ => v = .bool false
  | 12, v, _ => v = .bool false
  | _, _, _ => True

theorem hhA_up (w : World) (a b c d wd : Int) (lo hi n : Nat) : ∀ (j : Nat) (v : Value) (A B : World), Below A.heap.size A B → hhA w a b c d wd lo hi n j v A → hhA w a b c d wd lo hi n j v B
  | 0, _, _, _, _, h => h
  | 1, _, _, _, _, h => h
  | 2, _, _, _, _, h => h
  | 3, _, _, _, _, h => h
  | 4, _, _, _, _, h => h
  | 5, _, _, _, _, h => h
  | 6, _, _, _, _, h => h
  | 7, _, _, _, _, h => h
  | 8, _, _, _, _, h => h
  | 9, _, _, _, _, h => h
  | 10, _, _, _, _, h => h
  | 11, _, _, _, _, h => h
  | 12, _, _, _, _, h => h
  | _ + 13, _, _, _, _, _ => trivial

def hhB (w : World) (a b _c _d wd : Int) (lo hi n : Nat) : Nat → Value → World → Prop
  | 0, v, _ => v = .agg #[.int .u64 lo, .int .u64 hi]
  | 1, v, _ => v = .int .i64 (n : Nat)
  | 2, v, _ => v = .pointer (some ⟨w.heap.size, 0, none⟩)
  | 3, v, _ => v = .int .i64 a
  | 4, v, _ => v = .bool true
  | 5, v, _ => v = .bool true
  | 6, v, _ => v = .agg #[.int .u64 lo, .int .u64 hi]
  | 7, v, _ => v = .int .i64 wd
  | 8, v, _ => v = .pointer (some ⟨w.heap.size, 1, none⟩)
  | 9, v, _ => v = .int .i64 b
  | 10, v, _ => v = .bool false
  | 11, v, _ => v = .bool false
  | 12, v, _ => v = .bool false
  | _, _, _ => True

theorem hhB_up (w : World) (a b c d wd : Int) (lo hi n : Nat) : ∀ (j : Nat) (v : Value) (A B : World), Below A.heap.size A B → hhB w a b c d wd lo hi n j v A → hhB w a b c d wd lo hi n j v B
  | 0, _, _, _, _, h => h
  | 1, _, _, _, _, h => h
  | 2, _, _, _, _, h => h
  | 3, _, _, _, _, h => h
  | 4, _, _, _, _, h => h
  | 5, _, _, _, _, h => h
  | 6, _, _, _, _, h => h
  | 7, _, _, _, _, h => h
  | 8, _, _, _, _, h => h
  | 9, _, _, _, _, h => h
  | 10, _, _, _, _, h => h
  | 11, _, _, _, _, h => h
  | 12, _, _, _, _, h => h
  | _ + 13, _, _, _, _, _ => trivial

def hhC (w : World) (a b _c _d wd : Int) (lo hi n : Nat) : Nat → Value → World → Prop
  | 0, v, _ => v = .agg #[.int .u64 lo, .int .u64 hi]
  | 1, v, _ => v = .int .i64 (n : Nat)
  | 2, v, _ => v = .pointer (some ⟨w.heap.size, 0, none⟩)
  | 3, v, _ => v = .int .i64 a
  | 4, v, _ => v = .bool true
  | 5, v, _ => v = .bool true
  | 6, v, _ => v = .agg #[.int .u64 lo, .int .u64 hi]
  | 7, v, _ => v = .int .i64 wd
  | 8, v, _ => v = .pointer (some ⟨w.heap.size, 1, none⟩)
  | 9, v, _ => v = .int .i64 b
  | 10, v, _ => v = .bool true
  | 11, v, _ => v = .bool true
  | 12, v, _ => v = .bool true
  | _, _, _ => True

theorem hhC_up (w : World) (a b c d wd : Int) (lo hi n : Nat) : ∀ (j : Nat) (v : Value) (A B : World), Below A.heap.size A B → hhC w a b c d wd lo hi n j v A → hhC w a b c d wd lo hi n j v B
  | 0, _, _, _, _, h => h
  | 1, _, _, _, _, h => h
  | 2, _, _, _, _, h => h
  | 3, _, _, _, _, h => h
  | 4, _, _, _, _, h => h
  | 5, _, _, _, _, h => h
  | 6, _, _, _, _, h => h
  | 7, _, _, _, _, h => h
  | 8, _, _, _, _, h => h
  | 9, _, _, _, _, h => h
  | 10, _, _, _, _, h => h
  | 11, _, _, _, _, h => h
  | 12, _, _, _, _, h => h
  | _ + 13, _, _, _, _, _ => trivial

set_option maxRecDepth 100000 in
set_option maxHeartbeats 4000000 in
theorem hh_any (a b c d : Int) (lo hi : Nat) (hb : 0 ≤ b) (hl : lo < 18446744073709551616) (hh : hi < 18446744073709551616) (w : World) (G : Gl w) :
    Calls Tryd.prog 38 #[.agg #[.int .i64 a, .int .i64 b, .int .i64 c, .int .i64 d], .agg #[.int .u64 lo, .int .u64 hi]] w fun e w' => e = .returned (.bool (holdX (nth (Ns.notes lo hi)) (Ns.notes lo hi).length a b)) ∧ Below w.heap.size w w' := by
  rw [holdX_is _ _ _ _ hb]
  have wi := fun W g => width_any lo hi hl hh W g
  have co := fun W => count_below lo hi hl hh W
  rw [← notes_pc] at co
  generalize wdX (nth (Ns.notes lo hi)) (Ns.notes lo hi).length = wd at *
  generalize (Ns.notes lo hi).length = n at *
  have WI := Lib.hid wi
  have CO := Lib.hid co
  clear wi co hb hl hh
  have HR0 := Lib.hid (show HdR w a b c d lo hi ((w.alloc (.cells #[.int .i64 a, .int .i64 b, .int .i64 c, .int .i64 d] 23)).alloc (.cells #[.int .u64 lo, .int .u64 hi] 26)) from ⟨((Below.refl _ w).alloc (Nat.le_refl _) _).alloc (by simp) _, heap_old (heap_new rfl), heap_new (by simp)⟩)
  by_cases h1 : (n : Int) ≤ a
  · have H1 := Lib.hid h1
    by_cases h2 : wd ≤ b
    · have H2 := Lib.hid h2
      rw [decide_eq_true h1, decide_eq_true h2]
      clear h1 h2
      go_enter Tryd.func38, Tryd.ntmps38
      go_wp2_with fail
      obtain ⟨V, hV⟩ : ∃ V : World, (w.alloc (.cells #[.int .i64 a, .int .i64 b, .int .i64 c, .int .i64 d] 23)).alloc (.cells #[.int .u64 lo, .int .u64 hi] 26) = V := ⟨_, rfl⟩
      have HR := Lib.hid (show HdR w a b c d lo hi V from hV ▸ HR0.out)
      try rw [hV]
      clear hV
      refine wp_region_slots_at rfl rfl (fun base ys => ((((((((((((base.set 5 (ys 0)).set 6 (ys 1)).set 7 (ys 2)).set 8 (ys 3)).set 9 (ys 4)).set 10 (ys 5)).set 11 (ys 6)).set 12 (ys 7)).set 13 (ys 8)).set 14 (ys 9)).set 15 (ys 10)).set 16 (ys 11)).set 4 (ys 12)) (BelowI _ (HdR w a b c d lo hi) (hhC w a b c d wd lo hi n)) (fun | 12 => .bool false | _ => undef) (by kernel_rfl) (below_start (HdR_up w a b c d lo hi V V.drew ⟨rfl, rfl, rfl, Nat.le_refl _, fun _ _ => rfl⟩ HR.out)) ?h
      case h =>
        intro FF hFF
        simp only [List.set_cons_succ, List.set_cons_zero] at hFF
        subst hFF
        refine ⟨rfl, ?_, ?_⟩
        refine ⟨?_, ?_⟩
        · refine SlotStep.below (HdR_up w a b c d lo hi) (hhC_up w a b c d wd lo hi n) ?_
          intro ys W hR hd K hK
          have c0 := cell2_0 hR.2.2
          have c1 := cell2_1 hR.2.2
          go_simp
          have hK2 := hK (.agg #[.int .u64 lo, .int .u64 hi]) _ (Below.refl _ _) rfl
          simp (config := { decide := true }) only [upd, if_true, if_false] at hK2
          exact hK2
        refine ⟨?_, ?_⟩
        · refine SlotStep.below (HdR_up w a b c d lo hi) (hhC_up w a b c d wd lo hi n) ?_
          intro ys W hR hd K hK
          have dd0 : ys 0 = (.agg #[.int .u64 lo, .int .u64 hi]) := hd 0 (by kernel_rfl) (by decide)
          go_simp
          refine (CO.out W).mono ?_
          rintro e w5 ⟨rfl, hb5⟩
          have hK2 := hK (.int .i64 (n : Nat)) _ hb5 rfl
          simp (config := { decide := true }) only [upd, if_true, if_false, dd0] at hK2
          exact hK2
        refine ⟨?_, ?_⟩
        · refine SlotStep.below (HdR_up w a b c d lo hi) (hhC_up w a b c d wd lo hi n) ?_
          intro ys W hR hd K hK
          go_simp
          have hK2 := hK (.pointer (some ⟨w.heap.size, 0, none⟩)) _ (Below.refl _ _) rfl
          simp (config := { decide := true }) only [upd, if_true, if_false] at hK2
          exact hK2
        refine ⟨?_, ?_⟩
        · refine SlotStep.below (HdR_up w a b c d lo hi) (hhC_up w a b c d wd lo hi n) ?_
          intro ys W hR hd K hK
          have dd2 : ys 2 = (.pointer (some ⟨w.heap.size, 0, none⟩)) := hd 2 (by kernel_rfl) (by decide)
          have c0 := cell4_0 hR.2.1
          go_simp
          have hK2 := hK (.int .i64 a) _ (Below.refl _ _) rfl
          simp (config := { decide := true }) only [upd, if_true, if_false, dd2] at hK2
          exact hK2
        refine ⟨?_, ?_⟩
        · refine SlotStep.below (HdR_up w a b c d lo hi) (hhC_up w a b c d wd lo hi n) ?_
          intro ys W hR hd K hK
          have dd1 : ys 1 = (.int .i64 (n : Nat)) := hd 1 (by kernel_rfl) (by decide)
          have dd3 : ys 3 = (.int .i64 a) := hd 3 (by kernel_rfl) (by decide)
          have hh1 := H1.out
          go_simp
          have hK2 := hK (.bool true) _ (Below.refl _ _) rfl
          simp (config := { decide := true }) only [upd, if_true, if_false, dd1, dd3] at hK2
          exact hK2
        refine ⟨?_, ?_⟩
        · refine SlotStep.below (HdR_up w a b c d lo hi) (hhC_up w a b c d wd lo hi n) ?_
          intro ys W hR hd K hK
          have dd4 : ys 4 = (.bool true) := hd 4 (by kernel_rfl) (by decide)
          go_simp
          have hK2 := hK (.bool true) _ (Below.refl _ _) rfl
          simp (config := { decide := true }) only [upd, if_true, if_false, dd4] at hK2
          exact hK2
        refine ⟨?_, ?_⟩
        · refine SlotStep.below (HdR_up w a b c d lo hi) (hhC_up w a b c d wd lo hi n) ?_
          intro ys W hR hd K hK
          have dd5 : ys 5 = (.bool true) := hd 5 (by kernel_rfl) (by decide)
          have c0 := cell2_0 hR.2.2
          have c1 := cell2_1 hR.2.2
          go_simp
          have hK2 := hK (.agg #[.int .u64 lo, .int .u64 hi]) _ (Below.refl _ _) rfl
          simp (config := { decide := true }) only [upd, if_true, if_false, dd5] at hK2
          exact hK2
        refine ⟨?_, ?_⟩
        · refine SlotStep.below (HdR_up w a b c d lo hi) (hhC_up w a b c d wd lo hi n) ?_
          intro ys W hR hd K hK
          have dd5 : ys 5 = (.bool true) := hd 5 (by kernel_rfl) (by decide)
          have dd6 : ys 6 = (.agg #[.int .u64 lo, .int .u64 hi]) := hd 6 (by kernel_rfl) (by decide)
          go_simp
          refine (WI.out W (G.below hR.1)).mono ?_
          rintro e w5 ⟨rfl, hb5⟩
          have hK2 := hK (.int .i64 wd) _ hb5 rfl
          simp (config := { decide := true }) only [upd, if_true, if_false, dd5, dd6] at hK2
          exact hK2
        refine ⟨?_, ?_⟩
        · refine SlotStep.below (HdR_up w a b c d lo hi) (hhC_up w a b c d wd lo hi n) ?_
          intro ys W hR hd K hK
          have dd5 : ys 5 = (.bool true) := hd 5 (by kernel_rfl) (by decide)
          go_simp
          have hK2 := hK (.pointer (some ⟨w.heap.size, 1, none⟩)) _ (Below.refl _ _) rfl
          simp (config := { decide := true }) only [upd, if_true, if_false, dd5] at hK2
          exact hK2
        refine ⟨?_, ?_⟩
        · refine SlotStep.below (HdR_up w a b c d lo hi) (hhC_up w a b c d wd lo hi n) ?_
          intro ys W hR hd K hK
          have dd5 : ys 5 = (.bool true) := hd 5 (by kernel_rfl) (by decide)
          have dd8 : ys 8 = (.pointer (some ⟨w.heap.size, 1, none⟩)) := hd 8 (by kernel_rfl) (by decide)
          have c0 := cell4_1 hR.2.1
          go_simp
          have hK2 := hK (.int .i64 b) _ (Below.refl _ _) rfl
          simp (config := { decide := true }) only [upd, if_true, if_false, dd5, dd8] at hK2
          exact hK2
        refine ⟨?_, ?_⟩
        · refine SlotStep.below (HdR_up w a b c d lo hi) (hhC_up w a b c d wd lo hi n) ?_
          intro ys W hR hd K hK
          have dd5 : ys 5 = (.bool true) := hd 5 (by kernel_rfl) (by decide)
          have dd7 : ys 7 = (.int .i64 wd) := hd 7 (by kernel_rfl) (by decide)
          have dd9 : ys 9 = (.int .i64 b) := hd 9 (by kernel_rfl) (by decide)
          have hh2 := H2.out
          go_simp
          have hK2 := hK (.bool true) _ (Below.refl _ _) rfl
          simp (config := { decide := true }) only [upd, if_true, if_false, dd5, dd7, dd9] at hK2
          exact hK2
        refine ⟨?_, ?_⟩
        · refine SlotStep.below (HdR_up w a b c d lo hi) (hhC_up w a b c d wd lo hi n) ?_
          intro ys W hR hd K hK
          have dd5 : ys 5 = (.bool true) := hd 5 (by kernel_rfl) (by decide)
          have dd10 : ys 10 = (.bool true) := hd 10 (by kernel_rfl) (by decide)
          go_simp
          have hK2 := hK (.bool true) _ (Below.refl _ _) rfl
          simp (config := { decide := true }) only [upd, if_true, if_false, dd5, dd10] at hK2
          exact hK2
        refine ⟨?_, ?_⟩
        · refine SlotStep.below (HdR_up w a b c d lo hi) (hhC_up w a b c d wd lo hi n) ?_
          intro ys W hR hd K hK
          have dd11 : ys 11 = (.bool true) := hd 11 (by kernel_rfl) (by decide)
          go_simp
          have hK2 := hK (.bool true) _ (Below.refl _ _) rfl
          simp (config := { decide := true }) only [upd, if_true, if_false, dd11] at hK2
          exact hK2
        trivial
        · intro L ys W hL hI
          obtain ⟨hR, hj⟩ := hI
          have y12 : ys 12 = .bool true := hj 12 (by decide) (hL 12 (by decide))
          have HW := Lib.hid hR.1
          clear hR hj
          simp only [y12]
          go_wp2
          go_ret
          exact ⟨rfl, HW.out⟩
    · have H2 := Lib.hid h2
      rw [decide_eq_true h1, decide_eq_false h2]
      clear h1 h2
      go_enter Tryd.func38, Tryd.ntmps38
      go_wp2_with fail
      obtain ⟨V, hV⟩ : ∃ V : World, (w.alloc (.cells #[.int .i64 a, .int .i64 b, .int .i64 c, .int .i64 d] 23)).alloc (.cells #[.int .u64 lo, .int .u64 hi] 26) = V := ⟨_, rfl⟩
      have HR := Lib.hid (show HdR w a b c d lo hi V from hV ▸ HR0.out)
      try rw [hV]
      clear hV
      refine wp_region_slots_at rfl rfl (fun base ys => ((((((((((((base.set 5 (ys 0)).set 6 (ys 1)).set 7 (ys 2)).set 8 (ys 3)).set 9 (ys 4)).set 10 (ys 5)).set 11 (ys 6)).set 12 (ys 7)).set 13 (ys 8)).set 14 (ys 9)).set 15 (ys 10)).set 16 (ys 11)).set 4 (ys 12)) (BelowI _ (HdR w a b c d lo hi) (hhB w a b c d wd lo hi n)) (fun | 12 => .bool false | _ => undef) (by kernel_rfl) (below_start (HdR_up w a b c d lo hi V V.drew ⟨rfl, rfl, rfl, Nat.le_refl _, fun _ _ => rfl⟩ HR.out)) ?h
      case h =>
        intro FF hFF
        simp only [List.set_cons_succ, List.set_cons_zero] at hFF
        subst hFF
        refine ⟨rfl, ?_, ?_⟩
        refine ⟨?_, ?_⟩
        · refine SlotStep.below (HdR_up w a b c d lo hi) (hhB_up w a b c d wd lo hi n) ?_
          intro ys W hR hd K hK
          have c0 := cell2_0 hR.2.2
          have c1 := cell2_1 hR.2.2
          go_simp
          have hK2 := hK (.agg #[.int .u64 lo, .int .u64 hi]) _ (Below.refl _ _) rfl
          simp (config := { decide := true }) only [upd, if_true, if_false] at hK2
          exact hK2
        refine ⟨?_, ?_⟩
        · refine SlotStep.below (HdR_up w a b c d lo hi) (hhB_up w a b c d wd lo hi n) ?_
          intro ys W hR hd K hK
          have dd0 : ys 0 = (.agg #[.int .u64 lo, .int .u64 hi]) := hd 0 (by kernel_rfl) (by decide)
          go_simp
          refine (CO.out W).mono ?_
          rintro e w5 ⟨rfl, hb5⟩
          have hK2 := hK (.int .i64 (n : Nat)) _ hb5 rfl
          simp (config := { decide := true }) only [upd, if_true, if_false, dd0] at hK2
          exact hK2
        refine ⟨?_, ?_⟩
        · refine SlotStep.below (HdR_up w a b c d lo hi) (hhB_up w a b c d wd lo hi n) ?_
          intro ys W hR hd K hK
          go_simp
          have hK2 := hK (.pointer (some ⟨w.heap.size, 0, none⟩)) _ (Below.refl _ _) rfl
          simp (config := { decide := true }) only [upd, if_true, if_false] at hK2
          exact hK2
        refine ⟨?_, ?_⟩
        · refine SlotStep.below (HdR_up w a b c d lo hi) (hhB_up w a b c d wd lo hi n) ?_
          intro ys W hR hd K hK
          have dd2 : ys 2 = (.pointer (some ⟨w.heap.size, 0, none⟩)) := hd 2 (by kernel_rfl) (by decide)
          have c0 := cell4_0 hR.2.1
          go_simp
          have hK2 := hK (.int .i64 a) _ (Below.refl _ _) rfl
          simp (config := { decide := true }) only [upd, if_true, if_false, dd2] at hK2
          exact hK2
        refine ⟨?_, ?_⟩
        · refine SlotStep.below (HdR_up w a b c d lo hi) (hhB_up w a b c d wd lo hi n) ?_
          intro ys W hR hd K hK
          have dd1 : ys 1 = (.int .i64 (n : Nat)) := hd 1 (by kernel_rfl) (by decide)
          have dd3 : ys 3 = (.int .i64 a) := hd 3 (by kernel_rfl) (by decide)
          have hh1 := H1.out
          go_simp
          have hK2 := hK (.bool true) _ (Below.refl _ _) rfl
          simp (config := { decide := true }) only [upd, if_true, if_false, dd1, dd3] at hK2
          exact hK2
        refine ⟨?_, ?_⟩
        · refine SlotStep.below (HdR_up w a b c d lo hi) (hhB_up w a b c d wd lo hi n) ?_
          intro ys W hR hd K hK
          have dd4 : ys 4 = (.bool true) := hd 4 (by kernel_rfl) (by decide)
          go_simp
          have hK2 := hK (.bool true) _ (Below.refl _ _) rfl
          simp (config := { decide := true }) only [upd, if_true, if_false, dd4] at hK2
          exact hK2
        refine ⟨?_, ?_⟩
        · refine SlotStep.below (HdR_up w a b c d lo hi) (hhB_up w a b c d wd lo hi n) ?_
          intro ys W hR hd K hK
          have dd5 : ys 5 = (.bool true) := hd 5 (by kernel_rfl) (by decide)
          have c0 := cell2_0 hR.2.2
          have c1 := cell2_1 hR.2.2
          go_simp
          have hK2 := hK (.agg #[.int .u64 lo, .int .u64 hi]) _ (Below.refl _ _) rfl
          simp (config := { decide := true }) only [upd, if_true, if_false, dd5] at hK2
          exact hK2
        refine ⟨?_, ?_⟩
        · refine SlotStep.below (HdR_up w a b c d lo hi) (hhB_up w a b c d wd lo hi n) ?_
          intro ys W hR hd K hK
          have dd5 : ys 5 = (.bool true) := hd 5 (by kernel_rfl) (by decide)
          have dd6 : ys 6 = (.agg #[.int .u64 lo, .int .u64 hi]) := hd 6 (by kernel_rfl) (by decide)
          go_simp
          refine (WI.out W (G.below hR.1)).mono ?_
          rintro e w5 ⟨rfl, hb5⟩
          have hK2 := hK (.int .i64 wd) _ hb5 rfl
          simp (config := { decide := true }) only [upd, if_true, if_false, dd5, dd6] at hK2
          exact hK2
        refine ⟨?_, ?_⟩
        · refine SlotStep.below (HdR_up w a b c d lo hi) (hhB_up w a b c d wd lo hi n) ?_
          intro ys W hR hd K hK
          have dd5 : ys 5 = (.bool true) := hd 5 (by kernel_rfl) (by decide)
          go_simp
          have hK2 := hK (.pointer (some ⟨w.heap.size, 1, none⟩)) _ (Below.refl _ _) rfl
          simp (config := { decide := true }) only [upd, if_true, if_false, dd5] at hK2
          exact hK2
        refine ⟨?_, ?_⟩
        · refine SlotStep.below (HdR_up w a b c d lo hi) (hhB_up w a b c d wd lo hi n) ?_
          intro ys W hR hd K hK
          have dd5 : ys 5 = (.bool true) := hd 5 (by kernel_rfl) (by decide)
          have dd8 : ys 8 = (.pointer (some ⟨w.heap.size, 1, none⟩)) := hd 8 (by kernel_rfl) (by decide)
          have c0 := cell4_1 hR.2.1
          go_simp
          have hK2 := hK (.int .i64 b) _ (Below.refl _ _) rfl
          simp (config := { decide := true }) only [upd, if_true, if_false, dd5, dd8] at hK2
          exact hK2
        refine ⟨?_, ?_⟩
        · refine SlotStep.below (HdR_up w a b c d lo hi) (hhB_up w a b c d wd lo hi n) ?_
          intro ys W hR hd K hK
          have dd5 : ys 5 = (.bool true) := hd 5 (by kernel_rfl) (by decide)
          have dd7 : ys 7 = (.int .i64 wd) := hd 7 (by kernel_rfl) (by decide)
          have dd9 : ys 9 = (.int .i64 b) := hd 9 (by kernel_rfl) (by decide)
          have hh2 : decide (wd ≤ b) = false := decide_eq_false (by have := H2.out; omega)
          go_simp
          have hK2 := hK (.bool false) _ (Below.refl _ _) rfl
          simp (config := { decide := true }) only [upd, if_true, if_false, dd5, dd7, dd9] at hK2
          exact hK2
        refine ⟨?_, ?_⟩
        · refine SlotStep.below (HdR_up w a b c d lo hi) (hhB_up w a b c d wd lo hi n) ?_
          intro ys W hR hd K hK
          have dd5 : ys 5 = (.bool true) := hd 5 (by kernel_rfl) (by decide)
          have dd10 : ys 10 = (.bool false) := hd 10 (by kernel_rfl) (by decide)
          go_simp
          have hK2 := hK (.bool false) _ (Below.refl _ _) rfl
          simp (config := { decide := true }) only [upd, if_true, if_false, dd5, dd10] at hK2
          exact hK2
        refine ⟨?_, ?_⟩
        · refine SlotStep.below (HdR_up w a b c d lo hi) (hhB_up w a b c d wd lo hi n) ?_
          intro ys W hR hd K hK
          have dd11 : ys 11 = (.bool false) := hd 11 (by kernel_rfl) (by decide)
          go_simp
          have hK2 := hK (.bool false) _ (Below.refl _ _) rfl
          simp (config := { decide := true }) only [upd, if_true, if_false, dd11] at hK2
          exact hK2
        trivial
        · intro L ys W hL hI
          obtain ⟨hR, hj⟩ := hI
          have y12 : ys 12 = .bool false := hj 12 (by decide) (hL 12 (by decide))
          have HW := Lib.hid hR.1
          clear hR hj
          simp only [y12]
          go_wp2
          go_ret
          exact ⟨rfl, HW.out⟩
  · have H1 := Lib.hid h1
    rw [decide_eq_false h1, Bool.false_and]
    clear h1
    go_enter Tryd.func38, Tryd.ntmps38
    go_wp2_with fail
    obtain ⟨V, hV⟩ : ∃ V : World, (w.alloc (.cells #[.int .i64 a, .int .i64 b, .int .i64 c, .int .i64 d] 23)).alloc (.cells #[.int .u64 lo, .int .u64 hi] 26) = V := ⟨_, rfl⟩
    have HR := Lib.hid (show HdR w a b c d lo hi V from hV ▸ HR0.out)
    try rw [hV]
    clear hV
    refine wp_region_slots_at rfl rfl (fun base ys => ((((((((((((base.set 5 (ys 0)).set 6 (ys 1)).set 7 (ys 2)).set 8 (ys 3)).set 9 (ys 4)).set 10 (ys 5)).set 11 (ys 6)).set 12 (ys 7)).set 13 (ys 8)).set 14 (ys 9)).set 15 (ys 10)).set 16 (ys 11)).set 4 (ys 12)) (BelowI _ (HdR w a b c d lo hi) (hhA w a b c d wd lo hi n)) (fun | 12 => .bool false | _ => undef) (by kernel_rfl) (below_start (HdR_up w a b c d lo hi V V.drew ⟨rfl, rfl, rfl, Nat.le_refl _, fun _ _ => rfl⟩ HR.out)) ?h
    case h =>
      intro FF hFF
      simp only [List.set_cons_succ, List.set_cons_zero] at hFF
      subst hFF
      refine ⟨rfl, ?_, ?_⟩
      refine ⟨?_, ?_⟩
      · refine SlotStep.below (HdR_up w a b c d lo hi) (hhA_up w a b c d wd lo hi n) ?_
        intro ys W hR hd K hK
        have c0 := cell2_0 hR.2.2
        have c1 := cell2_1 hR.2.2
        go_simp
        have hK2 := hK (.agg #[.int .u64 lo, .int .u64 hi]) _ (Below.refl _ _) rfl
        simp (config := { decide := true }) only [upd, if_true, if_false] at hK2
        exact hK2
      refine ⟨?_, ?_⟩
      · refine SlotStep.below (HdR_up w a b c d lo hi) (hhA_up w a b c d wd lo hi n) ?_
        intro ys W hR hd K hK
        have dd0 : ys 0 = (.agg #[.int .u64 lo, .int .u64 hi]) := hd 0 (by kernel_rfl) (by decide)
        go_simp
        refine (CO.out W).mono ?_
        rintro e w5 ⟨rfl, hb5⟩
        have hK2 := hK (.int .i64 (n : Nat)) _ hb5 rfl
        simp (config := { decide := true }) only [upd, if_true, if_false, dd0] at hK2
        exact hK2
      refine ⟨?_, ?_⟩
      · refine SlotStep.below (HdR_up w a b c d lo hi) (hhA_up w a b c d wd lo hi n) ?_
        intro ys W hR hd K hK
        go_simp
        have hK2 := hK (.pointer (some ⟨w.heap.size, 0, none⟩)) _ (Below.refl _ _) rfl
        simp (config := { decide := true }) only [upd, if_true, if_false] at hK2
        exact hK2
      refine ⟨?_, ?_⟩
      · refine SlotStep.below (HdR_up w a b c d lo hi) (hhA_up w a b c d wd lo hi n) ?_
        intro ys W hR hd K hK
        have dd2 : ys 2 = (.pointer (some ⟨w.heap.size, 0, none⟩)) := hd 2 (by kernel_rfl) (by decide)
        have c0 := cell4_0 hR.2.1
        go_simp
        have hK2 := hK (.int .i64 a) _ (Below.refl _ _) rfl
        simp (config := { decide := true }) only [upd, if_true, if_false, dd2] at hK2
        exact hK2
      refine ⟨?_, ?_⟩
      · refine SlotStep.below (HdR_up w a b c d lo hi) (hhA_up w a b c d wd lo hi n) ?_
        intro ys W hR hd K hK
        have dd1 : ys 1 = (.int .i64 (n : Nat)) := hd 1 (by kernel_rfl) (by decide)
        have dd3 : ys 3 = (.int .i64 a) := hd 3 (by kernel_rfl) (by decide)
        have hh1 : decide ((n : Int) ≤ a) = false := decide_eq_false (by have := H1.out; omega)
        go_simp
        have hK2 := hK (.bool false) _ (Below.refl _ _) rfl
        simp (config := { decide := true }) only [upd, if_true, if_false, dd1, dd3] at hK2
        exact hK2
      refine ⟨?_, ?_⟩
      · refine SlotStep.below (HdR_up w a b c d lo hi) (hhA_up w a b c d wd lo hi n) ?_
        intro ys W hR hd K hK
        have dd4 : ys 4 = (.bool false) := hd 4 (by kernel_rfl) (by decide)
        go_simp
        have hK2 := hK (.bool false) _ (Below.refl _ _) rfl
        simp (config := { decide := true }) only [upd, if_true, if_false, dd4] at hK2
        exact hK2
      refine ⟨?_, ?_⟩
      · refine SlotStep.below (HdR_up w a b c d lo hi) (hhA_up w a b c d wd lo hi n) ?_
        intro ys W hR hd K hK
        have dd5 : ys 5 = (.bool false) := hd 5 (by kernel_rfl) (by decide)
        go_simp
        have hK2 := hK (undef) _ (Below.refl _ _) rfl
        simp (config := { decide := true }) only [upd, if_true, if_false, dd5] at hK2
        exact hK2
      refine ⟨?_, ?_⟩
      · refine SlotStep.below (HdR_up w a b c d lo hi) (hhA_up w a b c d wd lo hi n) ?_
        intro ys W hR hd K hK
        have dd5 : ys 5 = (.bool false) := hd 5 (by kernel_rfl) (by decide)
        have dd6 : ys 6 = (undef) := hd 6 (by kernel_rfl) (by decide)
        go_simp
        have hK2 := hK (undef) _ (Below.refl _ _) rfl
        simp (config := { decide := true }) only [upd, if_true, if_false, dd5, dd6] at hK2
        exact hK2
      refine ⟨?_, ?_⟩
      · refine SlotStep.below (HdR_up w a b c d lo hi) (hhA_up w a b c d wd lo hi n) ?_
        intro ys W hR hd K hK
        have dd5 : ys 5 = (.bool false) := hd 5 (by kernel_rfl) (by decide)
        go_simp
        have hK2 := hK (undef) _ (Below.refl _ _) rfl
        simp (config := { decide := true }) only [upd, if_true, if_false, dd5] at hK2
        exact hK2
      refine ⟨?_, ?_⟩
      · refine SlotStep.below (HdR_up w a b c d lo hi) (hhA_up w a b c d wd lo hi n) ?_
        intro ys W hR hd K hK
        have dd5 : ys 5 = (.bool false) := hd 5 (by kernel_rfl) (by decide)
        have dd8 : ys 8 = (undef) := hd 8 (by kernel_rfl) (by decide)
        go_simp
        have hK2 := hK (undef) _ (Below.refl _ _) rfl
        simp (config := { decide := true }) only [upd, if_true, if_false, dd5, dd8] at hK2
        exact hK2
      refine ⟨?_, ?_⟩
      · refine SlotStep.below (HdR_up w a b c d lo hi) (hhA_up w a b c d wd lo hi n) ?_
        intro ys W hR hd K hK
        have dd5 : ys 5 = (.bool false) := hd 5 (by kernel_rfl) (by decide)
        have dd7 : ys 7 = (undef) := hd 7 (by kernel_rfl) (by decide)
        have dd9 : ys 9 = (undef) := hd 9 (by kernel_rfl) (by decide)
        go_simp
        have hK2 := hK (undef) _ (Below.refl _ _) rfl
        simp (config := { decide := true }) only [upd, if_true, if_false, dd5, dd7, dd9] at hK2
        exact hK2
      refine ⟨?_, ?_⟩
      · refine SlotStep.below (HdR_up w a b c d lo hi) (hhA_up w a b c d wd lo hi n) ?_
        intro ys W hR hd K hK
        have dd5 : ys 5 = (.bool false) := hd 5 (by kernel_rfl) (by decide)
        have dd10 : ys 10 = (undef) := hd 10 (by kernel_rfl) (by decide)
        go_simp
        have hK2 := hK (.bool false) _ (Below.refl _ _) rfl
        simp (config := { decide := true }) only [upd, if_true, if_false, dd5, dd10] at hK2
        exact hK2
      refine ⟨?_, ?_⟩
      · refine SlotStep.below (HdR_up w a b c d lo hi) (hhA_up w a b c d wd lo hi n) ?_
        intro ys W hR hd K hK
        have dd11 : ys 11 = (.bool false) := hd 11 (by kernel_rfl) (by decide)
        go_simp
        have hK2 := hK (.bool false) _ (Below.refl _ _) rfl
        simp (config := { decide := true }) only [upd, if_true, if_false, dd11] at hK2
        exact hK2
      trivial
      · intro L ys W hL hI
        obtain ⟨hR, hj⟩ := hI
        have y12 : ys 12 = .bool false := hj 12 (by decide) (hL 12 (by decide))
        have HW := Lib.hid hR.1
        clear hR hj
        simp only [y12]
        go_wp2
        go_ret
        exact ⟨rfl, HW.out⟩
end Go.Proofs.YtinopmdefndhoaaDoor
/- The iterator over a set's divisions, by what it gives. -/
namespace Go.Proofs.YtinopmdefndhoaaDoor
open Go Go.RowKit Go.Shelf
attribute [local go_sem] Oper.semAt_some
attribute [local go_sem] wide_fn wide_depth

theorem holdX_cong2 (X Y : Nat → Int) (n : Nat) (k wd : Int) (h : ∀ j, j < n → X j = Y j) : holdX X n k wd = holdX Y n k wd := by
  unfold holdX
  by_cases hn : n = 0
  · subst hn; rfl
  · rw [h 0 (by omega), h (n - 1) (by omega)]
theorem nth_take (L : List Nat) (t j : Nat) (h : j < t) : nth (L.take t) j = nth L j := by
  unfold nth
  rw [List.getD_eq_getElem?_getD, List.getD_eq_getElem?_getD, List.getElem?_take_of_lt h]
theorem nth_drop (L : List Nat) (t j : Nat) : nth (L.drop t) j = nth L (t + j) := by
  unfold nth
  rw [List.getD_eq_getElem?_getD, List.getD_eq_getElem?_getD, List.getElem?_drop]
/-- Both parts of a cut as they are held. -/
theorem left_hold (lo hi t : Nat) (a b : Int) (ht : t ≤ (Ns.notes lo hi).length) :
    holdX (nth (Ns.notes (ofN ((Ns.notes lo hi).take t)).1 (ofN ((Ns.notes lo hi).take t)).2)) (Ns.notes (ofN ((Ns.notes lo hi).take t)).1 (ofN ((Ns.notes lo hi).take t)).2).length a b = holdX (nth (Ns.notes lo hi)) t a b := by
  rw [notes_ofN _ (fun x hx => Ns.notes_lt (List.mem_of_mem_take hx)) ((notes_inc lo hi).sublist (List.take_sublist _ _))]
  rw [List.length_take, Nat.min_eq_left ht]
  exact holdX_cong2 _ _ _ _ _ fun j hj => nth_take _ _ _ hj
theorem right_hold (lo hi t : Nat) (a b : Int) :
    holdX (nth (Ns.notes (ofN ((Ns.notes lo hi).drop t)).1 (ofN ((Ns.notes lo hi).drop t)).2)) (Ns.notes (ofN ((Ns.notes lo hi).drop t)).1 (ofN ((Ns.notes lo hi).drop t)).2).length a b = holdX (fun j => nth (Ns.notes lo hi) (t + j)) ((Ns.notes lo hi).length - t) a b := by
  rw [notes_ofN _ (fun x hx => Ns.notes_lt (List.mem_of_mem_drop hx)) ((notes_inc lo hi).sublist (List.drop_sublist _ _))]
  rw [List.length_drop]
  exact holdX_cong2 _ _ _ _ _ fun j _ => nth_drop _ _ _
theorem take_lt (lo hi t : Nat) : (ofN ((Ns.notes lo hi).take t)).1 < 18446744073709551616 ∧ (ofN ((Ns.notes lo hi).take t)).2 < 18446744073709551616 := ofN_lt _ fun _ hx => Ns.notes_lt (List.mem_of_mem_take hx)
theorem drop_lt (lo hi t : Nat) : (ofN ((Ns.notes lo hi).drop t)).1 < 18446744073709551616 ∧ (ofN ((Ns.notes lo hi).drop t)).2 < 18446744073709551616 := ofN_lt _ fun _ hx => Ns.notes_lt (List.mem_of_mem_drop hx)

/-- Where a player lies. -/
def PlAt (w : World) (k : Nat) (a b c d : Int) : Prop := w.heap[k]? = some (.cells #[.int .i64 a, .int .i64 b, .int .i64 c, .int .i64 d] 23)
theorem PlAt.lt {w : World} {k : Nat} {a b c d : Int} (h : PlAt w k a b c d) : k < w.heap.size := (Array.getElem?_eq_some_iff.1 h).1
theorem PlAt.kr {n₁ b' : Nat} {w w' : World} {k : Nat} {a b c d : Int} (h : PlAt w k a b c d) (hn : n₁ ≤ k) (hr : Rn.Kr n₁ b' w w') : PlAt w' k a b c d := hr.same k _ h (.inr ⟨hn, _, _, _, rfl, .inr (.inl rfl)⟩)
theorem PlAt.below {w w' : World} {k B : Nat} {a b c d : Int} (h : PlAt w k a b c d) (hB : k < B) (hb : Below B w w') : PlAt w' k a b c d := (hb.block k hB).trans h
theorem SetAt.putO {w : World} {b lo hi k : Nat} {o : Obj} (o' : Obj) (h : SetAt w b lo hi) (hk : w.heap[k]? = some o) (ho : o.isCells = false) : SetAt (w.putObj k o') b lo hi :=
  (World.putObj_heap_other (fun e => by subst e; rw [show w.heap[b]? = _ from h] at hk; cases hk; cases ho)).trans h

set_option maxHeartbeats 400000 in
theorem divisions_c (a b c d : Int) (lo hi : Nat) (w : World) :
    Calls Tryd.prog 41 #[.agg #[.int .i64 a, .int .i64 b, .int .i64 c, .int .i64 d], .agg #[.int .u64 lo, .int .u64 hi]] w fun e w' => e = .returned (.func (.func 56) #[] #[.pointer (some ⟨w.heap.size + 1, 0, none⟩), .pointer (some ⟨w.heap.size, 0, none⟩)]) ∧ w' = (w.alloc (.cells #[.int .i64 a, .int .i64 b, .int .i64 c, .int .i64 d] 23)).alloc (.cells #[.int .u64 lo, .int .u64 hi] 26) := by
  go_enter Tryd.func41, Tryd.ntmps41
  go_wp2
  go_ret
  exact ⟨rfl, rfl⟩

theorem filter_snoc_t (D : Nat → Bool) (pre : List Nat) (t : Nat) (h : D t = true) : (pre ++ [t]).filter D = pre.filter D ++ [t] := by rw [List.filter_append, List.filter_cons_of_pos h]; rfl
theorem filter_snoc_f (D : Nat → Bool) (pre : List Nat) (t : Nat) (h : D t = false) : (pre ++ [t]).filter D = pre.filter D := by rw [List.filter_append, List.filter_cons_of_neg (by rw [h]; decide)]; simp

set_option maxRecDepth 100000 in
set_option maxHeartbeats 4000000 in
theorem div_gives (n₁ : Nat) (a b c d : Int) (lo hi : Nat) (hb : 0 ≤ b) (hl : lo < 18446744073709551616) (hh : hi < 18446744073709551616) (n Bs Bp : Nat) (hn : 2 ≤ n) (w : World) (hn₁ : n₁ ≤ w.heap.size) (hB : n₁ ≤ Bs) (hBp : n₁ ≤ Bp) (hS : SetAt w Bs lo hi) (hP : PlAt w Bp a b c d) :
    Rn.Gives n₁ Fence.wide n Tryd.prog 56 #[.pointer (some ⟨Bs, 0, none⟩), .pointer (some ⟨Bp, 0, none⟩)] (cutE (Ns.notes lo hi)) (divU (nth (Ns.notes lo hi)) (Ns.notes lo hi).length a b ((Ns.notes lo hi).length + 1)) w Gl := by
  intro l J Jx W hbW hJ hJx hJK hY h0
  have hS' := hS.below hS.lt hbW
  have hP' := hP.below hP.lt hbW
  have hz := hbW.size
  have hBs := hS'.lt
  have hBq := hP'.lt
  unfold divU at hY ⊢
  have HD := Lib.hid (show ∀ t, divB (nth (Ns.notes lo hi)) (Ns.notes lo hi).length a b t = (holdX (nth (Ns.notes lo hi)) t a b && holdX (fun j => nth (Ns.notes lo hi) (t + j)) ((Ns.notes lo hi).length - t) a b) from fun t => rfl)
  generalize hDD : (fun t => divB (nth (Ns.notes lo hi)) (Ns.notes lo hi).length a b t) = D at *
  have HDD := Lib.hid (show ∀ t, D t = divB (nth (Ns.notes lo hi)) (Ns.notes lo hi).length a b t from fun t => by rw [← hDD])
  clear hDD
  have HY := Lib.hid hY
  have HJX := Lib.hid hJx
  have HJK := Lib.hid hJK
  have HJ := Lib.hid hJ
  clear hY hJx hJK hJ
  obtain ⟨W1, hW1⟩ : ∃ W1, W.alloc (.cells #[.func (.yield l) #[] #[]] 90) = W1 := ⟨_, rfl⟩
  have hb1 : Below W.heap.size W W1 := by rw [← hW1]; exact (Below.refl _ _).alloc (Nat.le_refl _) _
  have hz1 := hb1.size
  have hS1 : SetAt W1 Bs lo hi := hS'.below hBs hb1
  have hP1 : PlAt W1 Bp a b c d := hP'.below hBq hb1
  have hF1 : FnAt W1 W.heap.size l := by rw [← hW1]; exact World.alloc_heap_new W _
  have hJ1 : J [] W1 := HJ.out _ _ _ h0 (Rn.Step.of_below (by omega) hb1)
  obtain ⟨Y, hYz⟩ : ∃ Y, W.heap.size = Y := ⟨_, rfl⟩
  show CallsIn Fence.wide n Tryd.prog 56 #[.func (.yield l) #[] #[], .pointer (some ⟨Bs, 0, none⟩), .pointer (some ⟨Bp, 0, none⟩)] W _
  refine callsIn_of_wp_marks Tryd.func56 rfl trivial ?_ rfl
  simp only [Tryd.ntmps56, List.size_toArray, List.length_cons, List.length_nil, Nat.reduceAdd, Nat.reduceSub, Array.replicate_succ, Array.replicate_zero, List.push_toArray, List.append_toArray, List.nil_append, List.cons_append]
  have c0 : (W.alloc (.cells #[.func (.yield l) #[] #[]] 90)).cell? ⟨Bs, 0, none⟩ = some (.int .u64 lo) := by rw [hW1]; exact hS1.fst
  have c1 : (W.alloc (.cells #[.func (.yield l) #[] #[]] 90)).cell? ⟨Bs, 1, none⟩ = some (.int .u64 hi) := by rw [hW1]; exact hS1.snd
  have HW1 := Lib.hid hW1
  clear hW1
  gi_wp2_with fail
  refine (callsIn_wide.2 (cuts_c lo hi _)).mono ?_
  clear c0 c1
  rw [HW1.out]
  rintro e w' ⟨rfl, rfl⟩
  obtain ⟨V, hV⟩ : ∃ V, W1.alloc (.cells #[.int .u64 lo, .int .u64 hi] 26) = V := ⟨_, rfl⟩
  have hlt1 := hS1.lt
  have hF1' : FnAt W1 Y l := by rw [← hYz]; exact hF1
  have hY1 := hF1'.lt
  have hbV : Below W1.heap.size W1 V := by rw [← hV]; exact (Below.refl _ _).alloc (Nat.le_refl _) _
  have hzV : V.heap.size = W1.heap.size + 1 := by rw [← hV]; simp
  have hSV : SetAt V W1.heap.size lo hi := by rw [← hV]; exact SetAt.new W1 lo hi
  have hJV : J [] V := HJ.out _ _ _ hJ1 (Rn.Step.of_below (by omega) hbV)
  have hS4 : SetAt V Bs lo hi := hS1.below hlt1 hbV
  have hP4 : PlAt V Bp a b c d := hP1.below hP1.lt hbV
  have hF4 : FnAt V Y l := hF1'.below hY1 hbV
  have hltp := hP1.lt
  rw [hV]
  clear hV hbV
  gi_wp2_with fail
  refine Rn.range_all rfl (by omega) (gf := 57) (lb := #[.pointer (some ⟨W1.heap.size, 0, none⟩)]) rfl trivial (enters_of Tryd.func57 (by kernel_rfl) rfl) (n₁ := W1.heap.size) (by omega)
    (cuts_gives W1.heap.size lo hi hl hh (n - 1) W1.heap.size (by omega) V (by omega) (Nat.le_refl _) hSV) (fun _ => rfl)
    (fun pre A => J (pre.filter D) A ∧ SetAt A Bs lo hi ∧ PlAt A Bp a b c d ∧ FnAt A Y l ∧ V.heap.size ≤ A.heap.size)
    (fun k pre A => k = .ret ∧ Jx (pre.filter D) A)
    (fun s A B h st => ⟨HJ.out _ _ _ h.1 (st.mono (by omega) (by omega)), h.2.1.below hlt1 st.below, h.2.2.1.below hltp st.below, h.2.2.2.1.below hY1 st.below, Nat.le_trans h.2.2.2.2 st.below.size⟩)
    (fun k s A B h st => ⟨h.1, HJX.out _ _ _ h.2 (st.mono (by omega) (by omega))⟩)
    (fun s A h => HJK.out _ _ h.1)
    ⟨hJV, hS4, hP4, hF4, Nat.le_refl _⟩
    (fun t a' A => ∃ b4 b5, SetAt A b4 (ofN ((Ns.notes lo hi).take t)).1 (ofN ((Ns.notes lo hi).take t)).2 ∧ SetAt A b5 (ofN ((Ns.notes lo hi).drop t)).1 (ofN ((Ns.notes lo hi).drop t)).2 ∧ a' = { tmps := #[.func (.yield l) #[] #[], .pointer (some ⟨Bs, 0, none⟩), .pointer (some ⟨Bp, 0, none⟩), .pointer (some ⟨Y, 0, none⟩), .pointer (some ⟨b4, 0, none⟩), .pointer (some ⟨b5, 0, none⟩), .agg #[.int .u64 lo, .int .u64 hi], .func (.func 57) #[] #[.pointer (some ⟨W1.heap.size, 0, none⟩)], .agg #[.int .u64 ((ofN ((Ns.notes lo hi).take t)).1 : Nat), .int .u64 ((ofN ((Ns.notes lo hi).take t)).2 : Nat)], .agg #[.int .u64 ((ofN ((Ns.notes lo hi).drop t)).1 : Nat), .int .u64 ((ofN ((Ns.notes lo hi).drop t)).2 : Nat)], undef, undef, undef, undef, undef, undef, undef, undef, undef, undef, undef, undef, undef, undef, undef], defers := [] })
    (fun t a' A k o o' hk ho ⟨b4, b5, h4, h5, e⟩ => ⟨b4, b5, h4.putO o' hk ho, h5.putO o' hk ho, e⟩) ?assign ?body ?done ?stop
  case assign =>
    intro l' pre t A K _ _ hK
    unfold cutE
    generalize (ofN ((Ns.notes lo hi).take t)).1 = t1 at *
    generalize (ofN ((Ns.notes lo hi).take t)).2 = t2 at *
    generalize (ofN ((Ns.notes lo hi).drop t)).1 = t3 at *
    generalize (ofN ((Ns.notes lo hi).drop t)).2 = t4 at *
    gi_wp2
    exact hK _ _ (((Below.refl _ A).alloc (Nat.le_refl _) _).alloc (by simp) _) ⟨_, _, (SetAt.new A t1 t2).below (by simp) ((Below.refl _ _).alloc (Nat.le_refl _) _), SetAt.new _ t3 t4, by simp⟩
  case body =>
    rintro l' pre t a' A ⟨hJb, hSb, hPb, hFb, hzb⟩ ⟨post, hpost⟩ hszA ⟨b4, b5, h4, h5, rfl⟩
    have ht : t ≤ (Ns.notes lo hi).length := by
      have : t ∈ List.range' 0 ((Ns.notes lo hi).length + 1) := by rw [hpost]; simp
      have := List.mem_range'_1.1 this
      omega
    have hl1 := (take_lt lo hi t).1
    have hl2 := (take_lt lo hi t).2
    have hl3 := (drop_lt lo hi t).1
    have hl4 := (drop_lt lo hi t).2
    have k1 := fun W g => hh_any a b c d _ _ hb hl1 hl2 W g
    have k2 := fun W g => hh_any a b c d _ _ hb hl3 hl4 W g
    rw [left_hold lo hi t a b ht] at k1
    rw [right_hold lo hi t a b] at k2
    have hdt : D t = (holdX (nth (Ns.notes lo hi)) t a b && holdX (fun j => nth (Ns.notes lo hi) (t + j)) ((Ns.notes lo hi).length - t) a b) := by rw [HDD.out, HD.out]
    have hyt := fun (B : World) (hJB : J (pre.filter D) B) (h : D t = true) => HY.out _ t B hJB ⟨post.filter D, by rw [hpost, List.filter_append, List.filter_cons_of_pos h]⟩
    unfold cutE at hyt
    generalize holdX (nth (Ns.notes lo hi)) t a b = r1 at *
    generalize holdX (fun j => nth (Ns.notes lo hi) (t + j)) ((Ns.notes lo hi).length - t) a b = r2 at *
    generalize (ofN ((Ns.notes lo hi).take t)).1 = t1 at *
    generalize (ofN ((Ns.notes lo hi).take t)).2 = t2 at *
    generalize (ofN ((Ns.notes lo hi).drop t)).1 = t3 at *
    generalize (ofN ((Ns.notes lo hi).drop t)).2 = t4 at *
    have K1 := Lib.hid k1
    have K2 := Lib.hid k2
    have HYT := Lib.hid hyt
    clear k1 k2 hyt hpost
    have GA := HJK.out _ _ hJb
    have c0 := cell4_0 hPb
    have c1 := cell4_1 hPb
    have c2 := cell4_2 hPb
    have c3 := cell4_3 hPb
    have e0 := h4.fst
    have e1 := h4.snd
    have hltb := hSb.lt
    have hltq := hPb.lt
    have hlt4 := h4.lt
    have hlt5 := h5.lt
    have hltf := hFb.lt
    gi_wp2_with fail
    refine (CallsIn.inRound l' (callsIn_wide.2 (K1.out _ GA))).mono ?_
    rintro e v1 ⟨rfl, hv1⟩
    clear c0 c1 c2 c3 e0 e1
    have zv1 := hv1.size
    cases r1
    · gi_wp2_with fail
      refine ⟨(Rn.Kr.of_below hv1), by rw [filter_snoc_f D pre t (by rw [hdt]; rfl)]; exact HJ.out _ _ _ hJb (Rn.Step.of_below (by omega) hv1), hSb.below hltb hv1, hPb.below hltq hv1, hFb.below hltf hv1, by omega⟩
    have hPv := hPb.below hltq hv1
    have h5v := h5.below hlt5 hv1
    have h4v := h4.below hlt4 hv1
    have hJv := HJ.out _ _ _ hJb (Rn.Step.of_below (by omega) hv1)
    have Gv := HJK.out _ _ hJv
    have c0 := cell4_0 hPv
    have c1 := cell4_1 hPv
    have c2 := cell4_2 hPv
    have c3 := cell4_3 hPv
    have e0 := h5v.fst
    have e1 := h5v.snd
    gi_wp2_with fail
    refine (CallsIn.inRound l' (callsIn_wide.2 (K2.out _ Gv))).mono ?_
    rintro e v2 ⟨rfl, hv2⟩
    clear c0 c1 c2 c3 e0 e1
    have hv12 : Below A.heap.size A v2 := hv1.trans (hv2.mono zv1)
    have zv2 := hv12.size
    cases r2
    · gi_wp2_with fail
      refine ⟨(Rn.Kr.of_below hv12), by rw [filter_snoc_f D pre t (by rw [hdt]; rfl)]; exact HJ.out _ _ _ hJb (Rn.Step.of_below (by omega) hv12), hSb.below hltb hv12, hPb.below hltq hv12, hFb.below hltf hv12, by omega⟩
    have hdt' : D t = true := by rw [hdt]; rfl
    have hJ2 := HJ.out _ _ _ hJb (Rn.Step.of_below (by omega) hv12)
    obtain ⟨fn2, tmps2, assign2, body2, hy2, hR2⟩ := HYT.out v2 hJ2 hdt'
    have f0 := (hFb.below hltf hv12).cell
    have e0 := (h4.below hlt4 hv12).fst
    have e1 := (h4.below hlt4 hv12).snd
    have e2 := (h5.below hlt5 hv12).fst
    have e3 := (h5.below hlt5 hv12).snd
    rw [← filter_snoc_t D pre t hdt'] at hR2
    gi_wp2_with fail
    refine (RoundIn.inRnd (RoundIn.any rfl hR2)).mono ?_
    clear f0 e0 e1 e2 e3 hy2 hR2
    rintro e B2 (⟨rfl, hJ3, hr2⟩ | ⟨rfl, hJ3, hr2⟩)
    · have hkA : Rn.Kr n₁ W.heap.size A B2 := (Rn.Kr.of_below hv12).trans hr2
      have zB := hkA.size
      gi_wp2_with fail
      exact ⟨hkA.mono (by omega) (by omega), hJ3, hSb.kr hB hkA, hPb.kr hBp hkA, hFb.kr (by omega) hkA, by omega⟩
    · have hkA : Rn.Kr n₁ W.heap.size A B2 := (Rn.Kr.of_below hv12).trans hr2
      gi_wp2_with fail
      exact ⟨hkA.mono (by omega) (by omega), rfl, hJ3⟩
  case done =>
    rintro D2 A hD2 ⟨hJd, _, _, _, _⟩ hK
    gi_wp2
    refine ⟨by simp, .inl ⟨_, _, rfl, run_takeDeferred hK, ?_⟩⟩
    exact ⟨_, results_none rfl _ _ _, ⟨_, rfl⟩, .inl (HJ.out _ _ _ hJd (Rn.Step.putObj A _ _ (by omega) (by omega) hK rfl))⟩
  case stop =>
    rintro D2 k pre A hD2 ⟨post, hpost⟩ ⟨rfl, hJd⟩ hK
    gi_wp2
    refine ⟨by simp, .inl ⟨_, _, rfl, run_takeDeferred hK, ?_⟩⟩
    refine ⟨_, results_none rfl _ _ _, ⟨_, rfl⟩, .inr ⟨_, ⟨post.filter D, by rw [hpost, List.filter_append]⟩, HJX.out _ _ _ hJd (Rn.Step.putObj A _ _ (by omega) (by omega) hK rfl)⟩⟩
end Go.Proofs.YtinopmdefndhoaaDoor
