/- The walk of PitchFeet. -/
import Derived.Test.YtkoljddejjfbiaaGreatDoorPtS
namespace Go.Proofs.YtkoljddejjfbiaaGreatDoor
open Go Go.RowKit Go.Shelf

def ftJ (k : Nat) (x y : Int) : Nat → Value → World → Prop
  | 0, v, _ => v = .int .i64 0
  | 1, v, _ => v = .bool true
  | 2, v, _ => v = .bool true
  | 3, v, _ => v = .agg #[.int .i64 x, .int .i64 y]
  | 4, v, W => ∃ g, v = .slice (some ⟨g, 0, none⟩) 22 22 ∧ UsAt W g
  | 5, v, _ => v = .int .i64 (k : Int)
  | 6, v, W => ∃ g, v = .pointer (some ⟨g, k * 2, none⟩) ∧ UsAt W g
  | 7, v, _ => v = .agg #[.int .i64 x, .int .i64 y]
  | 8, v, _ => v = .bool true
  | 9, v, _ => v = .bool true
  | 10, v, _ => v = .bool true
  | _, _, _ => True

theorem ftJ_up (k : Nat) (x y : Int) : ∀ (j : Nat) (v : Value) (A B : World), Below A.heap.size A B → ftJ k x y j v A → ftJ k x y j v B
  | 0, _, _, _, _, h => h
  | 1, _, _, _, _, h => h
  | 2, _, _, _, _, h => h
  | 3, _, _, _, _, h => h
  | 4, _, _, _, hb, h => by obtain ⟨g, e, u⟩ := h; exact ⟨g, e, u.below u.1 hb⟩
  | 5, _, _, _, _, h => h
  | 6, _, _, _, hb, h => by obtain ⟨g, e, u⟩ := h; exact ⟨g, e, u.below u.1 hb⟩
  | 7, _, _, _, _, h => h
  | 8, _, _, _, _, h => h
  | 9, _, _, _, _, h => h
  | 10, _, _, _, _, h => h
  | _ + 11, _, _, _, _, _ => trivial

theorem ix_ex (n : Int) : ∃ r, IxIs n r := by
  have : ∀ m, m ≤ 22 → (∀ t ∈ us.take m, t.2.2 ≠ n) ∨ ∃ k : Nat, k < m ∧ ∃ x y, us.drop k = (x, y, n) :: us.drop (k + 1) ∧ ∀ t ∈ us.take k, t.2.2 ≠ n := by
    intro m
    induction m with
    | zero => exact fun _ => .inl (by simp)
    | succ m ih =>
      intro hm
      rcases ih (by omega) with h | ⟨k, hk, x, y, hd, hp⟩
      · obtain ⟨x, y, s, hd, _, _⟩ := uidx m (by omega)
        by_cases hs : s = n
        · subst hs; exact .inr ⟨m, by omega, x, y, hd, h⟩
        · refine .inl ?_
          rw [(us_split hd (by omega)).2]
          intro t ht
          rcases List.mem_append.1 ht with h1 | h1
          · exact h t h1
          · simp at h1; subst h1; exact hs
      · exact .inr ⟨k, by omega, x, y, hd, hp⟩
  rcases this 22 (Nat.le_refl _) with h | ⟨k, hk, x, y, hd, hp⟩
  · exact ⟨-1, .inl ⟨rfl, h⟩⟩
  · exact ⟨k, .inr ⟨k, hk, rfl, x, y, hd, hp⟩⟩
theorem ft_none {n : Int} (h : ∀ t ∈ us, t.2.2 ≠ n) : ftV n = .tuple #[.agg #[.int .i64 0, .int .i64 0], .int .i64 18] := by unfold ftV; rw [find_none h]
theorem ft_hit {n x y : Int} {k : Nat} (hk : k < 22) (hd : us.drop k = (x, y, n) :: us.drop (k + 1)) (hp : ∀ t ∈ us.take k, t.2.2 ≠ n) : ftV n = .tuple #[.agg #[.int .i64 x, .int .i64 y], .int .i64 0] := by
  unfold ftV; rw [find_hit (us_split hd hk).1 hp rfl]
theorem fr_eq2 (x y : Int) : ∀ W : World, (binOp .eql 23 (.agg #[.int .i64 x, .int .i64 y]) (.agg #[.int .i64 x, .int .i64 y])).run Tryz.prog W = .ok (.bool true) W := by
  intro W; simp [go_sem]

set_option maxRecDepth 100000 in
set_option maxHeartbeats 8000000 in
theorem feet_none (n : Int) (h : ∀ t ∈ us, t.2.2 ≠ n) (w : World) (P : Pg w) (U : Us w) : Calls Tryz.prog 5 #[.int .i64 n] w fun e w' => e = .returned (.bool true) ∧ Below w.heap.size w w' := by
  have KN := Lib.hid (fun W P => pknown_c W P)
  have FE := Lib.hid (fun W P U => feet_c n W P U)
  have LU := Lib.hid (fun W => lusual_c W)
  have US := Lib.hid (fun W U => usual_c W U)
  have EQ := Lib.hid (fun g h c1 c2 W hg hh => equal_c g h c1 c2 W hg hh)
  rw [ft_none h] at FE
  obtain ⟨D, hD⟩ : ∃ D, w.heap.size = D := ⟨_, rfl⟩
  have IX := Lib.hid (fun g W P hN hg => indexF_c n (-1) g 22 D (.inl ⟨rfl, h⟩) W P hN hg)
  have HE0 := Lib.hid (fr_eq2 0 0)
  clear h
  go_enter Tryz.func5, Tryz.ntmps5
  have P1 : Pg (w.alloc (.cells #[.int .i64 n] 3)) := P.below (by first | exact ((Below.refl _ w).alloc (by first | omega | (simp; omega)) (.cells #[.int .i64 n] 3)) | (rw [hD]; exact ((Below.refl _ w).alloc (by first | omega | (simp; omega)) (.cells #[.int .i64 n] 3))))
  go_wp2_with fail
  refine (KN.out _ P1).mono ?_
  rintro e v1 ⟨rfl, hb_v1⟩
  have cN_v1 : v1.heap[D]? = some (.cells #[.int .i64 n] 3) := (hb_v1.block (D) (Array.getElem?_eq_some_iff.1 (show (w.alloc (.cells #[.int .i64 n] 3)).heap[D]? = some (.cells #[.int .i64 n] 3) from (heap_new (by first | omega | (simp; omega))))).1).trans (heap_new (by first | omega | (simp; omega)))
  have hw_v1 : Below D w v1 := (((Below.refl _ w).alloc (by first | omega | (simp; omega)) (.cells #[.int .i64 n] 3))).trans (hb_v1.mono (by first | omega | (simp; omega)))
  clear hb_v1
  have ld2 : v1.heap[D]? = some (.cells #[.int .i64 n] 3) := cN_v1
  have y2 := cell1_0 ld2
  clear ld2
  have P2 : Pg v1 := P.below (by first | exact hw_v1 | (rw [hD]; exact hw_v1))
  have U3 : Us v1 := U.below (by first | exact hw_v1 | (rw [hD]; exact hw_v1))
  go_wp2_with fail
  refine (FE.out _ P2 U3).mono ?_
  rintro e v3 ⟨rfl, hb_v3⟩
  have hs_v3 := hw_v1.size
  have cN_v3 : v3.heap[D]? = some (.cells #[.int .i64 n] 3) := (hb_v3.block (D) (Array.getElem?_eq_some_iff.1 (show v1.heap[D]? = some (.cells #[.int .i64 n] 3) from cN_v1)).1).trans cN_v1
  have hw_v3 : Below D w v3 := (hw_v1).trans (hb_v3.mono (by first | omega | (simp; omega)))
  clear cN_v1 hb_v3 y2 hw_v1 hs_v3
  obtain ⟨EF, hEF⟩ : ∃ E, v3.heap.size = E := ⟨_, rfl⟩
  go_wp2_with fail
  refine (LU.out _).mono ?_
  rintro e v4 ⟨⟨g1, rfl, hg1, hu1⟩, hb_v4⟩
  have hs_v4 := hw_v3.size
  have cN_v4 : v4.heap[D]? = some (.cells #[.int .i64 n] 3) := (hb_v4.block (D) (Array.getElem?_eq_some_iff.1 (show (v3.alloc (.cells #[.int .i64 0, .int .i64 0] 23)).heap[D]? = some (.cells #[.int .i64 n] 3) from (heap_old (o := .cells #[.int .i64 0, .int .i64 0] 23) cN_v3))).1).trans (heap_old (o := .cells #[.int .i64 0, .int .i64 0] 23) cN_v3)
  have cF_v4 : v4.heap[EF]? = some (.cells #[.int .i64 0, .int .i64 0] 23) := (hb_v4.block (EF) (Array.getElem?_eq_some_iff.1 (show (v3.alloc (.cells #[.int .i64 0, .int .i64 0] 23)).heap[EF]? = some (.cells #[.int .i64 0, .int .i64 0] 23) from (heap_new (by first | omega | (simp; omega))))).1).trans (heap_new (by first | omega | (simp; omega)))
  have hw_v4 : Below D w v4 := ((hw_v3.alloc (by have := hw_v3.size; first | omega | (simp; omega)) (.cells #[.int .i64 0, .int .i64 0] 23))).trans (hb_v4.mono (by first | omega | (simp; omega)))
  clear cN_v3 hb_v4 hw_v3 hs_v4
  have P4 : Pg v4 := P.below (by first | exact hw_v4 | (rw [hD]; exact hw_v4))
  go_wp2_with fail
  refine (IX.out g1 _ P4 cN_v4 hu1).mono ?_
  rintro e v5 ⟨rfl, hb_v5⟩
  have hs_v5 := hw_v4.size
  have cN_v5 : v5.heap[D]? = some (.cells #[.int .i64 n] 3) := (hb_v5.block (D) (Array.getElem?_eq_some_iff.1 (show v4.heap[D]? = some (.cells #[.int .i64 n] 3) from cN_v4)).1).trans cN_v4
  have cF_v5 : v5.heap[EF]? = some (.cells #[.int .i64 0, .int .i64 0] 23) := (hb_v5.block (EF) (Array.getElem?_eq_some_iff.1 (show v4.heap[EF]? = some (.cells #[.int .i64 0, .int .i64 0] 23) from cF_v4)).1).trans cF_v4
  have hw_v5 : Below D w v5 := (hw_v4).trans (hb_v5.mono (by first | omega | (simp; omega)))
  clear cN_v4 cF_v4 hb_v5 hw_v4 hs_v5
  have U5 : Us v5 := U.below (by first | exact hw_v5 | (rw [hD]; exact hw_v5))
  go_wp2_with fail
  refine (US.out _ U5).mono ?_
  rintro e v6 ⟨⟨g2, cap2, cur2, rfl, hg2, hc2, hp2, hu2⟩, hb_v6⟩
  have hs_v6 := hw_v5.size
  have cN_v6 : v6.heap[D]? = some (.cells #[.int .i64 n] 3) := (hb_v6.block (D) (Array.getElem?_eq_some_iff.1 (show v5.heap[D]? = some (.cells #[.int .i64 n] 3) from cN_v5)).1).trans cN_v5
  have cF_v6 : v6.heap[EF]? = some (.cells #[.int .i64 0, .int .i64 0] 23) := (hb_v6.block (EF) (Array.getElem?_eq_some_iff.1 (show v5.heap[EF]? = some (.cells #[.int .i64 0, .int .i64 0] 23) from cF_v5)).1).trans cF_v5
  have hw_v6 : Below D w v6 := (hw_v5).trans (hb_v6.mono (by first | omega | (simp; omega)))
  clear cN_v5 cF_v5 hb_v6 hw_v5 hs_v6
  go_wp2_with fail
  refine (LU.out _).mono ?_
  rintro e v7 ⟨⟨g3, rfl, hg3, hu3⟩, hb_v7⟩
  have hs_v7 := hw_v6.size
  have cN_v7 : v7.heap[D]? = some (.cells #[.int .i64 n] 3) := (hb_v7.block (D) (Array.getElem?_eq_some_iff.1 (show v6.heap[D]? = some (.cells #[.int .i64 n] 3) from cN_v6)).1).trans cN_v6
  have cF_v7 : v7.heap[EF]? = some (.cells #[.int .i64 0, .int .i64 0] 23) := (hb_v7.block (EF) (Array.getElem?_eq_some_iff.1 (show v6.heap[EF]? = some (.cells #[.int .i64 0, .int .i64 0] 23) from cF_v6)).1).trans cF_v6
  have hw_v7 : Below D w v7 := (hw_v6).trans (hb_v7.mono (by first | omega | (simp; omega)))
  have hu4 := hu2.below hu2.1 hb_v7
  clear cN_v6 cF_v6 hb_v7 hw_v6 hs_v7
  go_wp2_with fail
  refine (EQ.out g2 g3 cap2 22 _ hu4 hu3).mono ?_
  rintro e v8 ⟨rfl, hb_v8⟩
  have hs_v8 := hw_v7.size
  have cN_v8 : v8.heap[D]? = some (.cells #[.int .i64 n] 3) := (hb_v8.block (D) (Array.getElem?_eq_some_iff.1 (show v7.heap[D]? = some (.cells #[.int .i64 n] 3) from cN_v7)).1).trans cN_v7
  have cF_v8 : v8.heap[EF]? = some (.cells #[.int .i64 0, .int .i64 0] 23) := (hb_v8.block (EF) (Array.getElem?_eq_some_iff.1 (show v7.heap[EF]? = some (.cells #[.int .i64 0, .int .i64 0] 23) from cF_v7)).1).trans cF_v7
  have hw_v8 : Below D w v8 := (hw_v7).trans (hb_v8.mono (by first | omega | (simp; omega)))
  clear cN_v7 cF_v7 hb_v8 hw_v7 hs_v8
  have ld9 : v8.heap[EF]? = some (.cells #[.int .i64 0, .int .i64 0] 23) := cF_v8
  have y9_0 := cell2_0 ld9
  have y9_1 := cell2_1 ld9
  clear ld9
  have he0 := HE0.out
  have HW := Lib.hid (hw_v8)
  go_wp2
  go_ret
  exact ⟨rfl, by first | exact HW.out | (rw [hD]; exact HW.out)⟩

set_option maxRecDepth 100000 in
set_option maxHeartbeats 8000000 in
theorem feet_hit (n x y : Int) (k : Nat) (hk : k < 22) (hd : us.drop k = (x, y, n) :: us.drop (k + 1)) (hp : ∀ t ∈ us.take k, t.2.2 ≠ n) (w : World) (P : Pg w) (U : Us w) : Calls Tryz.prog 5 #[.int .i64 n] w fun e w' => e = .returned (.bool true) ∧ Below w.heap.size w w' := by
  have KN := Lib.hid (fun W P => pknown_c W P)
  have FE := Lib.hid (fun W P U => feet_c n W P U)
  have LU := Lib.hid (fun W => lusual_c W)
  have US := Lib.hid (fun W U => usual_c W U)
  have EQ := Lib.hid (fun g h c1 c2 W hg hh => equal_c g h c1 c2 W hg hh)
  rw [ft_hit hk hd hp] at FE
  obtain ⟨D, hD⟩ : ∃ D, w.heap.size = D := ⟨_, rfl⟩
  have IX := Lib.hid (fun g W P hN hg => indexF_c n k g 22 D (.inr ⟨k, hk, rfl, x, y, hd, hp⟩) W P hN hg)
  have HEQ := Lib.hid (fr_eq2 x y)
  have HD := Lib.hid hd
  have hk0 : ¬ (k : Int) < 0 := by omega
  have hki : (k : Int) < 22 := by omega
  clear hd hp
  go_enter Tryz.func5, Tryz.ntmps5
  have P6 : Pg (w.alloc (.cells #[.int .i64 n] 3)) := P.below (by first | exact ((Below.refl _ w).alloc (by first | omega | (simp; omega)) (.cells #[.int .i64 n] 3)) | (rw [hD]; exact ((Below.refl _ w).alloc (by first | omega | (simp; omega)) (.cells #[.int .i64 n] 3))))
  go_wp2_with fail
  refine (KN.out _ P6).mono ?_
  rintro e v1 ⟨rfl, hb_v1⟩
  have cN_v1 : v1.heap[D]? = some (.cells #[.int .i64 n] 3) := (hb_v1.block (D) (Array.getElem?_eq_some_iff.1 (show (w.alloc (.cells #[.int .i64 n] 3)).heap[D]? = some (.cells #[.int .i64 n] 3) from (heap_new (by first | omega | (simp; omega))))).1).trans (heap_new (by first | omega | (simp; omega)))
  have hw_v1 : Below D w v1 := (((Below.refl _ w).alloc (by first | omega | (simp; omega)) (.cells #[.int .i64 n] 3))).trans (hb_v1.mono (by first | omega | (simp; omega)))
  clear hb_v1
  have ld2 : v1.heap[D]? = some (.cells #[.int .i64 n] 3) := cN_v1
  have y2 := cell1_0 ld2
  clear ld2
  have P7 : Pg v1 := P.below (by first | exact hw_v1 | (rw [hD]; exact hw_v1))
  have U8 : Us v1 := U.below (by first | exact hw_v1 | (rw [hD]; exact hw_v1))
  go_wp2_with fail
  refine (FE.out _ P7 U8).mono ?_
  rintro e v3 ⟨rfl, hb_v3⟩
  have hs_v3 := hw_v1.size
  have cN_v3 : v3.heap[D]? = some (.cells #[.int .i64 n] 3) := (hb_v3.block (D) (Array.getElem?_eq_some_iff.1 (show v1.heap[D]? = some (.cells #[.int .i64 n] 3) from cN_v1)).1).trans cN_v1
  have hw_v3 : Below D w v3 := (hw_v1).trans (hb_v3.mono (by first | omega | (simp; omega)))
  clear cN_v1 hb_v3 y2 hw_v1 hs_v3
  obtain ⟨EF, hEF⟩ : ∃ E, v3.heap.size = E := ⟨_, rfl⟩
  go_wp2_with fail
  refine (LU.out _).mono ?_
  rintro e v4 ⟨⟨g1, rfl, hg1, hu1⟩, hb_v4⟩
  have hs_v4 := hw_v3.size
  have cN_v4 : v4.heap[D]? = some (.cells #[.int .i64 n] 3) := (hb_v4.block (D) (Array.getElem?_eq_some_iff.1 (show (v3.alloc (.cells #[.int .i64 x, .int .i64 y] 23)).heap[D]? = some (.cells #[.int .i64 n] 3) from (heap_old (o := .cells #[.int .i64 x, .int .i64 y] 23) cN_v3))).1).trans (heap_old (o := .cells #[.int .i64 x, .int .i64 y] 23) cN_v3)
  have cF_v4 : v4.heap[EF]? = some (.cells #[.int .i64 x, .int .i64 y] 23) := (hb_v4.block (EF) (Array.getElem?_eq_some_iff.1 (show (v3.alloc (.cells #[.int .i64 x, .int .i64 y] 23)).heap[EF]? = some (.cells #[.int .i64 x, .int .i64 y] 23) from (heap_new (by first | omega | (simp; omega))))).1).trans (heap_new (by first | omega | (simp; omega)))
  have hw_v4 : Below D w v4 := ((hw_v3.alloc (by have := hw_v3.size; first | omega | (simp; omega)) (.cells #[.int .i64 x, .int .i64 y] 23))).trans (hb_v4.mono (by first | omega | (simp; omega)))
  clear cN_v3 hb_v4 hw_v3 hs_v4
  have P9 : Pg v4 := P.below (by first | exact hw_v4 | (rw [hD]; exact hw_v4))
  go_wp2_with fail
  refine (IX.out g1 _ P9 cN_v4 hu1).mono ?_
  rintro e v5 ⟨rfl, hb_v5⟩
  have hs_v5 := hw_v4.size
  have cN_v5 : v5.heap[D]? = some (.cells #[.int .i64 n] 3) := (hb_v5.block (D) (Array.getElem?_eq_some_iff.1 (show v4.heap[D]? = some (.cells #[.int .i64 n] 3) from cN_v4)).1).trans cN_v4
  have cF_v5 : v5.heap[EF]? = some (.cells #[.int .i64 x, .int .i64 y] 23) := (hb_v5.block (EF) (Array.getElem?_eq_some_iff.1 (show v4.heap[EF]? = some (.cells #[.int .i64 x, .int .i64 y] 23) from cF_v4)).1).trans cF_v4
  have hw_v5 : Below D w v5 := (hw_v4).trans (hb_v5.mono (by first | omega | (simp; omega)))
  clear cN_v4 cF_v4 hb_v5 hw_v4 hs_v5
  have U10 : Us v5 := U.below (by first | exact hw_v5 | (rw [hD]; exact hw_v5))
  go_wp2_with fail
  refine (US.out _ U10).mono ?_
  rintro e v6 ⟨⟨g2, cap2, cur2, rfl, hg2, hc2, hp2, hu2⟩, hb_v6⟩
  have hs_v6 := hw_v5.size
  have cN_v6 : v6.heap[D]? = some (.cells #[.int .i64 n] 3) := (hb_v6.block (D) (Array.getElem?_eq_some_iff.1 (show v5.heap[D]? = some (.cells #[.int .i64 n] 3) from cN_v5)).1).trans cN_v5
  have cF_v6 : v6.heap[EF]? = some (.cells #[.int .i64 x, .int .i64 y] 23) := (hb_v6.block (EF) (Array.getElem?_eq_some_iff.1 (show v5.heap[EF]? = some (.cells #[.int .i64 x, .int .i64 y] 23) from cF_v5)).1).trans cF_v5
  have hw_v6 : Below D w v6 := (hw_v5).trans (hb_v6.mono (by first | omega | (simp; omega)))
  clear cN_v5 cF_v5 hb_v6 hw_v5 hs_v6
  go_wp2_with fail
  refine (LU.out _).mono ?_
  rintro e v7 ⟨⟨g3, rfl, hg3, hu3⟩, hb_v7⟩
  have hs_v7 := hw_v6.size
  have cN_v7 : v7.heap[D]? = some (.cells #[.int .i64 n] 3) := (hb_v7.block (D) (Array.getElem?_eq_some_iff.1 (show v6.heap[D]? = some (.cells #[.int .i64 n] 3) from cN_v6)).1).trans cN_v6
  have cF_v7 : v7.heap[EF]? = some (.cells #[.int .i64 x, .int .i64 y] 23) := (hb_v7.block (EF) (Array.getElem?_eq_some_iff.1 (show v6.heap[EF]? = some (.cells #[.int .i64 x, .int .i64 y] 23) from cF_v6)).1).trans cF_v6
  have hw_v7 : Below D w v7 := (hw_v6).trans (hb_v7.mono (by first | omega | (simp; omega)))
  have hu4 := hu2.below hu2.1 hb_v7
  clear cN_v6 cF_v6 hb_v7 hw_v6 hs_v7
  go_wp2_with fail
  refine (EQ.out g2 g3 cap2 22 _ hu4 hu3).mono ?_
  rintro e v8 ⟨rfl, hb_v8⟩
  have hs_v8 := hw_v7.size
  have cN_v8 : v8.heap[D]? = some (.cells #[.int .i64 n] 3) := (hb_v8.block (D) (Array.getElem?_eq_some_iff.1 (show v7.heap[D]? = some (.cells #[.int .i64 n] 3) from cN_v7)).1).trans cN_v7
  have cF_v8 : v8.heap[EF]? = some (.cells #[.int .i64 x, .int .i64 y] 23) := (hb_v8.block (EF) (Array.getElem?_eq_some_iff.1 (show v7.heap[EF]? = some (.cells #[.int .i64 x, .int .i64 y] 23) from cF_v7)).1).trans cF_v7
  have hw_v8 : Below D w v8 := (hw_v7).trans (hb_v8.mono (by first | omega | (simp; omega)))
  clear cN_v7 cF_v7 hb_v8 hw_v7 hs_v8
  obtain ⟨V1, hV1⟩ : ∃ V, v8 = V := ⟨_, rfl⟩
  have hw_V1 : Below D w V1 := by rw [← hV1]; exact hw_v8
  have HN_V1 := Lib.hid (show V1.heap[D]? = some (.cells #[.int .i64 n] 3) by rw [← hV1]; exact cN_v8)
  have HF_V1 := Lib.hid (show V1.heap[EF]? = some (.cells #[.int .i64 x, .int .i64 y] 23) by rw [← hV1]; exact cF_v8)
  have PV_V1 : Pg V1 := P.below (by first | exact hw_V1 | (rw [hD]; exact hw_V1))
  have GG_V1 := Lib.hid (fun (W : World) (h : Below V1.heap.size V1 W) => PV_V1.below h)
  clear cN_v8 cF_v8 hw_v8
  go_upto_region 9 with fail
  try rw [hV1]
  refine wp_region_slots_at rfl rfl (fun base ys => ((((((((((base.set 29 (ys 0)).set 30 (ys 1)).set 31 (ys 2)).set 32 (ys 3)).set 33 (ys 4)).set 34 (ys 5)).set 35 (ys 6)).set 36 (ys 7)).set 37 (ys 8)).set 38 (ys 9)).set 2 (ys 10)) (BelowI _ (fun A => Below V1.heap.size V1 A) (ftJ k x y)) (fun | 10 => .bool false | _ => undef) (by kernel_rfl) (below_start (R := fun A => Below V1.heap.size V1 A) ⟨rfl, rfl, rfl, Nat.le_refl _, fun _ _ => rfl⟩) ?h
  case h =>
    intro FF hFF
    simp only [List.set_cons_succ, List.set_cons_zero] at hFF
    subst hFF
    refine ⟨rfl, ?_, ?_⟩
    refine ⟨?_, ?_⟩
    · refine SlotStep.below (fun A B hb h => h.trans (hb.mono h.size)) (ftJ_up k x y) ?_
      intro ys W hR hd K hK
      go_simp
      have hK2 := hK (.int .i64 0) _ (Below.refl _ _) rfl
      simp (config := { decide := true }) only [upd, if_true, if_false] at hK2
      exact hK2
    refine ⟨?_, ?_⟩
    · refine SlotStep.below (fun A B hb h => h.trans (hb.mono h.size)) (ftJ_up k x y) ?_
      intro ys W hR hd K hK
      have dd0 : ys 0 = (.int .i64 0) := hd 0 (by kernel_rfl) (by decide)
      go_simp
      have hK2 := hK (.bool true) _ (Below.refl _ _) rfl
      simp (config := { decide := true }) only [upd, if_true, if_false, dd0] at hK2
      exact hK2
    refine ⟨?_, ?_⟩
    · refine SlotStep.below (fun A B hb h => h.trans (hb.mono h.size)) (ftJ_up k x y) ?_
      intro ys W hR hd K hK
      have dd1 : ys 1 = (.bool true) := hd 1 (by kernel_rfl) (by decide)
      go_simp
      have hK2 := hK (.bool true) _ (Below.refl _ _) rfl
      simp (config := { decide := true }) only [upd, if_true, if_false, dd1] at hK2
      exact hK2
    refine ⟨?_, ?_⟩
    · refine SlotStep.below (fun A B hb h => h.trans (hb.mono h.size)) (ftJ_up k x y) ?_
      intro ys W hR hd K hK
      have dd2 : ys 2 = (.bool true) := hd 2 (by kernel_rfl) (by decide)
      have hl := (hR.block (EF) (Array.getElem?_eq_some_iff.1 HF_V1.out).1).trans HF_V1.out
      have c0 := cell2_0 hl
      have c1 := cell2_1 hl
      go_simp
      have hK2 := hK (.agg #[.int .i64 x, .int .i64 y]) _ (Below.refl _ _) rfl
      simp (config := { decide := true }) only [upd, if_true, if_false, dd2] at hK2
      exact hK2
    refine ⟨?_, ?_⟩
    · refine SlotStep.below (fun A B hb h => h.trans (hb.mono h.size)) (ftJ_up k x y) ?_
      intro ys W hR hd K hK
      have dd2 : ys 2 = (.bool true) := hd 2 (by kernel_rfl) (by decide)
      go_simp
      refine (LU.out W).mono ?_
      rintro e w5 ⟨⟨g5, rfl, hg5, hu5⟩, hb5⟩
      have hK2 := hK (.slice (some ⟨g5, 0, none⟩) 22 22) _ hb5 ⟨g5, rfl, hu5⟩
      simp (config := { decide := true }) only [upd, if_true, if_false, dd2] at hK2
      exact hK2
    refine ⟨?_, ?_⟩
    · refine SlotStep.below (fun A B hb h => h.trans (hb.mono h.size)) (ftJ_up k x y) ?_
      intro ys W hR hd K hK
      have dd2 : ys 2 = (.bool true) := hd 2 (by kernel_rfl) (by decide)
      go_simp
      have hK2 := hK (.int .i64 (k : Int)) _ (Below.refl _ _) rfl
      simp (config := { decide := true }) only [upd, if_true, if_false, dd2] at hK2
      exact hK2
    refine ⟨?_, ?_⟩
    · refine SlotStep.below (fun A B hb h => h.trans (hb.mono h.size)) (ftJ_up k x y) ?_
      intro ys W hR hd K hK
      have dd2 : ys 2 = (.bool true) := hd 2 (by kernel_rfl) (by decide)
      have dd5 : ys 5 = (.int .i64 (k : Int)) := hd 5 (by kernel_rfl) (by decide)
      obtain ⟨g4, e4, u4⟩ : ∃ g, ys 4 = .slice (some ⟨g, 0, none⟩) 22 22 ∧ UsAt W g := hd 4 (by kernel_rfl) (by decide)
      go_simp
      have hK2 := hK (.pointer (some ⟨g4, k * 2, none⟩)) _ (Below.refl _ _) ⟨g4, rfl, u4⟩
      simp (config := { decide := true }) only [upd, if_true, if_false, dd2, dd5, e4] at hK2
      exact hK2
    refine ⟨?_, ?_⟩
    · refine SlotStep.below (fun A B hb h => h.trans (hb.mono h.size)) (ftJ_up k x y) ?_
      intro ys W hR hd K hK
      have dd2 : ys 2 = (.bool true) := hd 2 (by kernel_rfl) (by decide)
      obtain ⟨g6, e6, u6⟩ : ∃ g, ys 6 = .pointer (some ⟨g, k * 2, none⟩) ∧ UsAt W g := hd 6 (by kernel_rfl) (by decide)
      obtain ⟨c0, c1⟩ := u6.at hk HD.out
      go_simp
      have hK2 := hK (.agg #[.int .i64 x, .int .i64 y]) _ (Below.refl _ _) rfl
      simp (config := { decide := true }) only [upd, if_true, if_false, dd2, e6] at hK2
      exact hK2
    refine ⟨?_, ?_⟩
    · refine SlotStep.below (fun A B hb h => h.trans (hb.mono h.size)) (ftJ_up k x y) ?_
      intro ys W hR hd K hK
      have dd2 : ys 2 = (.bool true) := hd 2 (by kernel_rfl) (by decide)
      have dd3 : ys 3 = (.agg #[.int .i64 x, .int .i64 y]) := hd 3 (by kernel_rfl) (by decide)
      have dd7 : ys 7 = (.agg #[.int .i64 x, .int .i64 y]) := hd 7 (by kernel_rfl) (by decide)
      have he := HEQ.out
      go_simp
      have hK2 := hK (.bool true) _ (Below.refl _ _) rfl
      simp (config := { decide := true }) only [upd, if_true, if_false, dd2, dd3, dd7] at hK2
      exact hK2
    refine ⟨?_, ?_⟩
    · refine SlotStep.below (fun A B hb h => h.trans (hb.mono h.size)) (ftJ_up k x y) ?_
      intro ys W hR hd K hK
      have dd2 : ys 2 = (.bool true) := hd 2 (by kernel_rfl) (by decide)
      have dd8 : ys 8 = (.bool true) := hd 8 (by kernel_rfl) (by decide)
      go_simp
      have hK2 := hK (.bool true) _ (Below.refl _ _) rfl
      simp (config := { decide := true }) only [upd, if_true, if_false, dd2, dd8] at hK2
      exact hK2
    refine ⟨?_, ?_⟩
    · refine SlotStep.below (fun A B hb h => h.trans (hb.mono h.size)) (ftJ_up k x y) ?_
      intro ys W hR hd K hK
      have dd9 : ys 9 = (.bool true) := hd 9 (by kernel_rfl) (by decide)
      go_simp
      have hK2 := hK (.bool true) _ (Below.refl _ _) rfl
      simp (config := { decide := true }) only [upd, if_true, if_false, dd9] at hK2
      exact hK2
    trivial
    · intro L5 ys5 U1 hL5 hI5
      obtain ⟨hR5, hj5⟩ := hI5
      have d10_U1 : ys5 10 = (.bool true) := hj5 10 (by decide) (hL5 10 (by decide))
      simp only [d10_U1]
      have cN_U1 : U1.heap[D]? = some (.cells #[.int .i64 n] 3) := (hR5.block (D) (Array.getElem?_eq_some_iff.1 HN_V1.out).1).trans HN_V1.out
      have cF_U1 : U1.heap[EF]? = some (.cells #[.int .i64 x, .int .i64 y] 23) := (hR5.block (EF) (Array.getElem?_eq_some_iff.1 HF_V1.out).1).trans HF_V1.out
      have hw_U1 : Below D w U1 := hw_V1.trans (hR5.mono (by have := hw_V1.size; first | omega | (simp; omega)))
      clear hj5 hL5 hR5 hw_V1 d10_U1 hV1 GG_V1 PV_V1 HN_V1 HF_V1
      have HW := Lib.hid (hw_U1)
      go_wp2
      go_ret
      exact ⟨rfl, by first | exact HW.out | (rw [hD]; exact HW.out)⟩

theorem feet_law (n : Int) (w : World) (P : Pg w) (U : Us w) : Calls Tryz.prog 5 #[.int .i64 n] w fun e w' => e = .returned (.bool true) ∧ Below w.heap.size w w' := by
  obtain ⟨r, hr⟩ := ix_ex n
  rcases hr with ⟨_, h⟩ | ⟨k, hk, _, x, y, hd, hp⟩
  · exact feet_none n h w P U
  · exact feet_hit n x y k hk hd hp w P U
end Go.Proofs.YtkoljddejjfbiaaGreatDoor
