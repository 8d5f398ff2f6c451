/- The walk of PitchChecks. -/
import Derived.Test.YtkoljddejjfbiaaGreatDoorPtJ
import Derived.Laws.StructEq
namespace Go.Proofs.YtkoljddejjfbiaaGreatDoor
open Go Go.RowKit Go.Shelf

def ckI (D : Nat) (a b x y : Int) : Nat → Value → World → Prop
  | 0, v, _ => v = .int .i64 0
  | 1, v, _ => v = .bool true
  | 2, v, _ => v = .bool true
  | 3, v, _ => v = .agg #[.int .i64 x, .int .i64 y]
  | 4, v, _ => v = .pointer (some ⟨D, 1, none⟩)
  | 5, v, _ => v = .int .i64 b
  | 6, v, _ => v = .int .i64 (8 * b)
  | 7, v, _ => v = .pointer (some ⟨D, 0, none⟩)
  | 8, v, _ => v = .int .i64 a
  | 9, v, _ => v = .agg #[.int .i64 x, .int .i64 y]
  | 10, v, _ => v = .bool true
  | 11, v, _ => v = .bool true
  | 12, v, _ => v = .bool true
  | _, _, _ => True

theorem ckI_up (D : Nat) (a b x y : Int) : ∀ (j : Nat) (v : Value) (A B : World), Below A.heap.size A B → ckI D a b x y j v A → ckI D a b x y j v B
  | 0, _, _, _, _, h => h
  | 1, _, _, _, _, h => h
  | 2, _, _, _, _, h => h
  | 3, _, _, _, _, h => h
  | 4, _, _, _, _, h => h
  | 5, _, _, _, _, h => h
  | 6, _, _, _, _, h => h
  | 7, _, _, _, _, h => h
  | 8, _, _, _, _, h => h
  | 9, _, _, _, _, h => h
  | 10, _, _, _, _, h => h
  | 11, _, _, _, _, h => h
  | 12, _, _, _, _, h => h
  | _ + 13, _, _, _, _, _ => trivial

theorem fr_eq (x y : Int) : ∀ W : World, (binOp .eql 23 (.agg #[.int .i64 x, .int .i64 y]) (.agg #[.int .i64 x, .int .i64 y])).run Tryz.prog W = .ok (.bool true) W := by
  intro W; simp [go_sem]
set_option maxRecDepth 100000 in
set_option maxHeartbeats 8000000 in
theorem checks_bad (a b : Int) (h : ¬ pk a b = 0) (w : World) (P : Pg w) : Calls Tryz.prog 3 #[.agg #[.int .i64 a, .int .i64 b]] w fun e w' => e = .returned (.bool true) ∧ Below w.heap.size w w' := by
  have KN := Lib.hid (fun W P => pknown_c W P)
  have CH := Lib.hid (fun W => lcheck_any a b W)
  have PC := Lib.hid (fun W => pcheck_any a b W)
  have F81 := Lib.hid (fun W => f_lit 8 1 W (by decide +kernel))
  obtain ⟨z, hz⟩ : ∃ z, pk a b = z := ⟨_, rfl⟩
  have h2 : pk2 8 1 a b = z := by unfold pk2; rw [if_pos pk_81, hz]
  rw [hz] at h
  have h3 : pk2 a b 8 1 = z := by unfold pk2; rw [hz, if_neg h]
  have HA := Lib.hid (fun W => pharm_bad a b z hz h W)
  have SH := Lib.hid (fun W => pshift_bad 8 1 a b z h2 h W)
  have EX := Lib.hid (fun W => pexact_bad a b 8 1 z h3 h W)
  have CL := Lib.hid (fun W => pclass_bad a b z hz h W)
  have MU := Lib.hid (fun W => pmut_bad a b z hz h W)
  have CM := Lib.hid (fun W => pcompare_bad 8 1 a b z h2 h W)
  have SN := Lib.hid (fun W => psound_bad a b z 60 hz h W)
  rw [hz] at CH PC
  have HE0 := Lib.hid (fr_eq 0 0)
  clear hz h2 h3
  obtain ⟨D, hD⟩ : ∃ D, w.heap.size = D := ⟨_, rfl⟩
  go_enter Tryz.func3, Tryz.ntmps3
  have P1 : Pg (w.alloc (.cells #[.int .i64 a, .int .i64 b] 23)) := P.below (by first | exact ((Below.refl _ w).alloc (by first | omega | (simp; omega)) (.cells #[.int .i64 a, .int .i64 b] 23)) | (rw [hD]; exact ((Below.refl _ w).alloc (by first | omega | (simp; omega)) (.cells #[.int .i64 a, .int .i64 b] 23))))
  go_wp2_with fail
  refine (KN.out _ P1).mono ?_
  rintro e v1 ⟨rfl, hb_v1⟩
  have cX_v1 : v1.heap[D]? = some (.cells #[.int .i64 a, .int .i64 b] 23) := (hb_v1.block (D) (Array.getElem?_eq_some_iff.1 (show (w.alloc (.cells #[.int .i64 a, .int .i64 b] 23)).heap[D]? = some (.cells #[.int .i64 a, .int .i64 b] 23) from (heap_new (by first | omega | (simp; omega))))).1).trans (heap_new (by first | omega | (simp; omega)))
  have hw_v1 : Below D w v1 := (((Below.refl _ w).alloc (by first | omega | (simp; omega)) (.cells #[.int .i64 a, .int .i64 b] 23))).trans (hb_v1.mono (by first | omega | (simp; omega)))
  clear hb_v1
  have ld2 : v1.heap[D]? = some (.cells #[.int .i64 a, .int .i64 b] 23) := cX_v1
  have y2_0 := cell2_0 ld2
  have y2_1 := cell2_1 ld2
  clear ld2
  go_wp2_with fail
  refine (CH.out _).mono ?_
  rintro e v3 ⟨rfl, hb_v3⟩
  have hs_v3 := hw_v1.size
  have cX_v3 : v3.heap[D]? = some (.cells #[.int .i64 a, .int .i64 b] 23) := (hb_v3.block (D) (Array.getElem?_eq_some_iff.1 (show v1.heap[D]? = some (.cells #[.int .i64 a, .int .i64 b] 23) from cX_v1)).1).trans cX_v1
  have hw_v3 : Below D w v3 := (hw_v1).trans (hb_v3.mono (by first | omega | (simp; omega)))
  clear cX_v1 hb_v3 y2_0 y2_1 hw_v1 hs_v3
  go_wp2_with fail
  refine (F81.out _).mono ?_
  rintro e v4 ⟨rfl, hb_v4⟩
  have hs_v4 := hw_v3.size
  have cX_v4 : v4.heap[D]? = some (.cells #[.int .i64 a, .int .i64 b] 23) := (hb_v4.block (D) (Array.getElem?_eq_some_iff.1 (show v3.heap[D]? = some (.cells #[.int .i64 a, .int .i64 b] 23) from cX_v3)).1).trans cX_v3
  have hw_v4 : Below D w v4 := (hw_v3).trans (hb_v4.mono (by first | omega | (simp; omega)))
  clear cX_v3 hb_v4 hw_v3 hs_v4
  obtain ⟨EZ, hEZ⟩ : ∃ E, v4.heap.size = E := ⟨_, rfl⟩
  have ld5 : (v4.alloc (.cells #[.int .i64 8, .int .i64 1] 23)).heap[D]? = some (.cells #[.int .i64 a, .int .i64 b] 23) := (heap_old (o := .cells #[.int .i64 8, .int .i64 1] 23) cX_v4)
  have y5_0 := cell2_0 ld5
  have y5_1 := cell2_1 ld5
  clear ld5
  go_wp2_with fail
  refine (PC.out _).mono ?_
  rintro e v6 ⟨rfl, hb_v6⟩
  have hs_v6 := hw_v4.size
  have cX_v6 : v6.heap[D]? = some (.cells #[.int .i64 a, .int .i64 b] 23) := (hb_v6.block (D) (Array.getElem?_eq_some_iff.1 (show (v4.alloc (.cells #[.int .i64 8, .int .i64 1] 23)).heap[D]? = some (.cells #[.int .i64 a, .int .i64 b] 23) from (heap_old (o := .cells #[.int .i64 8, .int .i64 1] 23) cX_v4))).1).trans (heap_old (o := .cells #[.int .i64 8, .int .i64 1] 23) cX_v4)
  have cZ_v6 : v6.heap[EZ]? = some (.cells #[.int .i64 8, .int .i64 1] 23) := (hb_v6.block (EZ) (Array.getElem?_eq_some_iff.1 (show (v4.alloc (.cells #[.int .i64 8, .int .i64 1] 23)).heap[EZ]? = some (.cells #[.int .i64 8, .int .i64 1] 23) from (heap_new (by first | omega | (simp; omega))))).1).trans (heap_new (by first | omega | (simp; omega)))
  have hw_v6 : Below D w v6 := ((hw_v4.alloc (by have := hw_v4.size; first | omega | (simp; omega)) (.cells #[.int .i64 8, .int .i64 1] 23))).trans (hb_v6.mono (by first | omega | (simp; omega)))
  clear cX_v4 hb_v6 y5_0 y5_1 hw_v4 hs_v6
  have ld7 : v6.heap[D]? = some (.cells #[.int .i64 a, .int .i64 b] 23) := cX_v6
  have y7_0 := cell2_0 ld7
  have y7_1 := cell2_1 ld7
  clear ld7
  go_wp2_with fail
  refine (HA.out _).mono ?_
  rintro e v8 ⟨rfl, hb_v8⟩
  have hs_v8 := hw_v6.size
  have cX_v8 : v8.heap[D]? = some (.cells #[.int .i64 a, .int .i64 b] 23) := (hb_v8.block (D) (Array.getElem?_eq_some_iff.1 (show v6.heap[D]? = some (.cells #[.int .i64 a, .int .i64 b] 23) from cX_v6)).1).trans cX_v6
  have cZ_v8 : v8.heap[EZ]? = some (.cells #[.int .i64 8, .int .i64 1] 23) := (hb_v8.block (EZ) (Array.getElem?_eq_some_iff.1 (show v6.heap[EZ]? = some (.cells #[.int .i64 8, .int .i64 1] 23) from cZ_v6)).1).trans cZ_v6
  have hw_v8 : Below D w v8 := (hw_v6).trans (hb_v8.mono (by first | omega | (simp; omega)))
  clear cX_v6 cZ_v6 hb_v8 y7_0 y7_1 hw_v6 hs_v8
  obtain ⟨EH, hEH⟩ : ∃ E, v8.heap.size = E := ⟨_, rfl⟩
  have ld9 : (v8.alloc (.cells #[.int .i64 0, .int .i64 0] 23)).heap[D]? = some (.cells #[.int .i64 a, .int .i64 b] 23) := (heap_old (o := .cells #[.int .i64 0, .int .i64 0] 23) cX_v8)
  have y9_0 := cell2_0 ld9
  have y9_1 := cell2_1 ld9
  clear ld9
  have ld10 : (v8.alloc (.cells #[.int .i64 0, .int .i64 0] 23)).heap[EZ]? = some (.cells #[.int .i64 8, .int .i64 1] 23) := (heap_old (o := .cells #[.int .i64 0, .int .i64 0] 23) cZ_v8)
  have y10_0 := cell2_0 ld10
  have y10_1 := cell2_1 ld10
  clear ld10
  go_wp2_with fail
  refine (SH.out _).mono ?_
  rintro e v11 ⟨rfl, hb_v11⟩
  have hs_v11 := hw_v8.size
  have cX_v11 : v11.heap[D]? = some (.cells #[.int .i64 a, .int .i64 b] 23) := (hb_v11.block (D) (Array.getElem?_eq_some_iff.1 (show (v8.alloc (.cells #[.int .i64 0, .int .i64 0] 23)).heap[D]? = some (.cells #[.int .i64 a, .int .i64 b] 23) from (heap_old (o := .cells #[.int .i64 0, .int .i64 0] 23) cX_v8))).1).trans (heap_old (o := .cells #[.int .i64 0, .int .i64 0] 23) cX_v8)
  have cZ_v11 : v11.heap[EZ]? = some (.cells #[.int .i64 8, .int .i64 1] 23) := (hb_v11.block (EZ) (Array.getElem?_eq_some_iff.1 (show (v8.alloc (.cells #[.int .i64 0, .int .i64 0] 23)).heap[EZ]? = some (.cells #[.int .i64 8, .int .i64 1] 23) from (heap_old (o := .cells #[.int .i64 0, .int .i64 0] 23) cZ_v8))).1).trans (heap_old (o := .cells #[.int .i64 0, .int .i64 0] 23) cZ_v8)
  have cH_v11 : v11.heap[EH]? = some (.cells #[.int .i64 0, .int .i64 0] 23) := (hb_v11.block (EH) (Array.getElem?_eq_some_iff.1 (show (v8.alloc (.cells #[.int .i64 0, .int .i64 0] 23)).heap[EH]? = some (.cells #[.int .i64 0, .int .i64 0] 23) from (heap_new (by first | omega | (simp; omega))))).1).trans (heap_new (by first | omega | (simp; omega)))
  have hw_v11 : Below D w v11 := ((hw_v8.alloc (by have := hw_v8.size; first | omega | (simp; omega)) (.cells #[.int .i64 0, .int .i64 0] 23))).trans (hb_v11.mono (by first | omega | (simp; omega)))
  clear cX_v8 cZ_v8 hb_v11 y9_0 y9_1 y10_0 y10_1 hw_v8 hs_v11
  have ld12 : v11.heap[D]? = some (.cells #[.int .i64 a, .int .i64 b] 23) := cX_v11
  have y12_0 := cell2_0 ld12
  have y12_1 := cell2_1 ld12
  clear ld12
  have ld13 : v11.heap[EZ]? = some (.cells #[.int .i64 8, .int .i64 1] 23) := cZ_v11
  have y13_0 := cell2_0 ld13
  have y13_1 := cell2_1 ld13
  clear ld13
  go_wp2_with fail
  refine (EX.out _).mono ?_
  rintro e v14 ⟨rfl, hb_v14⟩
  have hs_v14 := hw_v11.size
  have cX_v14 : v14.heap[D]? = some (.cells #[.int .i64 a, .int .i64 b] 23) := (hb_v14.block (D) (Array.getElem?_eq_some_iff.1 (show v11.heap[D]? = some (.cells #[.int .i64 a, .int .i64 b] 23) from cX_v11)).1).trans cX_v11
  have cZ_v14 : v14.heap[EZ]? = some (.cells #[.int .i64 8, .int .i64 1] 23) := (hb_v14.block (EZ) (Array.getElem?_eq_some_iff.1 (show v11.heap[EZ]? = some (.cells #[.int .i64 8, .int .i64 1] 23) from cZ_v11)).1).trans cZ_v11
  have cH_v14 : v14.heap[EH]? = some (.cells #[.int .i64 0, .int .i64 0] 23) := (hb_v14.block (EH) (Array.getElem?_eq_some_iff.1 (show v11.heap[EH]? = some (.cells #[.int .i64 0, .int .i64 0] 23) from cH_v11)).1).trans cH_v11
  have hw_v14 : Below D w v14 := (hw_v11).trans (hb_v14.mono (by first | omega | (simp; omega)))
  clear cX_v11 cZ_v11 cH_v11 hb_v14 y12_0 y12_1 y13_0 y13_1 hw_v11 hs_v14
  have ld15 : v14.heap[D]? = some (.cells #[.int .i64 a, .int .i64 b] 23) := cX_v14
  have y15_0 := cell2_0 ld15
  have y15_1 := cell2_1 ld15
  clear ld15
  go_wp2_with fail
  refine (CL.out _).mono ?_
  rintro e v16 ⟨rfl, hb_v16⟩
  have hs_v16 := hw_v14.size
  have cX_v16 : v16.heap[D]? = some (.cells #[.int .i64 a, .int .i64 b] 23) := (hb_v16.block (D) (Array.getElem?_eq_some_iff.1 (show v14.heap[D]? = some (.cells #[.int .i64 a, .int .i64 b] 23) from cX_v14)).1).trans cX_v14
  have cZ_v16 : v16.heap[EZ]? = some (.cells #[.int .i64 8, .int .i64 1] 23) := (hb_v16.block (EZ) (Array.getElem?_eq_some_iff.1 (show v14.heap[EZ]? = some (.cells #[.int .i64 8, .int .i64 1] 23) from cZ_v14)).1).trans cZ_v14
  have cH_v16 : v16.heap[EH]? = some (.cells #[.int .i64 0, .int .i64 0] 23) := (hb_v16.block (EH) (Array.getElem?_eq_some_iff.1 (show v14.heap[EH]? = some (.cells #[.int .i64 0, .int .i64 0] 23) from cH_v14)).1).trans cH_v14
  have hw_v16 : Below D w v16 := (hw_v14).trans (hb_v16.mono (by first | omega | (simp; omega)))
  clear cX_v14 cZ_v14 cH_v14 hb_v16 y15_0 y15_1 hw_v14 hs_v16
  have ld17 : v16.heap[D]? = some (.cells #[.int .i64 a, .int .i64 b] 23) := cX_v16
  have y17_0 := cell2_0 ld17
  have y17_1 := cell2_1 ld17
  clear ld17
  go_wp2_with fail
  refine (MU.out _).mono ?_
  rintro e v18 ⟨rfl, hb_v18⟩
  have hs_v18 := hw_v16.size
  have cX_v18 : v18.heap[D]? = some (.cells #[.int .i64 a, .int .i64 b] 23) := (hb_v18.block (D) (Array.getElem?_eq_some_iff.1 (show v16.heap[D]? = some (.cells #[.int .i64 a, .int .i64 b] 23) from cX_v16)).1).trans cX_v16
  have cZ_v18 : v18.heap[EZ]? = some (.cells #[.int .i64 8, .int .i64 1] 23) := (hb_v18.block (EZ) (Array.getElem?_eq_some_iff.1 (show v16.heap[EZ]? = some (.cells #[.int .i64 8, .int .i64 1] 23) from cZ_v16)).1).trans cZ_v16
  have cH_v18 : v18.heap[EH]? = some (.cells #[.int .i64 0, .int .i64 0] 23) := (hb_v18.block (EH) (Array.getElem?_eq_some_iff.1 (show v16.heap[EH]? = some (.cells #[.int .i64 0, .int .i64 0] 23) from cH_v16)).1).trans cH_v16
  have hw_v18 : Below D w v18 := (hw_v16).trans (hb_v18.mono (by first | omega | (simp; omega)))
  clear cX_v16 cZ_v16 cH_v16 hb_v18 y17_0 y17_1 hw_v16 hs_v18
  have ld19 : v18.heap[D]? = some (.cells #[.int .i64 a, .int .i64 b] 23) := cX_v18
  have y19_0 := cell2_0 ld19
  have y19_1 := cell2_1 ld19
  clear ld19
  have ld20 : v18.heap[EZ]? = some (.cells #[.int .i64 8, .int .i64 1] 23) := cZ_v18
  have y20_0 := cell2_0 ld20
  have y20_1 := cell2_1 ld20
  clear ld20
  go_wp2_with fail
  refine (CM.out _).mono ?_
  rintro e v21 ⟨rfl, hb_v21⟩
  have hs_v21 := hw_v18.size
  have cX_v21 : v21.heap[D]? = some (.cells #[.int .i64 a, .int .i64 b] 23) := (hb_v21.block (D) (Array.getElem?_eq_some_iff.1 (show v18.heap[D]? = some (.cells #[.int .i64 a, .int .i64 b] 23) from cX_v18)).1).trans cX_v18
  have cZ_v21 : v21.heap[EZ]? = some (.cells #[.int .i64 8, .int .i64 1] 23) := (hb_v21.block (EZ) (Array.getElem?_eq_some_iff.1 (show v18.heap[EZ]? = some (.cells #[.int .i64 8, .int .i64 1] 23) from cZ_v18)).1).trans cZ_v18
  have cH_v21 : v21.heap[EH]? = some (.cells #[.int .i64 0, .int .i64 0] 23) := (hb_v21.block (EH) (Array.getElem?_eq_some_iff.1 (show v18.heap[EH]? = some (.cells #[.int .i64 0, .int .i64 0] 23) from cH_v18)).1).trans cH_v18
  have hw_v21 : Below D w v21 := (hw_v18).trans (hb_v21.mono (by first | omega | (simp; omega)))
  clear cX_v18 cZ_v18 cH_v18 hb_v21 y19_0 y19_1 y20_0 y20_1 hw_v18 hs_v21
  have ld22 : v21.heap[D]? = some (.cells #[.int .i64 a, .int .i64 b] 23) := cX_v21
  have y22_0 := cell2_0 ld22
  have y22_1 := cell2_1 ld22
  clear ld22
  go_wp2_with fail
  refine (SN.out _).mono ?_
  rintro e v23 ⟨rfl, hb_v23⟩
  have hs_v23 := hw_v21.size
  have cX_v23 : v23.heap[D]? = some (.cells #[.int .i64 a, .int .i64 b] 23) := (hb_v23.block (D) (Array.getElem?_eq_some_iff.1 (show v21.heap[D]? = some (.cells #[.int .i64 a, .int .i64 b] 23) from cX_v21)).1).trans cX_v21
  have cZ_v23 : v23.heap[EZ]? = some (.cells #[.int .i64 8, .int .i64 1] 23) := (hb_v23.block (EZ) (Array.getElem?_eq_some_iff.1 (show v21.heap[EZ]? = some (.cells #[.int .i64 8, .int .i64 1] 23) from cZ_v21)).1).trans cZ_v21
  have cH_v23 : v23.heap[EH]? = some (.cells #[.int .i64 0, .int .i64 0] 23) := (hb_v23.block (EH) (Array.getElem?_eq_some_iff.1 (show v21.heap[EH]? = some (.cells #[.int .i64 0, .int .i64 0] 23) from cH_v21)).1).trans cH_v21
  have hw_v23 : Below D w v23 := (hw_v21).trans (hb_v23.mono (by first | omega | (simp; omega)))
  clear cX_v21 cZ_v21 cH_v21 hb_v23 y22_0 y22_1 hw_v21 hs_v23
  have ld24 : v23.heap[EH]? = some (.cells #[.int .i64 0, .int .i64 0] 23) := cH_v23
  have y24_0 := cell2_0 ld24
  have y24_1 := cell2_1 ld24
  clear ld24
  have he0 := HE0.out
  have HW := Lib.hid (hw_v23)
  go_wp2
  go_ret
  exact ⟨rfl, by first | exact HW.out | (rw [hD]; exact HW.out)⟩

set_option maxRecDepth 100000 in
set_option maxHeartbeats 8000000 in
theorem checks_ok (a b : Int) (h1 : pk a b = 0) (w : World) (P : Pg w) : Calls Tryz.prog 3 #[.agg #[.int .i64 a, .int .i64 b]] w fun e w' => e = .returned (.bool true) ∧ Below w.heap.size w w' := by
  obtain ⟨_, k1, k2, k3, k4, _⟩ := pk_ok h1
  have KN := Lib.hid (fun W P => pknown_c W P)
  have CH := Lib.hid (fun W => lcheck_any a b W)
  have PC := Lib.hid (fun W => pcheck_any a b W)
  have F81 := Lib.hid (fun W => f_lit 8 1 W (by decide +kernel))
  rw [h1] at CH PC
  have HA := Lib.hid (fun W => pharm_ok a b h1 W)
  have FF := Lib.hid (fun W => lf_any (8 * b) a W (by omega) (by omega) k1 (by omega) _ _ rfl rfl)
  obtain ⟨x, hx⟩ : ∃ x, FracMath.qn (8 * b) a = x := ⟨_, rfl⟩
  obtain ⟨y, hy⟩ : ∃ x, FracMath.qd (8 * b) a = x := ⟨_, rfl⟩
  rw [hx, hy] at HA FF
  have HEQ := Lib.hid (fr_eq x y)
  clear h1 hx hy
  obtain ⟨D, hD⟩ : ∃ D, w.heap.size = D := ⟨_, rfl⟩
  go_enter Tryz.func3, Tryz.ntmps3
  have P2 : Pg (w.alloc (.cells #[.int .i64 a, .int .i64 b] 23)) := P.below (by first | exact ((Below.refl _ w).alloc (by first | omega | (simp; omega)) (.cells #[.int .i64 a, .int .i64 b] 23)) | (rw [hD]; exact ((Below.refl _ w).alloc (by first | omega | (simp; omega)) (.cells #[.int .i64 a, .int .i64 b] 23))))
  go_wp2_with fail
  refine (KN.out _ P2).mono ?_
  rintro e v1 ⟨rfl, hb_v1⟩
  have cX_v1 : v1.heap[D]? = some (.cells #[.int .i64 a, .int .i64 b] 23) := (hb_v1.block (D) (Array.getElem?_eq_some_iff.1 (show (w.alloc (.cells #[.int .i64 a, .int .i64 b] 23)).heap[D]? = some (.cells #[.int .i64 a, .int .i64 b] 23) from (heap_new (by first | omega | (simp; omega))))).1).trans (heap_new (by first | omega | (simp; omega)))
  have hw_v1 : Below D w v1 := (((Below.refl _ w).alloc (by first | omega | (simp; omega)) (.cells #[.int .i64 a, .int .i64 b] 23))).trans (hb_v1.mono (by first | omega | (simp; omega)))
  clear hb_v1
  have ld2 : v1.heap[D]? = some (.cells #[.int .i64 a, .int .i64 b] 23) := cX_v1
  have y2_0 := cell2_0 ld2
  have y2_1 := cell2_1 ld2
  clear ld2
  go_wp2_with fail
  refine (CH.out _).mono ?_
  rintro e v3 ⟨rfl, hb_v3⟩
  have hs_v3 := hw_v1.size
  have cX_v3 : v3.heap[D]? = some (.cells #[.int .i64 a, .int .i64 b] 23) := (hb_v3.block (D) (Array.getElem?_eq_some_iff.1 (show v1.heap[D]? = some (.cells #[.int .i64 a, .int .i64 b] 23) from cX_v1)).1).trans cX_v1
  have hw_v3 : Below D w v3 := (hw_v1).trans (hb_v3.mono (by first | omega | (simp; omega)))
  clear cX_v1 hb_v3 y2_0 y2_1 hw_v1 hs_v3
  go_wp2_with fail
  refine (F81.out _).mono ?_
  rintro e v4 ⟨rfl, hb_v4⟩
  have hs_v4 := hw_v3.size
  have cX_v4 : v4.heap[D]? = some (.cells #[.int .i64 a, .int .i64 b] 23) := (hb_v4.block (D) (Array.getElem?_eq_some_iff.1 (show v3.heap[D]? = some (.cells #[.int .i64 a, .int .i64 b] 23) from cX_v3)).1).trans cX_v3
  have hw_v4 : Below D w v4 := (hw_v3).trans (hb_v4.mono (by first | omega | (simp; omega)))
  clear cX_v3 hb_v4 hw_v3 hs_v4
  obtain ⟨EZ, hEZ⟩ : ∃ E, v4.heap.size = E := ⟨_, rfl⟩
  have ld5 : (v4.alloc (.cells #[.int .i64 8, .int .i64 1] 23)).heap[D]? = some (.cells #[.int .i64 a, .int .i64 b] 23) := (heap_old (o := .cells #[.int .i64 8, .int .i64 1] 23) cX_v4)
  have y5_0 := cell2_0 ld5
  have y5_1 := cell2_1 ld5
  clear ld5
  go_wp2_with fail
  refine (PC.out _).mono ?_
  rintro e v6 ⟨rfl, hb_v6⟩
  have hs_v6 := hw_v4.size
  have cX_v6 : v6.heap[D]? = some (.cells #[.int .i64 a, .int .i64 b] 23) := (hb_v6.block (D) (Array.getElem?_eq_some_iff.1 (show (v4.alloc (.cells #[.int .i64 8, .int .i64 1] 23)).heap[D]? = some (.cells #[.int .i64 a, .int .i64 b] 23) from (heap_old (o := .cells #[.int .i64 8, .int .i64 1] 23) cX_v4))).1).trans (heap_old (o := .cells #[.int .i64 8, .int .i64 1] 23) cX_v4)
  have cZ_v6 : v6.heap[EZ]? = some (.cells #[.int .i64 8, .int .i64 1] 23) := (hb_v6.block (EZ) (Array.getElem?_eq_some_iff.1 (show (v4.alloc (.cells #[.int .i64 8, .int .i64 1] 23)).heap[EZ]? = some (.cells #[.int .i64 8, .int .i64 1] 23) from (heap_new (by first | omega | (simp; omega))))).1).trans (heap_new (by first | omega | (simp; omega)))
  have hw_v6 : Below D w v6 := ((hw_v4.alloc (by have := hw_v4.size; first | omega | (simp; omega)) (.cells #[.int .i64 8, .int .i64 1] 23))).trans (hb_v6.mono (by first | omega | (simp; omega)))
  clear cX_v4 hb_v6 y5_0 y5_1 hw_v4 hs_v6
  have ld7 : v6.heap[D]? = some (.cells #[.int .i64 a, .int .i64 b] 23) := cX_v6
  have y7_0 := cell2_0 ld7
  have y7_1 := cell2_1 ld7
  clear ld7
  go_wp2_with fail
  refine (HA.out _).mono ?_
  rintro e v8 ⟨rfl, hb_v8⟩
  have hs_v8 := hw_v6.size
  have cX_v8 : v8.heap[D]? = some (.cells #[.int .i64 a, .int .i64 b] 23) := (hb_v8.block (D) (Array.getElem?_eq_some_iff.1 (show v6.heap[D]? = some (.cells #[.int .i64 a, .int .i64 b] 23) from cX_v6)).1).trans cX_v6
  have cZ_v8 : v8.heap[EZ]? = some (.cells #[.int .i64 8, .int .i64 1] 23) := (hb_v8.block (EZ) (Array.getElem?_eq_some_iff.1 (show v6.heap[EZ]? = some (.cells #[.int .i64 8, .int .i64 1] 23) from cZ_v6)).1).trans cZ_v6
  have hw_v8 : Below D w v8 := (hw_v6).trans (hb_v8.mono (by first | omega | (simp; omega)))
  clear cX_v6 cZ_v6 hb_v8 y7_0 y7_1 hw_v6 hs_v8
  obtain ⟨EH, hEH⟩ : ∃ E, v8.heap.size = E := ⟨_, rfl⟩
  obtain ⟨V1, hV1⟩ : ∃ V, (v8.alloc (.cells #[.int .i64 x, .int .i64 y] 23)) = V := ⟨_, rfl⟩
  have hw_V1 : Below D w V1 := by rw [← hV1]; exact (hw_v8.alloc (by have := hw_v8.size; first | omega | (simp; omega)) (.cells #[.int .i64 x, .int .i64 y] 23))
  have HX_V1 := Lib.hid (show V1.heap[D]? = some (.cells #[.int .i64 a, .int .i64 b] 23) by rw [← hV1]; exact (heap_old (o := .cells #[.int .i64 x, .int .i64 y] 23) cX_v8))
  have HZ_V1 := Lib.hid (show V1.heap[EZ]? = some (.cells #[.int .i64 8, .int .i64 1] 23) by rw [← hV1]; exact (heap_old (o := .cells #[.int .i64 x, .int .i64 y] 23) cZ_v8))
  have HH_V1 := Lib.hid (show V1.heap[EH]? = some (.cells #[.int .i64 x, .int .i64 y] 23) by rw [← hV1]; exact (heap_new (by first | omega | (simp; omega))))
  have PV_V1 : Pg V1 := P.below (by first | exact hw_V1 | (rw [hD]; exact hw_V1))
  have GG_V1 := Lib.hid (fun (W : World) (h : Below V1.heap.size V1 W) => PV_V1.below h)
  clear cX_v8 cZ_v8 hw_v8
  go_upto_region 8 with fail
  try rw [hV1]
  refine wp_region_slots_at rfl rfl (fun base ys => ((((((((((((base.set 36 (ys 0)).set 37 (ys 1)).set 38 (ys 2)).set 39 (ys 3)).set 40 (ys 4)).set 41 (ys 5)).set 42 (ys 6)).set 43 (ys 7)).set 44 (ys 8)).set 45 (ys 9)).set 46 (ys 10)).set 47 (ys 11)).set 2 (ys 12)) (BelowI _ (fun A => Below V1.heap.size V1 A) (ckI D a b x y)) (fun | 12 => .bool false | _ => undef) (by kernel_rfl) (below_start (R := fun A => Below V1.heap.size V1 A) ⟨rfl, rfl, rfl, Nat.le_refl _, fun _ _ => rfl⟩) ?h
  case h =>
    intro FF hFF
    simp only [List.set_cons_succ, List.set_cons_zero] at hFF
    subst hFF
    refine ⟨rfl, ?_, ?_⟩
    refine ⟨?_, ?_⟩
    · refine SlotStep.below (fun A B hb h => h.trans (hb.mono h.size)) (ckI_up D a b x y) ?_
      intro ys W hR hd K hK
      go_simp
      have hK2 := hK (.int .i64 0) _ (Below.refl _ _) rfl
      simp (config := { decide := true }) only [upd, if_true, if_false] at hK2
      exact hK2
    refine ⟨?_, ?_⟩
    · refine SlotStep.below (fun A B hb h => h.trans (hb.mono h.size)) (ckI_up D a b x y) ?_
      intro ys W hR hd K hK
      have dd0 : ys 0 = (.int .i64 0) := hd 0 (by kernel_rfl) (by decide)
      go_simp
      have hK2 := hK (.bool true) _ (Below.refl _ _) rfl
      simp (config := { decide := true }) only [upd, if_true, if_false, dd0] at hK2
      exact hK2
    refine ⟨?_, ?_⟩
    · refine SlotStep.below (fun A B hb h => h.trans (hb.mono h.size)) (ckI_up D a b x y) ?_
      intro ys W hR hd K hK
      have dd1 : ys 1 = (.bool true) := hd 1 (by kernel_rfl) (by decide)
      go_simp
      have hK2 := hK (.bool true) _ (Below.refl _ _) rfl
      simp (config := { decide := true }) only [upd, if_true, if_false, dd1] at hK2
      exact hK2
    refine ⟨?_, ?_⟩
    · refine SlotStep.below (fun A B hb h => h.trans (hb.mono h.size)) (ckI_up D a b x y) ?_
      intro ys W hR hd K hK
      have dd2 : ys 2 = (.bool true) := hd 2 (by kernel_rfl) (by decide)
      have hl := (hR.block (EH) (Array.getElem?_eq_some_iff.1 HH_V1.out).1).trans HH_V1.out
      have c0 := cell2_0 hl
      have c1 := cell2_1 hl
      go_simp
      have hK2 := hK (.agg #[.int .i64 x, .int .i64 y]) _ (Below.refl _ _) rfl
      simp (config := { decide := true }) only [upd, if_true, if_false, dd2] at hK2
      exact hK2
    refine ⟨?_, ?_⟩
    · refine SlotStep.below (fun A B hb h => h.trans (hb.mono h.size)) (ckI_up D a b x y) ?_
      intro ys W hR hd K hK
      have dd2 : ys 2 = (.bool true) := hd 2 (by kernel_rfl) (by decide)
      go_simp
      have hK2 := hK (.pointer (some ⟨D, 1, none⟩)) _ (Below.refl _ _) rfl
      simp (config := { decide := true }) only [upd, if_true, if_false, dd2] at hK2
      exact hK2
    refine ⟨?_, ?_⟩
    · refine SlotStep.below (fun A B hb h => h.trans (hb.mono h.size)) (ckI_up D a b x y) ?_
      intro ys W hR hd K hK
      have dd2 : ys 2 = (.bool true) := hd 2 (by kernel_rfl) (by decide)
      have dd4 : ys 4 = (.pointer (some ⟨D, 1, none⟩)) := hd 4 (by kernel_rfl) (by decide)
      have hl := (hR.block (D) (Array.getElem?_eq_some_iff.1 HX_V1.out).1).trans HX_V1.out
      have c1 := cell2_1 hl
      go_simp
      have hK2 := hK (.int .i64 b) _ (Below.refl _ _) rfl
      simp (config := { decide := true }) only [upd, if_true, if_false, dd2, dd4] at hK2
      exact hK2
    refine ⟨?_, ?_⟩
    · refine SlotStep.below (fun A B hb h => h.trans (hb.mono h.size)) (ckI_up D a b x y) ?_
      intro ys W hR hd K hK
      have dd2 : ys 2 = (.bool true) := hd 2 (by kernel_rfl) (by decide)
      have dd5 : ys 5 = (.int .i64 b) := hd 5 (by kernel_rfl) (by decide)
      have wq := wrap_in (q := 8 * b) (by omega) (by omega)
      go_simp
      have hK2 := hK (.int .i64 (8 * b)) _ (Below.refl _ _) rfl
      simp (config := { decide := true }) only [upd, if_true, if_false, dd2, dd5] at hK2
      exact hK2
    refine ⟨?_, ?_⟩
    · refine SlotStep.below (fun A B hb h => h.trans (hb.mono h.size)) (ckI_up D a b x y) ?_
      intro ys W hR hd K hK
      have dd2 : ys 2 = (.bool true) := hd 2 (by kernel_rfl) (by decide)
      go_simp
      have hK2 := hK (.pointer (some ⟨D, 0, none⟩)) _ (Below.refl _ _) rfl
      simp (config := { decide := true }) only [upd, if_true, if_false, dd2] at hK2
      exact hK2
    refine ⟨?_, ?_⟩
    · refine SlotStep.below (fun A B hb h => h.trans (hb.mono h.size)) (ckI_up D a b x y) ?_
      intro ys W hR hd K hK
      have dd2 : ys 2 = (.bool true) := hd 2 (by kernel_rfl) (by decide)
      have dd7 : ys 7 = (.pointer (some ⟨D, 0, none⟩)) := hd 7 (by kernel_rfl) (by decide)
      have hl := (hR.block (D) (Array.getElem?_eq_some_iff.1 HX_V1.out).1).trans HX_V1.out
      have c0 := cell2_0 hl
      go_simp
      have hK2 := hK (.int .i64 a) _ (Below.refl _ _) rfl
      simp (config := { decide := true }) only [upd, if_true, if_false, dd2, dd7] at hK2
      exact hK2
    refine ⟨?_, ?_⟩
    · refine SlotStep.below (fun A B hb h => h.trans (hb.mono h.size)) (ckI_up D a b x y) ?_
      intro ys W hR hd K hK
      have dd2 : ys 2 = (.bool true) := hd 2 (by kernel_rfl) (by decide)
      have dd6 : ys 6 = (.int .i64 (8 * b)) := hd 6 (by kernel_rfl) (by decide)
      have dd8 : ys 8 = (.int .i64 a) := hd 8 (by kernel_rfl) (by decide)
      go_simp
      refine (FF.out _).mono ?_
      rintro e w5 ⟨rfl, hb5⟩
      have hK2 := hK (.agg #[.int .i64 x, .int .i64 y]) _ hb5 rfl
      simp (config := { decide := true }) only [upd, if_true, if_false, dd2, dd6, dd8] at hK2
      exact hK2
    refine ⟨?_, ?_⟩
    · refine SlotStep.below (fun A B hb h => h.trans (hb.mono h.size)) (ckI_up D a b x y) ?_
      intro ys W hR hd K hK
      have dd2 : ys 2 = (.bool true) := hd 2 (by kernel_rfl) (by decide)
      have dd3 : ys 3 = (.agg #[.int .i64 x, .int .i64 y]) := hd 3 (by kernel_rfl) (by decide)
      have dd9 : ys 9 = (.agg #[.int .i64 x, .int .i64 y]) := hd 9 (by kernel_rfl) (by decide)
      have he := HEQ.out
      go_simp
      have hK2 := hK (.bool true) _ (Below.refl _ _) rfl
      simp (config := { decide := true }) only [upd, if_true, if_false, dd2, dd3, dd9] at hK2
      exact hK2
    refine ⟨?_, ?_⟩
    · refine SlotStep.below (fun A B hb h => h.trans (hb.mono h.size)) (ckI_up D a b x y) ?_
      intro ys W hR hd K hK
      have dd2 : ys 2 = (.bool true) := hd 2 (by kernel_rfl) (by decide)
      have dd10 : ys 10 = (.bool true) := hd 10 (by kernel_rfl) (by decide)
      go_simp
      have hK2 := hK (.bool true) _ (Below.refl _ _) rfl
      simp (config := { decide := true }) only [upd, if_true, if_false, dd2, dd10] at hK2
      exact hK2
    refine ⟨?_, ?_⟩
    · refine SlotStep.below (fun A B hb h => h.trans (hb.mono h.size)) (ckI_up D a b x y) ?_
      intro ys W hR hd K hK
      have dd11 : ys 11 = (.bool true) := hd 11 (by kernel_rfl) (by decide)
      go_simp
      have hK2 := hK (.bool true) _ (Below.refl _ _) rfl
      simp (config := { decide := true }) only [upd, if_true, if_false, dd11] at hK2
      exact hK2
    trivial
    · intro L5 ys5 U1 hL5 hI5
      obtain ⟨hR5, hj5⟩ := hI5
      have d12_U1 : ys5 12 = (.bool true) := hj5 12 (by decide) (hL5 12 (by decide))
      simp only [d12_U1]
      have cX_U1 : U1.heap[D]? = some (.cells #[.int .i64 a, .int .i64 b] 23) := (hR5.block (D) (Array.getElem?_eq_some_iff.1 HX_V1.out).1).trans HX_V1.out
      have cZ_U1 : U1.heap[EZ]? = some (.cells #[.int .i64 8, .int .i64 1] 23) := (hR5.block (EZ) (Array.getElem?_eq_some_iff.1 HZ_V1.out).1).trans HZ_V1.out
      have cH_U1 : U1.heap[EH]? = some (.cells #[.int .i64 x, .int .i64 y] 23) := (hR5.block (EH) (Array.getElem?_eq_some_iff.1 HH_V1.out).1).trans HH_V1.out
      have hw_U1 : Below D w U1 := hw_V1.trans (hR5.mono (by have := hw_V1.size; first | omega | (simp; omega)))
      clear hj5 hL5 hR5 hw_V1 d12_U1 hV1 GG_V1 PV_V1 HX_V1 HZ_V1 HH_V1
      have HW := Lib.hid (hw_U1)
      go_wp2
      go_ret
      exact ⟨rfl, by first | exact HW.out | (rw [hD]; exact HW.out)⟩

theorem checks_law (a b : Int) (w : World) (P : Pg w) : Calls Tryz.prog 3 #[.agg #[.int .i64 a, .int .i64 b]] w fun e w' => e = .returned (.bool true) ∧ Below w.heap.size w w' := by
  by_cases h : pk a b = 0
  · exact checks_ok a b h w P
  · exact checks_bad a b h w P
end Go.Proofs.YtkoljddejjfbiaaGreatDoor
