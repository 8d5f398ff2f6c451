/- The walk of PitchTurns. -/
import Derived.Test.YtkoljddejjfbiaaGreatDoorPtJ
namespace Go.Proofs.YtkoljddejjfbiaaGreatDoor
open Go Go.RowKit Go.Shelf

def tn8a (a b : Nat) (t : Int) : Nat → Value → World → Prop
  | 0, v, _ => v = .agg #[.int .i64 (a : Int), .int .i64 (b : Int)]
  | 1, v, _ => v = .agg #[.int .i64 8, .int .i64 1]
  | 2, v, _ => v = .tuple #[.int .i64 t, .int .i64 0]
  | 3, v, _ => v = .tuple #[.int .i64 t, .int .i64 0]
  | 4, v, _ => v = .int .i64 t
  | 5, v, _ => v = .int .i64 0
  | 6, v, _ => v = .int .i64 t
  | 7, v, _ => v = .int .i64 0
  | _, _, _ => True

theorem tn8a_up (a b : Nat) (t : Int) : ∀ (j : Nat) (v : Value) (A B : World), Below A.heap.size A B → tn8a a b t j v A → tn8a a b t j v B
  | 0, _, _, _, _, h => h
  | 1, _, _, _, _, h => h
  | 2, _, _, _, _, h => h
  | 3, _, _, _, _, h => h
  | 4, _, _, _, _, h => h
  | 5, _, _, _, _, h => h
  | 6, _, _, _, _, h => h
  | 7, _, _, _, _, h => h
  | _ + 8, _, _, _, _, _ => trivial

def tn9a (c d t : Int) : Nat → Value → World → Prop
  | 0, v, _ => v = .agg #[.int .i64 c, .int .i64 d]
  | 1, v, _ => v = .agg #[.int .i64 8, .int .i64 1]
  | 2, v, _ => v = .tuple #[.int .i64 t, .int .i64 0]
  | 3, v, _ => v = .tuple #[.int .i64 t, .int .i64 0]
  | 4, v, _ => v = .int .i64 t
  | 5, v, _ => v = .int .i64 0
  | 6, v, _ => v = .int .i64 t
  | 7, v, _ => v = .int .i64 0
  | _, _, _ => True

theorem tn9a_up (c d t : Int) : ∀ (j : Nat) (v : Value) (A B : World), Below A.heap.size A B → tn9a c d t j v A → tn9a c d t j v B
  | 0, _, _, _, _, h => h
  | 1, _, _, _, _, h => h
  | 2, _, _, _, _, h => h
  | 3, _, _, _, _, h => h
  | 4, _, _, _, _, h => h
  | 5, _, _, _, _, h => h
  | 6, _, _, _, _, h => h
  | 7, _, _, _, _, h => h
  | _ + 8, _, _, _, _, _ => trivial

def tn8b (a b : Nat) (t : Int) : Nat → Value → World → Prop
  | 0, v, _ => v = .agg #[.int .i64 (a : Int), .int .i64 (b : Int)]
  | 1, v, _ => v = .agg #[.int .i64 8, .int .i64 1]
  | 2, v, _ => v = .tuple #[.int .i64 t, .int .i64 0]
  | 3, v, _ => v = .tuple #[.int .i64 t, .int .i64 0]
  | 4, v, _ => v = .int .i64 t
  | 5, v, _ => v = .int .i64 0
  | 6, v, _ => v = .int .i64 t
  | 7, v, _ => v = .int .i64 0
  | _, _, _ => True

theorem tn8b_up (a b : Nat) (t : Int) : ∀ (j : Nat) (v : Value) (A B : World), Below A.heap.size A B → tn8b a b t j v A → tn8b a b t j v B
  | 0, _, _, _, _, h => h
  | 1, _, _, _, _, h => h
  | 2, _, _, _, _, h => h
  | 3, _, _, _, _, h => h
  | 4, _, _, _, _, h => h
  | 5, _, _, _, _, h => h
  | 6, _, _, _, _, h => h
  | 7, _, _, _, _, h => h
  | _ + 8, _, _, _, _, _ => trivial

def tn9b (c d t : Int) : Nat → Value → World → Prop
  | 0, v, _ => v = .agg #[.int .i64 c, .int .i64 d]
  | 1, v, _ => v = .agg #[.int .i64 8, .int .i64 1]
  | 2, v, _ => v = .tuple #[.int .i64 t, .int .i64 0]
  | 3, v, _ => v = .tuple #[.int .i64 t, .int .i64 0]
  | 4, v, _ => v = .int .i64 t
  | 5, v, _ => v = .int .i64 0
  | 6, v, _ => v = .int .i64 t
  | 7, v, _ => v = .int .i64 0
  | _, _, _ => True

theorem tn9b_up (c d t : Int) : ∀ (j : Nat) (v : Value) (A B : World), Below A.heap.size A B → tn9b c d t j v A → tn9b c d t j v B
  | 0, _, _, _, _, h => h
  | 1, _, _, _, _, h => h
  | 2, _, _, _, _, h => h
  | 3, _, _, _, _, h => h
  | 4, _, _, _, _, h => h
  | 5, _, _, _, _, h => h
  | 6, _, _, _, _, h => h
  | 7, _, _, _, _, h => h
  | _ + 8, _, _, _, _, _ => trivial

def tn8c (a b : Nat) (t : Int) : Nat → Value → World → Prop
  | 0, v, _ => v = .agg #[.int .i64 (a : Int), .int .i64 (b : Int)]
  | 1, v, _ => v = .agg #[.int .i64 8, .int .i64 1]
  | 2, v, _ => v = .tuple #[.int .i64 t, .int .i64 0]
  | 3, v, _ => v = .tuple #[.int .i64 t, .int .i64 0]
  | 4, v, _ => v = .int .i64 t
  | 5, v, _ => v = .int .i64 0
  | 6, v, _ => v = .int .i64 t
  | 7, v, _ => v = .int .i64 0
  | _, _, _ => True

theorem tn8c_up (a b : Nat) (t : Int) : ∀ (j : Nat) (v : Value) (A B : World), Below A.heap.size A B → tn8c a b t j v A → tn8c a b t j v B
  | 0, _, _, _, _, h => h
  | 1, _, _, _, _, h => h
  | 2, _, _, _, _, h => h
  | 3, _, _, _, _, h => h
  | 4, _, _, _, _, h => h
  | 5, _, _, _, _, h => h
  | 6, _, _, _, _, h => h
  | 7, _, _, _, _, h => h
  | _ + 8, _, _, _, _, _ => trivial

def tn9c (c d t : Int) : Nat → Value → World → Prop
  | 0, v, _ => v = .agg #[.int .i64 c, .int .i64 d]
  | 1, v, _ => v = .agg #[.int .i64 8, .int .i64 1]
  | 2, v, _ => v = .tuple #[.int .i64 t, .int .i64 0]
  | 3, v, _ => v = .tuple #[.int .i64 t, .int .i64 0]
  | 4, v, _ => v = .int .i64 t
  | 5, v, _ => v = .int .i64 0
  | 6, v, _ => v = .int .i64 t
  | 7, v, _ => v = .int .i64 0
  | _, _, _ => True

theorem tn9c_up (c d t : Int) : ∀ (j : Nat) (v : Value) (A B : World), Below A.heap.size A B → tn9c c d t j v A → tn9c c d t j v B
  | 0, _, _, _, _, h => h
  | 1, _, _, _, _, h => h
  | 2, _, _, _, _, h => h
  | 3, _, _, _, _, h => h
  | 4, _, _, _, _, h => h
  | 5, _, _, _, _, h => h
  | 6, _, _, _, _, h => h
  | 7, _, _, _, _, h => h
  | _ + 8, _, _, _, _, _ => trivial

set_option maxRecDepth 100000 in
set_option maxHeartbeats 8000000 in
theorem turns_bad1 (a b c d : Int) (h : ¬ pk a b = 0) (w : World) (P : Pg w) : Calls Tryz.prog 8 #[.agg #[.int .i64 a, .int .i64 b], .agg #[.int .i64 c, .int .i64 d]] w fun e w' => e = .returned (.bool true) ∧ Below w.heap.size w w' := by
  have KN := Lib.hid (fun W P => pknown_c W P)
  have CH := Lib.hid (fun W => lcheck_any a b W)
  obtain ⟨z, hz⟩ : ∃ z, pk a b = z := ⟨_, rfl⟩
  rw [hz] at CH h
  clear hz
  obtain ⟨D, hD⟩ : ∃ D, w.heap.size = D := ⟨_, rfl⟩
  go_enter Tryz.func8, Tryz.ntmps8
  have P1 : Pg ((w.alloc (.cells #[.int .i64 a, .int .i64 b] 23)).alloc (.cells #[.int .i64 c, .int .i64 d] 23)) := P.below (by first | exact (((Below.refl _ w).alloc (by first | omega | (simp; omega)) (.cells #[.int .i64 a, .int .i64 b] 23)).alloc (by first | omega | (simp; omega)) (.cells #[.int .i64 c, .int .i64 d] 23)) | (rw [hD]; exact (((Below.refl _ w).alloc (by first | omega | (simp; omega)) (.cells #[.int .i64 a, .int .i64 b] 23)).alloc (by first | omega | (simp; omega)) (.cells #[.int .i64 c, .int .i64 d] 23))))
  go_wp2_with fail
  refine (KN.out _ P1).mono ?_
  rintro e v1 ⟨rfl, hb_v1⟩
  have cX_v1 : v1.heap[D]? = some (.cells #[.int .i64 a, .int .i64 b] 23) := (hb_v1.block (D) (Array.getElem?_eq_some_iff.1 (show ((w.alloc (.cells #[.int .i64 a, .int .i64 b] 23)).alloc (.cells #[.int .i64 c, .int .i64 d] 23)).heap[D]? = some (.cells #[.int .i64 a, .int .i64 b] 23) from (heap_old (o := .cells #[.int .i64 c, .int .i64 d] 23) (heap_new (by first | omega | (simp; omega)))))).1).trans (heap_old (o := .cells #[.int .i64 c, .int .i64 d] 23) (heap_new (by first | omega | (simp; omega))))
  have cY_v1 : v1.heap[D + 1]? = some (.cells #[.int .i64 c, .int .i64 d] 23) := (hb_v1.block (D + 1) (Array.getElem?_eq_some_iff.1 (show ((w.alloc (.cells #[.int .i64 a, .int .i64 b] 23)).alloc (.cells #[.int .i64 c, .int .i64 d] 23)).heap[D + 1]? = some (.cells #[.int .i64 c, .int .i64 d] 23) from (heap_new (by first | omega | (simp; omega))))).1).trans (heap_new (by first | omega | (simp; omega)))
  have hw_v1 : Below D w v1 := ((((Below.refl _ w).alloc (by first | omega | (simp; omega)) (.cells #[.int .i64 a, .int .i64 b] 23)).alloc (by first | omega | (simp; omega)) (.cells #[.int .i64 c, .int .i64 d] 23))).trans (hb_v1.mono (by first | omega | (simp; omega)))
  clear hb_v1
  have ld2 : v1.heap[D]? = some (.cells #[.int .i64 a, .int .i64 b] 23) := cX_v1
  have y2_0 := cell2_0 ld2
  have y2_1 := cell2_1 ld2
  clear ld2
  go_wp2_with fail
  refine (CH.out _).mono ?_
  rintro e v3 ⟨rfl, hb_v3⟩
  have hs_v3 := hw_v1.size
  have cX_v3 : v3.heap[D]? = some (.cells #[.int .i64 a, .int .i64 b] 23) := (hb_v3.block (D) (Array.getElem?_eq_some_iff.1 (show v1.heap[D]? = some (.cells #[.int .i64 a, .int .i64 b] 23) from cX_v1)).1).trans cX_v1
  have cY_v3 : v3.heap[D + 1]? = some (.cells #[.int .i64 c, .int .i64 d] 23) := (hb_v3.block (D + 1) (Array.getElem?_eq_some_iff.1 (show v1.heap[D + 1]? = some (.cells #[.int .i64 c, .int .i64 d] 23) from cY_v1)).1).trans cY_v1
  have hw_v3 : Below D w v3 := (hw_v1).trans (hb_v3.mono (by first | omega | (simp; omega)))
  clear cX_v1 cY_v1 hb_v3 y2_0 y2_1 hw_v1 hs_v3
  have P2 : Pg v3 := P.below (by first | exact hw_v3 | (rw [hD]; exact hw_v3))
  go_wp2_with fail
  refine (KN.out _ P2).mono ?_
  rintro e v4 ⟨rfl, hb_v4⟩
  have hs_v4 := hw_v3.size
  have cX_v4 : v4.heap[D]? = some (.cells #[.int .i64 a, .int .i64 b] 23) := (hb_v4.block (D) (Array.getElem?_eq_some_iff.1 (show v3.heap[D]? = some (.cells #[.int .i64 a, .int .i64 b] 23) from cX_v3)).1).trans cX_v3
  have cY_v4 : v4.heap[D + 1]? = some (.cells #[.int .i64 c, .int .i64 d] 23) := (hb_v4.block (D + 1) (Array.getElem?_eq_some_iff.1 (show v3.heap[D + 1]? = some (.cells #[.int .i64 c, .int .i64 d] 23) from cY_v3)).1).trans cY_v3
  have hw_v4 : Below D w v4 := (hw_v3).trans (hb_v4.mono (by first | omega | (simp; omega)))
  clear cX_v3 cY_v3 hb_v4 hw_v3 hs_v4
  have HW := Lib.hid (hw_v4)
  go_wp2
  go_ret
  exact ⟨rfl, by first | exact HW.out | (rw [hD]; exact HW.out)⟩

set_option maxRecDepth 100000 in
set_option maxHeartbeats 8000000 in
theorem turns_bad2 (a b c d : Int) (h1 : pk a b = 0) (h : ¬ pk c d = 0) (w : World) (P : Pg w) : Calls Tryz.prog 8 #[.agg #[.int .i64 a, .int .i64 b], .agg #[.int .i64 c, .int .i64 d]] w fun e w' => e = .returned (.bool true) ∧ Below w.heap.size w w' := by
  have KN := Lib.hid (fun W P => pknown_c W P)
  have CH := Lib.hid (fun W => lcheck_any a b W)
  have CH2 := Lib.hid (fun W => lcheck_any c d W)
  rw [h1] at CH
  obtain ⟨z, hz⟩ : ∃ z, pk c d = z := ⟨_, rfl⟩
  rw [hz] at CH2 h
  clear hz
  obtain ⟨D, hD⟩ : ∃ D, w.heap.size = D := ⟨_, rfl⟩
  go_enter Tryz.func8, Tryz.ntmps8
  have P3 : Pg ((w.alloc (.cells #[.int .i64 a, .int .i64 b] 23)).alloc (.cells #[.int .i64 c, .int .i64 d] 23)) := P.below (by first | exact (((Below.refl _ w).alloc (by first | omega | (simp; omega)) (.cells #[.int .i64 a, .int .i64 b] 23)).alloc (by first | omega | (simp; omega)) (.cells #[.int .i64 c, .int .i64 d] 23)) | (rw [hD]; exact (((Below.refl _ w).alloc (by first | omega | (simp; omega)) (.cells #[.int .i64 a, .int .i64 b] 23)).alloc (by first | omega | (simp; omega)) (.cells #[.int .i64 c, .int .i64 d] 23))))
  go_wp2_with fail
  refine (KN.out _ P3).mono ?_
  rintro e v1 ⟨rfl, hb_v1⟩
  have cX_v1 : v1.heap[D]? = some (.cells #[.int .i64 a, .int .i64 b] 23) := (hb_v1.block (D) (Array.getElem?_eq_some_iff.1 (show ((w.alloc (.cells #[.int .i64 a, .int .i64 b] 23)).alloc (.cells #[.int .i64 c, .int .i64 d] 23)).heap[D]? = some (.cells #[.int .i64 a, .int .i64 b] 23) from (heap_old (o := .cells #[.int .i64 c, .int .i64 d] 23) (heap_new (by first | omega | (simp; omega)))))).1).trans (heap_old (o := .cells #[.int .i64 c, .int .i64 d] 23) (heap_new (by first | omega | (simp; omega))))
  have cY_v1 : v1.heap[D + 1]? = some (.cells #[.int .i64 c, .int .i64 d] 23) := (hb_v1.block (D + 1) (Array.getElem?_eq_some_iff.1 (show ((w.alloc (.cells #[.int .i64 a, .int .i64 b] 23)).alloc (.cells #[.int .i64 c, .int .i64 d] 23)).heap[D + 1]? = some (.cells #[.int .i64 c, .int .i64 d] 23) from (heap_new (by first | omega | (simp; omega))))).1).trans (heap_new (by first | omega | (simp; omega)))
  have hw_v1 : Below D w v1 := ((((Below.refl _ w).alloc (by first | omega | (simp; omega)) (.cells #[.int .i64 a, .int .i64 b] 23)).alloc (by first | omega | (simp; omega)) (.cells #[.int .i64 c, .int .i64 d] 23))).trans (hb_v1.mono (by first | omega | (simp; omega)))
  clear hb_v1
  have ld2 : v1.heap[D]? = some (.cells #[.int .i64 a, .int .i64 b] 23) := cX_v1
  have y2_0 := cell2_0 ld2
  have y2_1 := cell2_1 ld2
  clear ld2
  go_wp2_with fail
  refine (CH.out _).mono ?_
  rintro e v3 ⟨rfl, hb_v3⟩
  have hs_v3 := hw_v1.size
  have cX_v3 : v3.heap[D]? = some (.cells #[.int .i64 a, .int .i64 b] 23) := (hb_v3.block (D) (Array.getElem?_eq_some_iff.1 (show v1.heap[D]? = some (.cells #[.int .i64 a, .int .i64 b] 23) from cX_v1)).1).trans cX_v1
  have cY_v3 : v3.heap[D + 1]? = some (.cells #[.int .i64 c, .int .i64 d] 23) := (hb_v3.block (D + 1) (Array.getElem?_eq_some_iff.1 (show v1.heap[D + 1]? = some (.cells #[.int .i64 c, .int .i64 d] 23) from cY_v1)).1).trans cY_v1
  have hw_v3 : Below D w v3 := (hw_v1).trans (hb_v3.mono (by first | omega | (simp; omega)))
  clear cX_v1 cY_v1 hb_v3 y2_0 y2_1 hw_v1 hs_v3
  have ld4 : v3.heap[D + 1]? = some (.cells #[.int .i64 c, .int .i64 d] 23) := cY_v3
  have y4_0 := cell2_0 ld4
  have y4_1 := cell2_1 ld4
  clear ld4
  go_wp2_with fail
  refine (CH2.out _).mono ?_
  rintro e v5 ⟨rfl, hb_v5⟩
  have hs_v5 := hw_v3.size
  have cX_v5 : v5.heap[D]? = some (.cells #[.int .i64 a, .int .i64 b] 23) := (hb_v5.block (D) (Array.getElem?_eq_some_iff.1 (show v3.heap[D]? = some (.cells #[.int .i64 a, .int .i64 b] 23) from cX_v3)).1).trans cX_v3
  have cY_v5 : v5.heap[D + 1]? = some (.cells #[.int .i64 c, .int .i64 d] 23) := (hb_v5.block (D + 1) (Array.getElem?_eq_some_iff.1 (show v3.heap[D + 1]? = some (.cells #[.int .i64 c, .int .i64 d] 23) from cY_v3)).1).trans cY_v3
  have hw_v5 : Below D w v5 := (hw_v3).trans (hb_v5.mono (by first | omega | (simp; omega)))
  clear cX_v3 cY_v3 hb_v5 y4_0 y4_1 hw_v3 hs_v5
  have P4 : Pg v5 := P.below (by first | exact hw_v5 | (rw [hD]; exact hw_v5))
  go_wp2_with fail
  refine (KN.out _ P4).mono ?_
  rintro e v6 ⟨rfl, hb_v6⟩
  have hs_v6 := hw_v5.size
  have cX_v6 : v6.heap[D]? = some (.cells #[.int .i64 a, .int .i64 b] 23) := (hb_v6.block (D) (Array.getElem?_eq_some_iff.1 (show v5.heap[D]? = some (.cells #[.int .i64 a, .int .i64 b] 23) from cX_v5)).1).trans cX_v5
  have cY_v6 : v6.heap[D + 1]? = some (.cells #[.int .i64 c, .int .i64 d] 23) := (hb_v6.block (D + 1) (Array.getElem?_eq_some_iff.1 (show v5.heap[D + 1]? = some (.cells #[.int .i64 c, .int .i64 d] 23) from cY_v5)).1).trans cY_v5
  have hw_v6 : Below D w v6 := (hw_v5).trans (hb_v6.mono (by first | omega | (simp; omega)))
  clear cX_v5 cY_v5 hb_v6 hw_v5 hs_v6
  have HW := Lib.hid (hw_v6)
  go_wp2
  go_ret
  exact ⟨rfl, by first | exact HW.out | (rw [hD]; exact HW.out)⟩

set_option maxRecDepth 100000 in
set_option maxHeartbeats 16000000 in
theorem turns_ok (a b : Nat) (c d : Int) (h1 : pk a b = 0) (h2 : pk c d = 0) (w : World) (P : Pg w) : Calls Tryz.prog 8 #[.agg #[.int .i64 (a : Int), .int .i64 (b : Int)], .agg #[.int .i64 c, .int .i64 d]] w fun e w' => e = .returned (.bool true) ∧ Below w.heap.size w w' := by
  obtain ⟨m1, m2⟩ := pr_bd h1 h2
  obtain ⟨m3, m4⟩ : 0 < d * (a : Int) ∧ d * (a : Int) ≤ 2097152 := by rw [Int.mul_comm]; exact pr_bd h2 h1
  obtain ⟨_, k1, k2, k3, k4, _⟩ := pk_ok h1
  obtain ⟨_, l1, l2, l3, l4, _⟩ := pk_ok h2
  have m5 : 0 < (a : Int) * b := Int.mul_pos k1 (by omega)
  obtain ⟨s, hs⟩ : ∃ s, ShI (c * b) (d * a) s := shi_ex m1 m3
  have bs := sh_of_eq hs m1 m2 m3 m4
  obtain ⟨u, hu⟩ : ∃ s, ShI (8 * b) (1 * (a : Int)) s := shi_ex (by omega) (by omega)
  obtain ⟨r, hv⟩ : ∃ s, ShI (8 * d) (1 * c) s := shi_ex (by omega) (by omega)
  obtain ⟨x, y, ex, ey, px, py, bx, bY, ox, oy, exy⟩ := half_odd a b h1
  have KN := Lib.hid (fun W P => pknown_c W P)
  have CH := Lib.hid (fun W => lcheck_any (a : Int) (b : Int) W)
  have CH2 := Lib.hid (fun W => lcheck_any c d W)
  have CH3 := Lib.hid (fun W => lcheck_any (x : Int) (y : Int) W)
  rw [h1] at CH
  rw [h2] at CH2
  have FF := Lib.hid (fun W => lf_any (a : Int) (2 * (b : Int)) W (by omega) (by omega) (by omega) (by omega) x y ex ey)
  have F81 := Lib.hid (fun W => f_lit 8 1 W (by decide +kernel))
  have S0 := Lib.hid (fun W G => pshift_ok (a : Int) b a b 0 h1 h1 (shi_comm _ _ (shi_self m5) rfl (Int.mul_comm _ _)) W G)
  have S1 := Lib.hid (fun W G => pshift_ok (a : Int) b c d s h1 h2 hs W G)
  have S2 := Lib.hid (fun W G => pshift_ok c d (a : Int) b (-s) h2 h1 (shi_comm _ _ (shi_neg hs m1) (Int.mul_comm _ _) (Int.mul_comm _ _)) W G)
  have CM := Lib.hid (fun W => pcompare_ok (a : Int) b c d h1 h2 W)
  have SU := Lib.hid (fun W G => pshift_ok (a : Int) b 8 1 u h1 pk_81 hu W G)
  have SV := Lib.hid (fun W G => pshift_ok c d 8 1 r h2 pk_81 hv W G)
  have SZ := Lib.hid (fun (h3 : pk (x : Int) y = 0) W G => pshift_ok (x : Int) y c d (s + 12) h3 h2 (shi_cross (shi_oct hs m1) (by omega) m3 (Int.mul_pos l1 (by omega)) (Int.mul_pos (by omega) (by omega)) (by
    have e : (a : Int) * y = 2 * b * x := by rw [← Int.natCast_mul, exy]; simp
    calc 2 * (c * b) * (d * x) = c * d * (2 * b * x) := by ac_rfl
      _ = c * d * (a * y) := by rw [e]
      _ = c * y * (d * a) := by ac_rfl)) W G)
  have CL := Lib.hid (fun W P => pclass_ok a b h1 W P)
  have CX := Lib.hid (fun (h3 : pk (x : Int) y = 0) W P => pclass_ok x y h3 W P)
  rw [ox, oy] at CX
  obtain ⟨cl, hcl⟩ : ∃ c, cls (oddp a) (oddp b) = c := ⟨_, rfl⟩
  rw [hcl] at CL CX
  obtain ⟨z, hz⟩ : ∃ z, pk (x : Int) y = z := ⟨_, rfl⟩
  rw [hz] at CH3 SZ CX
  obtain ⟨m, hm⟩ : ∃ m, FracMath.cmpI (c * b) (a * d) = m := ⟨_, rfl⟩
  rw [hm] at CM
  have hmm : (m = 0) ∨ (m = 1 ∧ ¬ u < r) ∨ (m = -1 ∧ ¬ r < u) := by
    rw [← hm]
    rcases Int.lt_trichotomy (c * b) (a * d) with h | h | h
    · refine .inr (.inr ⟨FracMath.cmpI_lt h, ?_⟩)
      have := shi_mono hu hv (by omega) (by omega) (by omega) (by omega) (by
        calc 8 * (b : Int) * (1 * c) = 8 * (c * b) := by rw [Int.one_mul]; ac_rfl
          _ ≤ 8 * (a * d) := by omega
          _ = 8 * d * (1 * a) := by rw [Int.one_mul]; ac_rfl)
      omega
    · exact .inl (by rw [h]; exact FracMath.cmpI_eq)
    · refine .inr (.inl ⟨FracMath.cmpI_gt h, ?_⟩)
      have := shi_mono hv hu (by omega) (by omega) (by omega) (by omega) (by
        calc 8 * d * (1 * (a : Int)) = 8 * (a * d) := by rw [Int.one_mul]; ac_rfl
          _ ≤ 8 * (c * b) := by omega
          _ = 8 * (b : Int) * (1 * c) := by rw [Int.one_mul]; ac_rfl)
      omega
  have wb := wrap_in (q := 2 * (b : Int)) (by omega) (by omega)
  have wn := wrap_in (q := - -s) (by omega) (by omega)
  rw [Int.neg_neg] at wn
  have wz := wrap_in (q := s + 12) (by omega) (by omega)
  clear hs hu hv ex ey px py bx bY ox oy exy h1 h2 m1 m2 m3 m4 m5 k1 k2 k3 k4 l1 l2 l3 l4 hcl hz hm
  obtain ⟨D, hD⟩ : ∃ D, w.heap.size = D := ⟨_, rfl⟩
  rcases hmm with rfl | ⟨rfl, hc1⟩ | ⟨rfl, hc1⟩
  · skip
    go_enter Tryz.func8, Tryz.ntmps8
    have P5 : Pg ((w.alloc (.cells #[.int .i64 (a : Int), .int .i64 (b : Int)] 23)).alloc (.cells #[.int .i64 c, .int .i64 d] 23)) := P.below (by first | exact (((Below.refl _ w).alloc (by first | omega | (simp; omega)) (.cells #[.int .i64 (a : Int), .int .i64 (b : Int)] 23)).alloc (by first | omega | (simp; omega)) (.cells #[.int .i64 c, .int .i64 d] 23)) | (rw [hD]; exact (((Below.refl _ w).alloc (by first | omega | (simp; omega)) (.cells #[.int .i64 (a : Int), .int .i64 (b : Int)] 23)).alloc (by first | omega | (simp; omega)) (.cells #[.int .i64 c, .int .i64 d] 23))))
    go_wp2_with fail
    refine (KN.out _ P5).mono ?_
    rintro e v1 ⟨rfl, hb_v1⟩
    have cX_v1 : v1.heap[D]? = some (.cells #[.int .i64 (a : Int), .int .i64 (b : Int)] 23) := (hb_v1.block (D) (Array.getElem?_eq_some_iff.1 (show ((w.alloc (.cells #[.int .i64 (a : Int), .int .i64 (b : Int)] 23)).alloc (.cells #[.int .i64 c, .int .i64 d] 23)).heap[D]? = some (.cells #[.int .i64 (a : Int), .int .i64 (b : Int)] 23) from (heap_old (o := .cells #[.int .i64 c, .int .i64 d] 23) (heap_new (by first | omega | (simp; omega)))))).1).trans (heap_old (o := .cells #[.int .i64 c, .int .i64 d] 23) (heap_new (by first | omega | (simp; omega))))
    have cY_v1 : v1.heap[D + 1]? = some (.cells #[.int .i64 c, .int .i64 d] 23) := (hb_v1.block (D + 1) (Array.getElem?_eq_some_iff.1 (show ((w.alloc (.cells #[.int .i64 (a : Int), .int .i64 (b : Int)] 23)).alloc (.cells #[.int .i64 c, .int .i64 d] 23)).heap[D + 1]? = some (.cells #[.int .i64 c, .int .i64 d] 23) from (heap_new (by first | omega | (simp; omega))))).1).trans (heap_new (by first | omega | (simp; omega)))
    have hw_v1 : Below D w v1 := ((((Below.refl _ w).alloc (by first | omega | (simp; omega)) (.cells #[.int .i64 (a : Int), .int .i64 (b : Int)] 23)).alloc (by first | omega | (simp; omega)) (.cells #[.int .i64 c, .int .i64 d] 23))).trans (hb_v1.mono (by first | omega | (simp; omega)))
    clear hb_v1
    have ld2 : v1.heap[D]? = some (.cells #[.int .i64 (a : Int), .int .i64 (b : Int)] 23) := cX_v1
    have y2_0 := cell2_0 ld2
    have y2_1 := cell2_1 ld2
    clear ld2
    go_wp2_with fail
    refine (CH.out _).mono ?_
    rintro e v3 ⟨rfl, hb_v3⟩
    have hs_v3 := hw_v1.size
    have cX_v3 : v3.heap[D]? = some (.cells #[.int .i64 (a : Int), .int .i64 (b : Int)] 23) := (hb_v3.block (D) (Array.getElem?_eq_some_iff.1 (show v1.heap[D]? = some (.cells #[.int .i64 (a : Int), .int .i64 (b : Int)] 23) from cX_v1)).1).trans cX_v1
    have cY_v3 : v3.heap[D + 1]? = some (.cells #[.int .i64 c, .int .i64 d] 23) := (hb_v3.block (D + 1) (Array.getElem?_eq_some_iff.1 (show v1.heap[D + 1]? = some (.cells #[.int .i64 c, .int .i64 d] 23) from cY_v1)).1).trans cY_v1
    have hw_v3 : Below D w v3 := (hw_v1).trans (hb_v3.mono (by first | omega | (simp; omega)))
    clear cX_v1 cY_v1 hb_v3 y2_0 y2_1 hw_v1 hs_v3
    have ld4 : v3.heap[D + 1]? = some (.cells #[.int .i64 c, .int .i64 d] 23) := cY_v3
    have y4_0 := cell2_0 ld4
    have y4_1 := cell2_1 ld4
    clear ld4
    go_wp2_with fail
    refine (CH2.out _).mono ?_
    rintro e v5 ⟨rfl, hb_v5⟩
    have hs_v5 := hw_v3.size
    have cX_v5 : v5.heap[D]? = some (.cells #[.int .i64 (a : Int), .int .i64 (b : Int)] 23) := (hb_v5.block (D) (Array.getElem?_eq_some_iff.1 (show v3.heap[D]? = some (.cells #[.int .i64 (a : Int), .int .i64 (b : Int)] 23) from cX_v3)).1).trans cX_v3
    have cY_v5 : v5.heap[D + 1]? = some (.cells #[.int .i64 c, .int .i64 d] 23) := (hb_v5.block (D + 1) (Array.getElem?_eq_some_iff.1 (show v3.heap[D + 1]? = some (.cells #[.int .i64 c, .int .i64 d] 23) from cY_v3)).1).trans cY_v3
    have hw_v5 : Below D w v5 := (hw_v3).trans (hb_v5.mono (by first | omega | (simp; omega)))
    clear cX_v3 cY_v3 hb_v5 y4_0 y4_1 hw_v3 hs_v5
    have ld6 : v5.heap[D]? = some (.cells #[.int .i64 (a : Int), .int .i64 (b : Int)] 23) := cX_v5
    have y6_0 := cell2_0 ld6
    have y6_1 := cell2_1 ld6
    clear ld6
    go_wp2_with fail
    refine (FF.out _).mono ?_
    rintro e v7 ⟨rfl, hb_v7⟩
    have hs_v7 := hw_v5.size
    have cX_v7 : v7.heap[D]? = some (.cells #[.int .i64 (a : Int), .int .i64 (b : Int)] 23) := (hb_v7.block (D) (Array.getElem?_eq_some_iff.1 (show v5.heap[D]? = some (.cells #[.int .i64 (a : Int), .int .i64 (b : Int)] 23) from cX_v5)).1).trans cX_v5
    have cY_v7 : v7.heap[D + 1]? = some (.cells #[.int .i64 c, .int .i64 d] 23) := (hb_v7.block (D + 1) (Array.getElem?_eq_some_iff.1 (show v5.heap[D + 1]? = some (.cells #[.int .i64 c, .int .i64 d] 23) from cY_v5)).1).trans cY_v5
    have hw_v7 : Below D w v7 := (hw_v5).trans (hb_v7.mono (by first | omega | (simp; omega)))
    clear cX_v5 cY_v5 hb_v7 y6_0 y6_1 hw_v5 hs_v7
    obtain ⟨EH, hEH⟩ : ∃ E, v7.heap.size = E := ⟨_, rfl⟩
    have ld8 : (v7.alloc (.cells #[.int .i64 (x : Int), .int .i64 (y : Int)] 23)).heap[D]? = some (.cells #[.int .i64 (a : Int), .int .i64 (b : Int)] 23) := (heap_old (o := .cells #[.int .i64 (x : Int), .int .i64 (y : Int)] 23) cX_v7)
    have y8_0 := cell2_0 ld8
    have y8_1 := cell2_1 ld8
    clear ld8
    have P6 : Pg (v7.alloc (.cells #[.int .i64 (x : Int), .int .i64 (y : Int)] 23)) := P.below (by first | exact (hw_v7.alloc (by have := hw_v7.size; first | omega | (simp; omega)) (.cells #[.int .i64 (x : Int), .int .i64 (y : Int)] 23)) | (rw [hD]; exact (hw_v7.alloc (by have := hw_v7.size; first | omega | (simp; omega)) (.cells #[.int .i64 (x : Int), .int .i64 (y : Int)] 23))))
    go_wp2_with fail
    refine (S0.out _ P6.gi).mono ?_
    rintro e v9 ⟨rfl, hb_v9⟩
    have hs_v9 := hw_v7.size
    have cX_v9 : v9.heap[D]? = some (.cells #[.int .i64 (a : Int), .int .i64 (b : Int)] 23) := (hb_v9.block (D) (Array.getElem?_eq_some_iff.1 (show (v7.alloc (.cells #[.int .i64 (x : Int), .int .i64 (y : Int)] 23)).heap[D]? = some (.cells #[.int .i64 (a : Int), .int .i64 (b : Int)] 23) from (heap_old (o := .cells #[.int .i64 (x : Int), .int .i64 (y : Int)] 23) cX_v7))).1).trans (heap_old (o := .cells #[.int .i64 (x : Int), .int .i64 (y : Int)] 23) cX_v7)
    have cY_v9 : v9.heap[D + 1]? = some (.cells #[.int .i64 c, .int .i64 d] 23) := (hb_v9.block (D + 1) (Array.getElem?_eq_some_iff.1 (show (v7.alloc (.cells #[.int .i64 (x : Int), .int .i64 (y : Int)] 23)).heap[D + 1]? = some (.cells #[.int .i64 c, .int .i64 d] 23) from (heap_old (o := .cells #[.int .i64 (x : Int), .int .i64 (y : Int)] 23) cY_v7))).1).trans (heap_old (o := .cells #[.int .i64 (x : Int), .int .i64 (y : Int)] 23) cY_v7)
    have cH_v9 : v9.heap[EH]? = some (.cells #[.int .i64 (x : Int), .int .i64 (y : Int)] 23) := (hb_v9.block (EH) (Array.getElem?_eq_some_iff.1 (show (v7.alloc (.cells #[.int .i64 (x : Int), .int .i64 (y : Int)] 23)).heap[EH]? = some (.cells #[.int .i64 (x : Int), .int .i64 (y : Int)] 23) from (heap_new (by first | omega | (simp; omega))))).1).trans (heap_new (by first | omega | (simp; omega)))
    have hw_v9 : Below D w v9 := ((hw_v7.alloc (by have := hw_v7.size; first | omega | (simp; omega)) (.cells #[.int .i64 (x : Int), .int .i64 (y : Int)] 23))).trans (hb_v9.mono (by first | omega | (simp; omega)))
    clear cX_v7 cY_v7 hb_v9 y8_0 y8_1 hw_v7 hs_v9
    have ld10 : v9.heap[D]? = some (.cells #[.int .i64 (a : Int), .int .i64 (b : Int)] 23) := cX_v9
    have y10_0 := cell2_0 ld10
    have y10_1 := cell2_1 ld10
    clear ld10
    have ld11 : v9.heap[D + 1]? = some (.cells #[.int .i64 c, .int .i64 d] 23) := cY_v9
    have y11_0 := cell2_0 ld11
    have y11_1 := cell2_1 ld11
    clear ld11
    have P7 : Pg v9 := P.below (by first | exact hw_v9 | (rw [hD]; exact hw_v9))
    go_wp2_with fail
    refine (S1.out _ P7.gi).mono ?_
    rintro e v12 ⟨rfl, hb_v12⟩
    have hs_v12 := hw_v9.size
    have cX_v12 : v12.heap[D]? = some (.cells #[.int .i64 (a : Int), .int .i64 (b : Int)] 23) := (hb_v12.block (D) (Array.getElem?_eq_some_iff.1 (show v9.heap[D]? = some (.cells #[.int .i64 (a : Int), .int .i64 (b : Int)] 23) from cX_v9)).1).trans cX_v9
    have cY_v12 : v12.heap[D + 1]? = some (.cells #[.int .i64 c, .int .i64 d] 23) := (hb_v12.block (D + 1) (Array.getElem?_eq_some_iff.1 (show v9.heap[D + 1]? = some (.cells #[.int .i64 c, .int .i64 d] 23) from cY_v9)).1).trans cY_v9
    have cH_v12 : v12.heap[EH]? = some (.cells #[.int .i64 (x : Int), .int .i64 (y : Int)] 23) := (hb_v12.block (EH) (Array.getElem?_eq_some_iff.1 (show v9.heap[EH]? = some (.cells #[.int .i64 (x : Int), .int .i64 (y : Int)] 23) from cH_v9)).1).trans cH_v9
    have hw_v12 : Below D w v12 := (hw_v9).trans (hb_v12.mono (by first | omega | (simp; omega)))
    clear cX_v9 cY_v9 cH_v9 hb_v12 y10_0 y10_1 y11_0 y11_1 hw_v9 hs_v12
    have ld13 : v12.heap[D]? = some (.cells #[.int .i64 (a : Int), .int .i64 (b : Int)] 23) := cX_v12
    have y13_0 := cell2_0 ld13
    have y13_1 := cell2_1 ld13
    clear ld13
    have ld14 : v12.heap[D + 1]? = some (.cells #[.int .i64 c, .int .i64 d] 23) := cY_v12
    have y14_0 := cell2_0 ld14
    have y14_1 := cell2_1 ld14
    clear ld14
    have P8 : Pg v12 := P.below (by first | exact hw_v12 | (rw [hD]; exact hw_v12))
    go_wp2_with fail
    refine (S2.out _ P8.gi).mono ?_
    rintro e v15 ⟨rfl, hb_v15⟩
    have hs_v15 := hw_v12.size
    have cX_v15 : v15.heap[D]? = some (.cells #[.int .i64 (a : Int), .int .i64 (b : Int)] 23) := (hb_v15.block (D) (Array.getElem?_eq_some_iff.1 (show v12.heap[D]? = some (.cells #[.int .i64 (a : Int), .int .i64 (b : Int)] 23) from cX_v12)).1).trans cX_v12
    have cY_v15 : v15.heap[D + 1]? = some (.cells #[.int .i64 c, .int .i64 d] 23) := (hb_v15.block (D + 1) (Array.getElem?_eq_some_iff.1 (show v12.heap[D + 1]? = some (.cells #[.int .i64 c, .int .i64 d] 23) from cY_v12)).1).trans cY_v12
    have cH_v15 : v15.heap[EH]? = some (.cells #[.int .i64 (x : Int), .int .i64 (y : Int)] 23) := (hb_v15.block (EH) (Array.getElem?_eq_some_iff.1 (show v12.heap[EH]? = some (.cells #[.int .i64 (x : Int), .int .i64 (y : Int)] 23) from cH_v12)).1).trans cH_v12
    have hw_v15 : Below D w v15 := (hw_v12).trans (hb_v15.mono (by first | omega | (simp; omega)))
    clear cX_v12 cY_v12 cH_v12 hb_v15 y13_0 y13_1 y14_0 y14_1 hw_v12 hs_v15
    have ld16 : v15.heap[D]? = some (.cells #[.int .i64 (a : Int), .int .i64 (b : Int)] 23) := cX_v15
    have y16_0 := cell2_0 ld16
    have y16_1 := cell2_1 ld16
    clear ld16
    have ld17 : v15.heap[D + 1]? = some (.cells #[.int .i64 c, .int .i64 d] 23) := cY_v15
    have y17_0 := cell2_0 ld17
    have y17_1 := cell2_1 ld17
    clear ld17
    go_wp2_with fail
    refine (CM.out _).mono ?_
    rintro e v18 ⟨rfl, hb_v18⟩
    have hs_v18 := hw_v15.size
    have cX_v18 : v18.heap[D]? = some (.cells #[.int .i64 (a : Int), .int .i64 (b : Int)] 23) := (hb_v18.block (D) (Array.getElem?_eq_some_iff.1 (show v15.heap[D]? = some (.cells #[.int .i64 (a : Int), .int .i64 (b : Int)] 23) from cX_v15)).1).trans cX_v15
    have cY_v18 : v18.heap[D + 1]? = some (.cells #[.int .i64 c, .int .i64 d] 23) := (hb_v18.block (D + 1) (Array.getElem?_eq_some_iff.1 (show v15.heap[D + 1]? = some (.cells #[.int .i64 c, .int .i64 d] 23) from cY_v15)).1).trans cY_v15
    have cH_v18 : v18.heap[EH]? = some (.cells #[.int .i64 (x : Int), .int .i64 (y : Int)] 23) := (hb_v18.block (EH) (Array.getElem?_eq_some_iff.1 (show v15.heap[EH]? = some (.cells #[.int .i64 (x : Int), .int .i64 (y : Int)] 23) from cH_v15)).1).trans cH_v15
    have hw_v18 : Below D w v18 := (hw_v15).trans (hb_v18.mono (by first | omega | (simp; omega)))
    clear cX_v15 cY_v15 cH_v15 hb_v18 y16_0 y16_1 y17_0 y17_1 hw_v15 hs_v18
    obtain ⟨V1, hV1⟩ : ∃ V, v18 = V := ⟨_, rfl⟩
    have hw_V1 : Below D w V1 := by rw [← hV1]; exact hw_v18
    have HX_V1 := Lib.hid (show V1.heap[D]? = some (.cells #[.int .i64 (a : Int), .int .i64 (b : Int)] 23) by rw [← hV1]; exact cX_v18)
    have HY_V1 := Lib.hid (show V1.heap[D + 1]? = some (.cells #[.int .i64 c, .int .i64 d] 23) by rw [← hV1]; exact cY_v18)
    have HH_V1 := Lib.hid (show V1.heap[EH]? = some (.cells #[.int .i64 (x : Int), .int .i64 (y : Int)] 23) by rw [← hV1]; exact cH_v18)
    have PV_V1 : Pg V1 := P.below (by first | exact hw_V1 | (rw [hD]; exact hw_V1))
    have GG_V1 := Lib.hid (fun (W : World) (h : Below V1.heap.size V1 W) => PV_V1.below h)
    clear cX_v18 cY_v18 cH_v18 hw_v18
    go_upto_region 8 with fail
    try rw [hV1]
    refine wp_region_slots_at rfl rfl (fun base ys => (((((((base.set 68 (ys 0)).set 69 (ys 1)).set 70 (ys 2)).set 67 (ys 3)).set 71 (ys 4)).set 72 (ys 5)).set 14 (ys 6)).set 15 (ys 7)) (BelowI _ (fun A => Below V1.heap.size V1 A) (tn8a a b u)) (fun _ => undef) (by kernel_rfl) (below_start (R := fun A => Below V1.heap.size V1 A) ⟨rfl, rfl, rfl, Nat.le_refl _, fun _ _ => rfl⟩) ?h
    case h =>
      intro FF hFF
      simp only [List.set_cons_succ, List.set_cons_zero] at hFF
      subst hFF
      refine ⟨rfl, ?_, ?_⟩
      refine ⟨?_, ?_⟩
      · refine SlotStep.below (fun A B hb h => h.trans (hb.mono h.size)) (tn8a_up a b u) ?_
        intro ys W hR hd K hK
        have hl := (hR.block (D) (Array.getElem?_eq_some_iff.1 HX_V1.out).1).trans HX_V1.out
        have c0 := cell2_0 hl
        have c1 := cell2_1 hl
        go_simp
        have hK2 := hK (.agg #[.int .i64 (a : Int), .int .i64 (b : Int)]) _ (Below.refl _ _) rfl
        simp (config := { decide := true }) only [upd, if_true, if_false] at hK2
        exact hK2
      refine ⟨?_, ?_⟩
      · refine SlotStep.below (fun A B hb h => h.trans (hb.mono h.size)) (tn8a_up a b u) ?_
        intro ys W hR hd K hK
        go_simp
        refine (F81.out _).mono ?_
        rintro e w5 ⟨rfl, hb5⟩
        have hK2 := hK (.agg #[.int .i64 8, .int .i64 1]) _ hb5 rfl
        simp (config := { decide := true }) only [upd, if_true, if_false] at hK2
        exact hK2
      refine ⟨?_, ?_⟩
      · refine SlotStep.below (fun A B hb h => h.trans (hb.mono h.size)) (tn8a_up a b u) ?_
        intro ys W hR hd K hK
        have dd0 : ys 0 = (.agg #[.int .i64 (a : Int), .int .i64 (b : Int)]) := hd 0 (by kernel_rfl) (by decide)
        have dd1 : ys 1 = (.agg #[.int .i64 8, .int .i64 1]) := hd 1 (by kernel_rfl) (by decide)
        go_simp
        refine (SU.out _ (GG_V1.out W hR).gi).mono ?_
        rintro e w5 ⟨rfl, hb5⟩
        have hK2 := hK (.tuple #[.int .i64 u, .int .i64 0]) _ hb5 rfl
        simp (config := { decide := true }) only [upd, if_true, if_false, dd0, dd1] at hK2
        exact hK2
      refine ⟨?_, ?_⟩
      · refine SlotStep.below (fun A B hb h => h.trans (hb.mono h.size)) (tn8a_up a b u) ?_
        intro ys W hR hd K hK
        have dd2 : ys 2 = (.tuple #[.int .i64 u, .int .i64 0]) := hd 2 (by kernel_rfl) (by decide)
        go_simp
        have hK2 := hK (.tuple #[.int .i64 u, .int .i64 0]) _ (Below.refl _ _) rfl
        simp (config := { decide := true }) only [upd, if_true, if_false, dd2] at hK2
        exact hK2
      refine ⟨?_, ?_⟩
      · refine SlotStep.below (fun A B hb h => h.trans (hb.mono h.size)) (tn8a_up a b u) ?_
        intro ys W hR hd K hK
        have dd3 : ys 3 = (.tuple #[.int .i64 u, .int .i64 0]) := hd 3 (by kernel_rfl) (by decide)
        go_simp
        have hK2 := hK (.int .i64 u) _ (Below.refl _ _) rfl
        simp (config := { decide := true }) only [upd, if_true, if_false, dd3] at hK2
        exact hK2
      refine ⟨?_, ?_⟩
      · refine SlotStep.below (fun A B hb h => h.trans (hb.mono h.size)) (tn8a_up a b u) ?_
        intro ys W hR hd K hK
        have dd3 : ys 3 = (.tuple #[.int .i64 u, .int .i64 0]) := hd 3 (by kernel_rfl) (by decide)
        go_simp
        have hK2 := hK (.int .i64 0) _ (Below.refl _ _) rfl
        simp (config := { decide := true }) only [upd, if_true, if_false, dd3] at hK2
        exact hK2
      refine ⟨?_, ?_⟩
      · refine SlotStep.below (fun A B hb h => h.trans (hb.mono h.size)) (tn8a_up a b u) ?_
        intro ys W hR hd K hK
        have dd4 : ys 4 = (.int .i64 u) := hd 4 (by kernel_rfl) (by decide)
        go_simp
        have hK2 := hK (.int .i64 u) _ (Below.refl _ _) rfl
        simp (config := { decide := true }) only [upd, if_true, if_false, dd4] at hK2
        exact hK2
      refine ⟨?_, ?_⟩
      · refine SlotStep.below (fun A B hb h => h.trans (hb.mono h.size)) (tn8a_up a b u) ?_
        intro ys W hR hd K hK
        have dd5 : ys 5 = (.int .i64 0) := hd 5 (by kernel_rfl) (by decide)
        go_simp
        have hK2 := hK (.int .i64 0) _ (Below.refl _ _) rfl
        simp (config := { decide := true }) only [upd, if_true, if_false, dd5] at hK2
        exact hK2
      trivial
      · intro L5 ys5 U1 hL5 hI5
        obtain ⟨hR5, hj5⟩ := hI5
        have d6_U1 : ys5 6 = (.int .i64 u) := hj5 6 (by decide) (hL5 6 (by decide))
        have d7_U1 : ys5 7 = (.int .i64 0) := hj5 7 (by decide) (hL5 7 (by decide))
        simp only [d6_U1, d7_U1]
        have cX_U1 : U1.heap[D]? = some (.cells #[.int .i64 (a : Int), .int .i64 (b : Int)] 23) := (hR5.block (D) (Array.getElem?_eq_some_iff.1 HX_V1.out).1).trans HX_V1.out
        have cY_U1 : U1.heap[D + 1]? = some (.cells #[.int .i64 c, .int .i64 d] 23) := (hR5.block (D + 1) (Array.getElem?_eq_some_iff.1 HY_V1.out).1).trans HY_V1.out
        have cH_U1 : U1.heap[EH]? = some (.cells #[.int .i64 (x : Int), .int .i64 (y : Int)] 23) := (hR5.block (EH) (Array.getElem?_eq_some_iff.1 HH_V1.out).1).trans HH_V1.out
        have hw_U1 : Below D w U1 := hw_V1.trans (hR5.mono (by have := hw_V1.size; first | omega | (simp; omega)))
        clear hj5 hL5 hR5 hw_V1 d6_U1 d7_U1 hV1 GG_V1 PV_V1 HX_V1 HY_V1 HH_V1
        obtain ⟨V2, hV2⟩ : ∃ V, U1 = V := ⟨_, rfl⟩
        have hw_V2 : Below D w V2 := by rw [← hV2]; exact hw_U1
        have HX_V2 := Lib.hid (show V2.heap[D]? = some (.cells #[.int .i64 (a : Int), .int .i64 (b : Int)] 23) by rw [← hV2]; exact cX_U1)
        have HY_V2 := Lib.hid (show V2.heap[D + 1]? = some (.cells #[.int .i64 c, .int .i64 d] 23) by rw [← hV2]; exact cY_U1)
        have HH_V2 := Lib.hid (show V2.heap[EH]? = some (.cells #[.int .i64 (x : Int), .int .i64 (y : Int)] 23) by rw [← hV2]; exact cH_U1)
        have PV_V2 : Pg V2 := P.below (by first | exact hw_V2 | (rw [hD]; exact hw_V2))
        have GG_V2 := Lib.hid (fun (W : World) (h : Below V2.heap.size V2 W) => PV_V2.below h)
        clear cX_U1 cY_U1 cH_U1 hw_U1
        go_upto_region 9 with fail
        try rw [hV2]
        refine wp_region_slots_at rfl rfl (fun base ys => (((((((base.set 74 (ys 0)).set 75 (ys 1)).set 76 (ys 2)).set 73 (ys 3)).set 77 (ys 4)).set 78 (ys 5)).set 16 (ys 6)).set 17 (ys 7)) (BelowI _ (fun A => Below V2.heap.size V2 A) (tn9a c d r)) (fun _ => undef) (by kernel_rfl) (below_start (R := fun A => Below V2.heap.size V2 A) ⟨rfl, rfl, rfl, Nat.le_refl _, fun _ _ => rfl⟩) ?h
        case h =>
          intro FF hFF
          simp only [List.set_cons_succ, List.set_cons_zero] at hFF
          subst hFF
          refine ⟨rfl, ?_, ?_⟩
          refine ⟨?_, ?_⟩
          · refine SlotStep.below (fun A B hb h => h.trans (hb.mono h.size)) (tn9a_up c d r) ?_
            intro ys W hR hd K hK
            have hl := (hR.block (D + 1) (Array.getElem?_eq_some_iff.1 HY_V2.out).1).trans HY_V2.out
            have c0 := cell2_0 hl
            have c1 := cell2_1 hl
            go_simp
            have hK2 := hK (.agg #[.int .i64 c, .int .i64 d]) _ (Below.refl _ _) rfl
            simp (config := { decide := true }) only [upd, if_true, if_false] at hK2
            exact hK2
          refine ⟨?_, ?_⟩
          · refine SlotStep.below (fun A B hb h => h.trans (hb.mono h.size)) (tn9a_up c d r) ?_
            intro ys W hR hd K hK
            go_simp
            refine (F81.out _).mono ?_
            rintro e w5 ⟨rfl, hb5⟩
            have hK2 := hK (.agg #[.int .i64 8, .int .i64 1]) _ hb5 rfl
            simp (config := { decide := true }) only [upd, if_true, if_false] at hK2
            exact hK2
          refine ⟨?_, ?_⟩
          · refine SlotStep.below (fun A B hb h => h.trans (hb.mono h.size)) (tn9a_up c d r) ?_
            intro ys W hR hd K hK
            have dd0 : ys 0 = (.agg #[.int .i64 c, .int .i64 d]) := hd 0 (by kernel_rfl) (by decide)
            have dd1 : ys 1 = (.agg #[.int .i64 8, .int .i64 1]) := hd 1 (by kernel_rfl) (by decide)
            go_simp
            refine (SV.out _ (GG_V2.out W hR).gi).mono ?_
            rintro e w5 ⟨rfl, hb5⟩
            have hK2 := hK (.tuple #[.int .i64 r, .int .i64 0]) _ hb5 rfl
            simp (config := { decide := true }) only [upd, if_true, if_false, dd0, dd1] at hK2
            exact hK2
          refine ⟨?_, ?_⟩
          · refine SlotStep.below (fun A B hb h => h.trans (hb.mono h.size)) (tn9a_up c d r) ?_
            intro ys W hR hd K hK
            have dd2 : ys 2 = (.tuple #[.int .i64 r, .int .i64 0]) := hd 2 (by kernel_rfl) (by decide)
            go_simp
            have hK2 := hK (.tuple #[.int .i64 r, .int .i64 0]) _ (Below.refl _ _) rfl
            simp (config := { decide := true }) only [upd, if_true, if_false, dd2] at hK2
            exact hK2
          refine ⟨?_, ?_⟩
          · refine SlotStep.below (fun A B hb h => h.trans (hb.mono h.size)) (tn9a_up c d r) ?_
            intro ys W hR hd K hK
            have dd3 : ys 3 = (.tuple #[.int .i64 r, .int .i64 0]) := hd 3 (by kernel_rfl) (by decide)
            go_simp
            have hK2 := hK (.int .i64 r) _ (Below.refl _ _) rfl
            simp (config := { decide := true }) only [upd, if_true, if_false, dd3] at hK2
            exact hK2
          refine ⟨?_, ?_⟩
          · refine SlotStep.below (fun A B hb h => h.trans (hb.mono h.size)) (tn9a_up c d r) ?_
            intro ys W hR hd K hK
            have dd3 : ys 3 = (.tuple #[.int .i64 r, .int .i64 0]) := hd 3 (by kernel_rfl) (by decide)
            go_simp
            have hK2 := hK (.int .i64 0) _ (Below.refl _ _) rfl
            simp (config := { decide := true }) only [upd, if_true, if_false, dd3] at hK2
            exact hK2
          refine ⟨?_, ?_⟩
          · refine SlotStep.below (fun A B hb h => h.trans (hb.mono h.size)) (tn9a_up c d r) ?_
            intro ys W hR hd K hK
            have dd4 : ys 4 = (.int .i64 r) := hd 4 (by kernel_rfl) (by decide)
            go_simp
            have hK2 := hK (.int .i64 r) _ (Below.refl _ _) rfl
            simp (config := { decide := true }) only [upd, if_true, if_false, dd4] at hK2
            exact hK2
          refine ⟨?_, ?_⟩
          · refine SlotStep.below (fun A B hb h => h.trans (hb.mono h.size)) (tn9a_up c d r) ?_
            intro ys W hR hd K hK
            have dd5 : ys 5 = (.int .i64 0) := hd 5 (by kernel_rfl) (by decide)
            go_simp
            have hK2 := hK (.int .i64 0) _ (Below.refl _ _) rfl
            simp (config := { decide := true }) only [upd, if_true, if_false, dd5] at hK2
            exact hK2
          trivial
          · intro L5 ys5 U2 hL5 hI5
            obtain ⟨hR5, hj5⟩ := hI5
            have d6_U2 : ys5 6 = (.int .i64 r) := hj5 6 (by decide) (hL5 6 (by decide))
            have d7_U2 : ys5 7 = (.int .i64 0) := hj5 7 (by decide) (hL5 7 (by decide))
            simp only [d6_U2, d7_U2]
            have cX_U2 : U2.heap[D]? = some (.cells #[.int .i64 (a : Int), .int .i64 (b : Int)] 23) := (hR5.block (D) (Array.getElem?_eq_some_iff.1 HX_V2.out).1).trans HX_V2.out
            have cY_U2 : U2.heap[D + 1]? = some (.cells #[.int .i64 c, .int .i64 d] 23) := (hR5.block (D + 1) (Array.getElem?_eq_some_iff.1 HY_V2.out).1).trans HY_V2.out
            have cH_U2 : U2.heap[EH]? = some (.cells #[.int .i64 (x : Int), .int .i64 (y : Int)] 23) := (hR5.block (EH) (Array.getElem?_eq_some_iff.1 HH_V2.out).1).trans HH_V2.out
            have hw_U2 : Below D w U2 := hw_V2.trans (hR5.mono (by have := hw_V2.size; first | omega | (simp; omega)))
            clear hj5 hL5 hR5 hw_V2 d6_U2 d7_U2 hV2 GG_V2 PV_V2 HX_V2 HY_V2 HH_V2
            have ld19 : U2.heap[EH]? = some (.cells #[.int .i64 (x : Int), .int .i64 (y : Int)] 23) := cH_U2
            have y19_0 := cell2_0 ld19
            have y19_1 := cell2_1 ld19
            clear ld19
            go_wp2_with fail
            refine (CH3.out _).mono ?_
            rintro e v20 ⟨rfl, hb_v20⟩
            have hs_v20 := hw_U2.size
            have cX_v20 : v20.heap[D]? = some (.cells #[.int .i64 (a : Int), .int .i64 (b : Int)] 23) := (hb_v20.block (D) (Array.getElem?_eq_some_iff.1 (show U2.heap[D]? = some (.cells #[.int .i64 (a : Int), .int .i64 (b : Int)] 23) from cX_U2)).1).trans cX_U2
            have cY_v20 : v20.heap[D + 1]? = some (.cells #[.int .i64 c, .int .i64 d] 23) := (hb_v20.block (D + 1) (Array.getElem?_eq_some_iff.1 (show U2.heap[D + 1]? = some (.cells #[.int .i64 c, .int .i64 d] 23) from cY_U2)).1).trans cY_U2
            have cH_v20 : v20.heap[EH]? = some (.cells #[.int .i64 (x : Int), .int .i64 (y : Int)] 23) := (hb_v20.block (EH) (Array.getElem?_eq_some_iff.1 (show U2.heap[EH]? = some (.cells #[.int .i64 (x : Int), .int .i64 (y : Int)] 23) from cH_U2)).1).trans cH_U2
            have hw_v20 : Below D w v20 := (hw_U2).trans (hb_v20.mono (by first | omega | (simp; omega)))
            clear cX_U2 cY_U2 cH_U2 hb_v20 y19_0 y19_1 hw_U2 hs_v20
            by_cases hz0 : z = 0
            · subst hz0
              have SZ0 := Lib.hid (SZ.out rfl)
              have CX0 := Lib.hid (CX.out rfl)
              have ld21 : v20.heap[EH]? = some (.cells #[.int .i64 (x : Int), .int .i64 (y : Int)] 23) := cH_v20
              have y21_0 := cell2_0 ld21
              have y21_1 := cell2_1 ld21
              clear ld21
              have ld22 : v20.heap[D + 1]? = some (.cells #[.int .i64 c, .int .i64 d] 23) := cY_v20
              have y22_0 := cell2_0 ld22
              have y22_1 := cell2_1 ld22
              clear ld22
              have P9 : Pg v20 := P.below (by first | exact hw_v20 | (rw [hD]; exact hw_v20))
              go_wp2_with fail
              refine (SZ0.out _ P9.gi).mono ?_
              rintro e v23 ⟨rfl, hb_v23⟩
              have hs_v23 := hw_v20.size
              have cX_v23 : v23.heap[D]? = some (.cells #[.int .i64 (a : Int), .int .i64 (b : Int)] 23) := (hb_v23.block (D) (Array.getElem?_eq_some_iff.1 (show v20.heap[D]? = some (.cells #[.int .i64 (a : Int), .int .i64 (b : Int)] 23) from cX_v20)).1).trans cX_v20
              have cY_v23 : v23.heap[D + 1]? = some (.cells #[.int .i64 c, .int .i64 d] 23) := (hb_v23.block (D + 1) (Array.getElem?_eq_some_iff.1 (show v20.heap[D + 1]? = some (.cells #[.int .i64 c, .int .i64 d] 23) from cY_v20)).1).trans cY_v20
              have cH_v23 : v23.heap[EH]? = some (.cells #[.int .i64 (x : Int), .int .i64 (y : Int)] 23) := (hb_v23.block (EH) (Array.getElem?_eq_some_iff.1 (show v20.heap[EH]? = some (.cells #[.int .i64 (x : Int), .int .i64 (y : Int)] 23) from cH_v20)).1).trans cH_v20
              have hw_v23 : Below D w v23 := (hw_v20).trans (hb_v23.mono (by first | omega | (simp; omega)))
              clear cX_v20 cY_v20 cH_v20 hb_v23 y21_0 y21_1 y22_0 y22_1 hw_v20 hs_v23
              have ld24 : v23.heap[D]? = some (.cells #[.int .i64 (a : Int), .int .i64 (b : Int)] 23) := cX_v23
              have y24_0 := cell2_0 ld24
              have y24_1 := cell2_1 ld24
              clear ld24
              have P10 : Pg v23 := P.below (by first | exact hw_v23 | (rw [hD]; exact hw_v23))
              go_wp2_with fail
              refine (CL.out _ P10).mono ?_
              rintro e v25 ⟨rfl, hb_v25⟩
              have hs_v25 := hw_v23.size
              have cX_v25 : v25.heap[D]? = some (.cells #[.int .i64 (a : Int), .int .i64 (b : Int)] 23) := (hb_v25.block (D) (Array.getElem?_eq_some_iff.1 (show v23.heap[D]? = some (.cells #[.int .i64 (a : Int), .int .i64 (b : Int)] 23) from cX_v23)).1).trans cX_v23
              have cY_v25 : v25.heap[D + 1]? = some (.cells #[.int .i64 c, .int .i64 d] 23) := (hb_v25.block (D + 1) (Array.getElem?_eq_some_iff.1 (show v23.heap[D + 1]? = some (.cells #[.int .i64 c, .int .i64 d] 23) from cY_v23)).1).trans cY_v23
              have cH_v25 : v25.heap[EH]? = some (.cells #[.int .i64 (x : Int), .int .i64 (y : Int)] 23) := (hb_v25.block (EH) (Array.getElem?_eq_some_iff.1 (show v23.heap[EH]? = some (.cells #[.int .i64 (x : Int), .int .i64 (y : Int)] 23) from cH_v23)).1).trans cH_v23
              have hw_v25 : Below D w v25 := (hw_v23).trans (hb_v25.mono (by first | omega | (simp; omega)))
              clear cX_v23 cY_v23 cH_v23 hb_v25 y24_0 y24_1 hw_v23 hs_v25
              have ld26 : v25.heap[EH]? = some (.cells #[.int .i64 (x : Int), .int .i64 (y : Int)] 23) := cH_v25
              have y26_0 := cell2_0 ld26
              have y26_1 := cell2_1 ld26
              clear ld26
              have P11 : Pg v25 := P.below (by first | exact hw_v25 | (rw [hD]; exact hw_v25))
              go_wp2_with fail
              refine (CX0.out _ P11).mono ?_
              rintro e v27 ⟨rfl, hb_v27⟩
              have hs_v27 := hw_v25.size
              have cX_v27 : v27.heap[D]? = some (.cells #[.int .i64 (a : Int), .int .i64 (b : Int)] 23) := (hb_v27.block (D) (Array.getElem?_eq_some_iff.1 (show v25.heap[D]? = some (.cells #[.int .i64 (a : Int), .int .i64 (b : Int)] 23) from cX_v25)).1).trans cX_v25
              have cY_v27 : v27.heap[D + 1]? = some (.cells #[.int .i64 c, .int .i64 d] 23) := (hb_v27.block (D + 1) (Array.getElem?_eq_some_iff.1 (show v25.heap[D + 1]? = some (.cells #[.int .i64 c, .int .i64 d] 23) from cY_v25)).1).trans cY_v25
              have cH_v27 : v27.heap[EH]? = some (.cells #[.int .i64 (x : Int), .int .i64 (y : Int)] 23) := (hb_v27.block (EH) (Array.getElem?_eq_some_iff.1 (show v25.heap[EH]? = some (.cells #[.int .i64 (x : Int), .int .i64 (y : Int)] 23) from cH_v25)).1).trans cH_v25
              have hw_v27 : Below D w v27 := (hw_v25).trans (hb_v27.mono (by first | omega | (simp; omega)))
              clear cX_v25 cY_v25 cH_v25 hb_v27 y26_0 y26_1 hw_v25 hs_v27
              have HW := Lib.hid (hw_v27)
              go_wp2
              go_ret
              exact ⟨rfl, by first | exact HW.out | (rw [hD]; exact HW.out)⟩
            · skip
              have HW := Lib.hid (hw_v20)
              go_wp2
              go_ret
              exact ⟨rfl, by first | exact HW.out | (rw [hD]; exact HW.out)⟩
  · skip
    go_enter Tryz.func8, Tryz.ntmps8
    have P12 : Pg ((w.alloc (.cells #[.int .i64 (a : Int), .int .i64 (b : Int)] 23)).alloc (.cells #[.int .i64 c, .int .i64 d] 23)) := P.below (by first | exact (((Below.refl _ w).alloc (by first | omega | (simp; omega)) (.cells #[.int .i64 (a : Int), .int .i64 (b : Int)] 23)).alloc (by first | omega | (simp; omega)) (.cells #[.int .i64 c, .int .i64 d] 23)) | (rw [hD]; exact (((Below.refl _ w).alloc (by first | omega | (simp; omega)) (.cells #[.int .i64 (a : Int), .int .i64 (b : Int)] 23)).alloc (by first | omega | (simp; omega)) (.cells #[.int .i64 c, .int .i64 d] 23))))
    go_wp2_with fail
    refine (KN.out _ P12).mono ?_
    rintro e v1 ⟨rfl, hb_v1⟩
    have cX_v1 : v1.heap[D]? = some (.cells #[.int .i64 (a : Int), .int .i64 (b : Int)] 23) := (hb_v1.block (D) (Array.getElem?_eq_some_iff.1 (show ((w.alloc (.cells #[.int .i64 (a : Int), .int .i64 (b : Int)] 23)).alloc (.cells #[.int .i64 c, .int .i64 d] 23)).heap[D]? = some (.cells #[.int .i64 (a : Int), .int .i64 (b : Int)] 23) from (heap_old (o := .cells #[.int .i64 c, .int .i64 d] 23) (heap_new (by first | omega | (simp; omega)))))).1).trans (heap_old (o := .cells #[.int .i64 c, .int .i64 d] 23) (heap_new (by first | omega | (simp; omega))))
    have cY_v1 : v1.heap[D + 1]? = some (.cells #[.int .i64 c, .int .i64 d] 23) := (hb_v1.block (D + 1) (Array.getElem?_eq_some_iff.1 (show ((w.alloc (.cells #[.int .i64 (a : Int), .int .i64 (b : Int)] 23)).alloc (.cells #[.int .i64 c, .int .i64 d] 23)).heap[D + 1]? = some (.cells #[.int .i64 c, .int .i64 d] 23) from (heap_new (by first | omega | (simp; omega))))).1).trans (heap_new (by first | omega | (simp; omega)))
    have hw_v1 : Below D w v1 := ((((Below.refl _ w).alloc (by first | omega | (simp; omega)) (.cells #[.int .i64 (a : Int), .int .i64 (b : Int)] 23)).alloc (by first | omega | (simp; omega)) (.cells #[.int .i64 c, .int .i64 d] 23))).trans (hb_v1.mono (by first | omega | (simp; omega)))
    clear hb_v1
    have ld2 : v1.heap[D]? = some (.cells #[.int .i64 (a : Int), .int .i64 (b : Int)] 23) := cX_v1
    have y2_0 := cell2_0 ld2
    have y2_1 := cell2_1 ld2
    clear ld2
    go_wp2_with fail
    refine (CH.out _).mono ?_
    rintro e v3 ⟨rfl, hb_v3⟩
    have hs_v3 := hw_v1.size
    have cX_v3 : v3.heap[D]? = some (.cells #[.int .i64 (a : Int), .int .i64 (b : Int)] 23) := (hb_v3.block (D) (Array.getElem?_eq_some_iff.1 (show v1.heap[D]? = some (.cells #[.int .i64 (a : Int), .int .i64 (b : Int)] 23) from cX_v1)).1).trans cX_v1
    have cY_v3 : v3.heap[D + 1]? = some (.cells #[.int .i64 c, .int .i64 d] 23) := (hb_v3.block (D + 1) (Array.getElem?_eq_some_iff.1 (show v1.heap[D + 1]? = some (.cells #[.int .i64 c, .int .i64 d] 23) from cY_v1)).1).trans cY_v1
    have hw_v3 : Below D w v3 := (hw_v1).trans (hb_v3.mono (by first | omega | (simp; omega)))
    clear cX_v1 cY_v1 hb_v3 y2_0 y2_1 hw_v1 hs_v3
    have ld4 : v3.heap[D + 1]? = some (.cells #[.int .i64 c, .int .i64 d] 23) := cY_v3
    have y4_0 := cell2_0 ld4
    have y4_1 := cell2_1 ld4
    clear ld4
    go_wp2_with fail
    refine (CH2.out _).mono ?_
    rintro e v5 ⟨rfl, hb_v5⟩
    have hs_v5 := hw_v3.size
    have cX_v5 : v5.heap[D]? = some (.cells #[.int .i64 (a : Int), .int .i64 (b : Int)] 23) := (hb_v5.block (D) (Array.getElem?_eq_some_iff.1 (show v3.heap[D]? = some (.cells #[.int .i64 (a : Int), .int .i64 (b : Int)] 23) from cX_v3)).1).trans cX_v3
    have cY_v5 : v5.heap[D + 1]? = some (.cells #[.int .i64 c, .int .i64 d] 23) := (hb_v5.block (D + 1) (Array.getElem?_eq_some_iff.1 (show v3.heap[D + 1]? = some (.cells #[.int .i64 c, .int .i64 d] 23) from cY_v3)).1).trans cY_v3
    have hw_v5 : Below D w v5 := (hw_v3).trans (hb_v5.mono (by first | omega | (simp; omega)))
    clear cX_v3 cY_v3 hb_v5 y4_0 y4_1 hw_v3 hs_v5
    have ld6 : v5.heap[D]? = some (.cells #[.int .i64 (a : Int), .int .i64 (b : Int)] 23) := cX_v5
    have y6_0 := cell2_0 ld6
    have y6_1 := cell2_1 ld6
    clear ld6
    go_wp2_with fail
    refine (FF.out _).mono ?_
    rintro e v7 ⟨rfl, hb_v7⟩
    have hs_v7 := hw_v5.size
    have cX_v7 : v7.heap[D]? = some (.cells #[.int .i64 (a : Int), .int .i64 (b : Int)] 23) := (hb_v7.block (D) (Array.getElem?_eq_some_iff.1 (show v5.heap[D]? = some (.cells #[.int .i64 (a : Int), .int .i64 (b : Int)] 23) from cX_v5)).1).trans cX_v5
    have cY_v7 : v7.heap[D + 1]? = some (.cells #[.int .i64 c, .int .i64 d] 23) := (hb_v7.block (D + 1) (Array.getElem?_eq_some_iff.1 (show v5.heap[D + 1]? = some (.cells #[.int .i64 c, .int .i64 d] 23) from cY_v5)).1).trans cY_v5
    have hw_v7 : Below D w v7 := (hw_v5).trans (hb_v7.mono (by first | omega | (simp; omega)))
    clear cX_v5 cY_v5 hb_v7 y6_0 y6_1 hw_v5 hs_v7
    obtain ⟨EH, hEH⟩ : ∃ E, v7.heap.size = E := ⟨_, rfl⟩
    have ld8 : (v7.alloc (.cells #[.int .i64 (x : Int), .int .i64 (y : Int)] 23)).heap[D]? = some (.cells #[.int .i64 (a : Int), .int .i64 (b : Int)] 23) := (heap_old (o := .cells #[.int .i64 (x : Int), .int .i64 (y : Int)] 23) cX_v7)
    have y8_0 := cell2_0 ld8
    have y8_1 := cell2_1 ld8
    clear ld8
    have P13 : Pg (v7.alloc (.cells #[.int .i64 (x : Int), .int .i64 (y : Int)] 23)) := P.below (by first | exact (hw_v7.alloc (by have := hw_v7.size; first | omega | (simp; omega)) (.cells #[.int .i64 (x : Int), .int .i64 (y : Int)] 23)) | (rw [hD]; exact (hw_v7.alloc (by have := hw_v7.size; first | omega | (simp; omega)) (.cells #[.int .i64 (x : Int), .int .i64 (y : Int)] 23))))
    go_wp2_with fail
    refine (S0.out _ P13.gi).mono ?_
    rintro e v9 ⟨rfl, hb_v9⟩
    have hs_v9 := hw_v7.size
    have cX_v9 : v9.heap[D]? = some (.cells #[.int .i64 (a : Int), .int .i64 (b : Int)] 23) := (hb_v9.block (D) (Array.getElem?_eq_some_iff.1 (show (v7.alloc (.cells #[.int .i64 (x : Int), .int .i64 (y : Int)] 23)).heap[D]? = some (.cells #[.int .i64 (a : Int), .int .i64 (b : Int)] 23) from (heap_old (o := .cells #[.int .i64 (x : Int), .int .i64 (y : Int)] 23) cX_v7))).1).trans (heap_old (o := .cells #[.int .i64 (x : Int), .int .i64 (y : Int)] 23) cX_v7)
    have cY_v9 : v9.heap[D + 1]? = some (.cells #[.int .i64 c, .int .i64 d] 23) := (hb_v9.block (D + 1) (Array.getElem?_eq_some_iff.1 (show (v7.alloc (.cells #[.int .i64 (x : Int), .int .i64 (y : Int)] 23)).heap[D + 1]? = some (.cells #[.int .i64 c, .int .i64 d] 23) from (heap_old (o := .cells #[.int .i64 (x : Int), .int .i64 (y : Int)] 23) cY_v7))).1).trans (heap_old (o := .cells #[.int .i64 (x : Int), .int .i64 (y : Int)] 23) cY_v7)
    have cH_v9 : v9.heap[EH]? = some (.cells #[.int .i64 (x : Int), .int .i64 (y : Int)] 23) := (hb_v9.block (EH) (Array.getElem?_eq_some_iff.1 (show (v7.alloc (.cells #[.int .i64 (x : Int), .int .i64 (y : Int)] 23)).heap[EH]? = some (.cells #[.int .i64 (x : Int), .int .i64 (y : Int)] 23) from (heap_new (by first | omega | (simp; omega))))).1).trans (heap_new (by first | omega | (simp; omega)))
    have hw_v9 : Below D w v9 := ((hw_v7.alloc (by have := hw_v7.size; first | omega | (simp; omega)) (.cells #[.int .i64 (x : Int), .int .i64 (y : Int)] 23))).trans (hb_v9.mono (by first | omega | (simp; omega)))
    clear cX_v7 cY_v7 hb_v9 y8_0 y8_1 hw_v7 hs_v9
    have ld10 : v9.heap[D]? = some (.cells #[.int .i64 (a : Int), .int .i64 (b : Int)] 23) := cX_v9
    have y10_0 := cell2_0 ld10
    have y10_1 := cell2_1 ld10
    clear ld10
    have ld11 : v9.heap[D + 1]? = some (.cells #[.int .i64 c, .int .i64 d] 23) := cY_v9
    have y11_0 := cell2_0 ld11
    have y11_1 := cell2_1 ld11
    clear ld11
    have P14 : Pg v9 := P.below (by first | exact hw_v9 | (rw [hD]; exact hw_v9))
    go_wp2_with fail
    refine (S1.out _ P14.gi).mono ?_
    rintro e v12 ⟨rfl, hb_v12⟩
    have hs_v12 := hw_v9.size
    have cX_v12 : v12.heap[D]? = some (.cells #[.int .i64 (a : Int), .int .i64 (b : Int)] 23) := (hb_v12.block (D) (Array.getElem?_eq_some_iff.1 (show v9.heap[D]? = some (.cells #[.int .i64 (a : Int), .int .i64 (b : Int)] 23) from cX_v9)).1).trans cX_v9
    have cY_v12 : v12.heap[D + 1]? = some (.cells #[.int .i64 c, .int .i64 d] 23) := (hb_v12.block (D + 1) (Array.getElem?_eq_some_iff.1 (show v9.heap[D + 1]? = some (.cells #[.int .i64 c, .int .i64 d] 23) from cY_v9)).1).trans cY_v9
    have cH_v12 : v12.heap[EH]? = some (.cells #[.int .i64 (x : Int), .int .i64 (y : Int)] 23) := (hb_v12.block (EH) (Array.getElem?_eq_some_iff.1 (show v9.heap[EH]? = some (.cells #[.int .i64 (x : Int), .int .i64 (y : Int)] 23) from cH_v9)).1).trans cH_v9
    have hw_v12 : Below D w v12 := (hw_v9).trans (hb_v12.mono (by first | omega | (simp; omega)))
    clear cX_v9 cY_v9 cH_v9 hb_v12 y10_0 y10_1 y11_0 y11_1 hw_v9 hs_v12
    have ld13 : v12.heap[D]? = some (.cells #[.int .i64 (a : Int), .int .i64 (b : Int)] 23) := cX_v12
    have y13_0 := cell2_0 ld13
    have y13_1 := cell2_1 ld13
    clear ld13
    have ld14 : v12.heap[D + 1]? = some (.cells #[.int .i64 c, .int .i64 d] 23) := cY_v12
    have y14_0 := cell2_0 ld14
    have y14_1 := cell2_1 ld14
    clear ld14
    have P15 : Pg v12 := P.below (by first | exact hw_v12 | (rw [hD]; exact hw_v12))
    go_wp2_with fail
    refine (S2.out _ P15.gi).mono ?_
    rintro e v15 ⟨rfl, hb_v15⟩
    have hs_v15 := hw_v12.size
    have cX_v15 : v15.heap[D]? = some (.cells #[.int .i64 (a : Int), .int .i64 (b : Int)] 23) := (hb_v15.block (D) (Array.getElem?_eq_some_iff.1 (show v12.heap[D]? = some (.cells #[.int .i64 (a : Int), .int .i64 (b : Int)] 23) from cX_v12)).1).trans cX_v12
    have cY_v15 : v15.heap[D + 1]? = some (.cells #[.int .i64 c, .int .i64 d] 23) := (hb_v15.block (D + 1) (Array.getElem?_eq_some_iff.1 (show v12.heap[D + 1]? = some (.cells #[.int .i64 c, .int .i64 d] 23) from cY_v12)).1).trans cY_v12
    have cH_v15 : v15.heap[EH]? = some (.cells #[.int .i64 (x : Int), .int .i64 (y : Int)] 23) := (hb_v15.block (EH) (Array.getElem?_eq_some_iff.1 (show v12.heap[EH]? = some (.cells #[.int .i64 (x : Int), .int .i64 (y : Int)] 23) from cH_v12)).1).trans cH_v12
    have hw_v15 : Below D w v15 := (hw_v12).trans (hb_v15.mono (by first | omega | (simp; omega)))
    clear cX_v12 cY_v12 cH_v12 hb_v15 y13_0 y13_1 y14_0 y14_1 hw_v12 hs_v15
    have ld16 : v15.heap[D]? = some (.cells #[.int .i64 (a : Int), .int .i64 (b : Int)] 23) := cX_v15
    have y16_0 := cell2_0 ld16
    have y16_1 := cell2_1 ld16
    clear ld16
    have ld17 : v15.heap[D + 1]? = some (.cells #[.int .i64 c, .int .i64 d] 23) := cY_v15
    have y17_0 := cell2_0 ld17
    have y17_1 := cell2_1 ld17
    clear ld17
    go_wp2_with fail
    refine (CM.out _).mono ?_
    rintro e v18 ⟨rfl, hb_v18⟩
    have hs_v18 := hw_v15.size
    have cX_v18 : v18.heap[D]? = some (.cells #[.int .i64 (a : Int), .int .i64 (b : Int)] 23) := (hb_v18.block (D) (Array.getElem?_eq_some_iff.1 (show v15.heap[D]? = some (.cells #[.int .i64 (a : Int), .int .i64 (b : Int)] 23) from cX_v15)).1).trans cX_v15
    have cY_v18 : v18.heap[D + 1]? = some (.cells #[.int .i64 c, .int .i64 d] 23) := (hb_v18.block (D + 1) (Array.getElem?_eq_some_iff.1 (show v15.heap[D + 1]? = some (.cells #[.int .i64 c, .int .i64 d] 23) from cY_v15)).1).trans cY_v15
    have cH_v18 : v18.heap[EH]? = some (.cells #[.int .i64 (x : Int), .int .i64 (y : Int)] 23) := (hb_v18.block (EH) (Array.getElem?_eq_some_iff.1 (show v15.heap[EH]? = some (.cells #[.int .i64 (x : Int), .int .i64 (y : Int)] 23) from cH_v15)).1).trans cH_v15
    have hw_v18 : Below D w v18 := (hw_v15).trans (hb_v18.mono (by first | omega | (simp; omega)))
    clear cX_v15 cY_v15 cH_v15 hb_v18 y16_0 y16_1 y17_0 y17_1 hw_v15 hs_v18
    obtain ⟨V1, hV1⟩ : ∃ V, v18 = V := ⟨_, rfl⟩
    have hw_V1 : Below D w V1 := by rw [← hV1]; exact hw_v18
    have HX_V1 := Lib.hid (show V1.heap[D]? = some (.cells #[.int .i64 (a : Int), .int .i64 (b : Int)] 23) by rw [← hV1]; exact cX_v18)
    have HY_V1 := Lib.hid (show V1.heap[D + 1]? = some (.cells #[.int .i64 c, .int .i64 d] 23) by rw [← hV1]; exact cY_v18)
    have HH_V1 := Lib.hid (show V1.heap[EH]? = some (.cells #[.int .i64 (x : Int), .int .i64 (y : Int)] 23) by rw [← hV1]; exact cH_v18)
    have PV_V1 : Pg V1 := P.below (by first | exact hw_V1 | (rw [hD]; exact hw_V1))
    have GG_V1 := Lib.hid (fun (W : World) (h : Below V1.heap.size V1 W) => PV_V1.below h)
    clear cX_v18 cY_v18 cH_v18 hw_v18
    go_upto_region 8 with fail
    try rw [hV1]
    refine wp_region_slots_at rfl rfl (fun base ys => (((((((base.set 68 (ys 0)).set 69 (ys 1)).set 70 (ys 2)).set 67 (ys 3)).set 71 (ys 4)).set 72 (ys 5)).set 14 (ys 6)).set 15 (ys 7)) (BelowI _ (fun A => Below V1.heap.size V1 A) (tn8b a b u)) (fun _ => undef) (by kernel_rfl) (below_start (R := fun A => Below V1.heap.size V1 A) ⟨rfl, rfl, rfl, Nat.le_refl _, fun _ _ => rfl⟩) ?h
    case h =>
      intro FF hFF
      simp only [List.set_cons_succ, List.set_cons_zero] at hFF
      subst hFF
      refine ⟨rfl, ?_, ?_⟩
      refine ⟨?_, ?_⟩
      · refine SlotStep.below (fun A B hb h => h.trans (hb.mono h.size)) (tn8b_up a b u) ?_
        intro ys W hR hd K hK
        have hl := (hR.block (D) (Array.getElem?_eq_some_iff.1 HX_V1.out).1).trans HX_V1.out
        have c0 := cell2_0 hl
        have c1 := cell2_1 hl
        go_simp
        have hK2 := hK (.agg #[.int .i64 (a : Int), .int .i64 (b : Int)]) _ (Below.refl _ _) rfl
        simp (config := { decide := true }) only [upd, if_true, if_false] at hK2
        exact hK2
      refine ⟨?_, ?_⟩
      · refine SlotStep.below (fun A B hb h => h.trans (hb.mono h.size)) (tn8b_up a b u) ?_
        intro ys W hR hd K hK
        go_simp
        refine (F81.out _).mono ?_
        rintro e w5 ⟨rfl, hb5⟩
        have hK2 := hK (.agg #[.int .i64 8, .int .i64 1]) _ hb5 rfl
        simp (config := { decide := true }) only [upd, if_true, if_false] at hK2
        exact hK2
      refine ⟨?_, ?_⟩
      · refine SlotStep.below (fun A B hb h => h.trans (hb.mono h.size)) (tn8b_up a b u) ?_
        intro ys W hR hd K hK
        have dd0 : ys 0 = (.agg #[.int .i64 (a : Int), .int .i64 (b : Int)]) := hd 0 (by kernel_rfl) (by decide)
        have dd1 : ys 1 = (.agg #[.int .i64 8, .int .i64 1]) := hd 1 (by kernel_rfl) (by decide)
        go_simp
        refine (SU.out _ (GG_V1.out W hR).gi).mono ?_
        rintro e w5 ⟨rfl, hb5⟩
        have hK2 := hK (.tuple #[.int .i64 u, .int .i64 0]) _ hb5 rfl
        simp (config := { decide := true }) only [upd, if_true, if_false, dd0, dd1] at hK2
        exact hK2
      refine ⟨?_, ?_⟩
      · refine SlotStep.below (fun A B hb h => h.trans (hb.mono h.size)) (tn8b_up a b u) ?_
        intro ys W hR hd K hK
        have dd2 : ys 2 = (.tuple #[.int .i64 u, .int .i64 0]) := hd 2 (by kernel_rfl) (by decide)
        go_simp
        have hK2 := hK (.tuple #[.int .i64 u, .int .i64 0]) _ (Below.refl _ _) rfl
        simp (config := { decide := true }) only [upd, if_true, if_false, dd2] at hK2
        exact hK2
      refine ⟨?_, ?_⟩
      · refine SlotStep.below (fun A B hb h => h.trans (hb.mono h.size)) (tn8b_up a b u) ?_
        intro ys W hR hd K hK
        have dd3 : ys 3 = (.tuple #[.int .i64 u, .int .i64 0]) := hd 3 (by kernel_rfl) (by decide)
        go_simp
        have hK2 := hK (.int .i64 u) _ (Below.refl _ _) rfl
        simp (config := { decide := true }) only [upd, if_true, if_false, dd3] at hK2
        exact hK2
      refine ⟨?_, ?_⟩
      · refine SlotStep.below (fun A B hb h => h.trans (hb.mono h.size)) (tn8b_up a b u) ?_
        intro ys W hR hd K hK
        have dd3 : ys 3 = (.tuple #[.int .i64 u, .int .i64 0]) := hd 3 (by kernel_rfl) (by decide)
        go_simp
        have hK2 := hK (.int .i64 0) _ (Below.refl _ _) rfl
        simp (config := { decide := true }) only [upd, if_true, if_false, dd3] at hK2
        exact hK2
      refine ⟨?_, ?_⟩
      · refine SlotStep.below (fun A B hb h => h.trans (hb.mono h.size)) (tn8b_up a b u) ?_
        intro ys W hR hd K hK
        have dd4 : ys 4 = (.int .i64 u) := hd 4 (by kernel_rfl) (by decide)
        go_simp
        have hK2 := hK (.int .i64 u) _ (Below.refl _ _) rfl
        simp (config := { decide := true }) only [upd, if_true, if_false, dd4] at hK2
        exact hK2
      refine ⟨?_, ?_⟩
      · refine SlotStep.below (fun A B hb h => h.trans (hb.mono h.size)) (tn8b_up a b u) ?_
        intro ys W hR hd K hK
        have dd5 : ys 5 = (.int .i64 0) := hd 5 (by kernel_rfl) (by decide)
        go_simp
        have hK2 := hK (.int .i64 0) _ (Below.refl _ _) rfl
        simp (config := { decide := true }) only [upd, if_true, if_false, dd5] at hK2
        exact hK2
      trivial
      · intro L5 ys5 U1 hL5 hI5
        obtain ⟨hR5, hj5⟩ := hI5
        have d6_U1 : ys5 6 = (.int .i64 u) := hj5 6 (by decide) (hL5 6 (by decide))
        have d7_U1 : ys5 7 = (.int .i64 0) := hj5 7 (by decide) (hL5 7 (by decide))
        simp only [d6_U1, d7_U1]
        have cX_U1 : U1.heap[D]? = some (.cells #[.int .i64 (a : Int), .int .i64 (b : Int)] 23) := (hR5.block (D) (Array.getElem?_eq_some_iff.1 HX_V1.out).1).trans HX_V1.out
        have cY_U1 : U1.heap[D + 1]? = some (.cells #[.int .i64 c, .int .i64 d] 23) := (hR5.block (D + 1) (Array.getElem?_eq_some_iff.1 HY_V1.out).1).trans HY_V1.out
        have cH_U1 : U1.heap[EH]? = some (.cells #[.int .i64 (x : Int), .int .i64 (y : Int)] 23) := (hR5.block (EH) (Array.getElem?_eq_some_iff.1 HH_V1.out).1).trans HH_V1.out
        have hw_U1 : Below D w U1 := hw_V1.trans (hR5.mono (by have := hw_V1.size; first | omega | (simp; omega)))
        clear hj5 hL5 hR5 hw_V1 d6_U1 d7_U1 hV1 GG_V1 PV_V1 HX_V1 HY_V1 HH_V1
        obtain ⟨V2, hV2⟩ : ∃ V, U1 = V := ⟨_, rfl⟩
        have hw_V2 : Below D w V2 := by rw [← hV2]; exact hw_U1
        have HX_V2 := Lib.hid (show V2.heap[D]? = some (.cells #[.int .i64 (a : Int), .int .i64 (b : Int)] 23) by rw [← hV2]; exact cX_U1)
        have HY_V2 := Lib.hid (show V2.heap[D + 1]? = some (.cells #[.int .i64 c, .int .i64 d] 23) by rw [← hV2]; exact cY_U1)
        have HH_V2 := Lib.hid (show V2.heap[EH]? = some (.cells #[.int .i64 (x : Int), .int .i64 (y : Int)] 23) by rw [← hV2]; exact cH_U1)
        have PV_V2 : Pg V2 := P.below (by first | exact hw_V2 | (rw [hD]; exact hw_V2))
        have GG_V2 := Lib.hid (fun (W : World) (h : Below V2.heap.size V2 W) => PV_V2.below h)
        clear cX_U1 cY_U1 cH_U1 hw_U1
        go_upto_region 9 with fail
        try rw [hV2]
        refine wp_region_slots_at rfl rfl (fun base ys => (((((((base.set 74 (ys 0)).set 75 (ys 1)).set 76 (ys 2)).set 73 (ys 3)).set 77 (ys 4)).set 78 (ys 5)).set 16 (ys 6)).set 17 (ys 7)) (BelowI _ (fun A => Below V2.heap.size V2 A) (tn9b c d r)) (fun _ => undef) (by kernel_rfl) (below_start (R := fun A => Below V2.heap.size V2 A) ⟨rfl, rfl, rfl, Nat.le_refl _, fun _ _ => rfl⟩) ?h
        case h =>
          intro FF hFF
          simp only [List.set_cons_succ, List.set_cons_zero] at hFF
          subst hFF
          refine ⟨rfl, ?_, ?_⟩
          refine ⟨?_, ?_⟩
          · refine SlotStep.below (fun A B hb h => h.trans (hb.mono h.size)) (tn9b_up c d r) ?_
            intro ys W hR hd K hK
            have hl := (hR.block (D + 1) (Array.getElem?_eq_some_iff.1 HY_V2.out).1).trans HY_V2.out
            have c0 := cell2_0 hl
            have c1 := cell2_1 hl
            go_simp
            have hK2 := hK (.agg #[.int .i64 c, .int .i64 d]) _ (Below.refl _ _) rfl
            simp (config := { decide := true }) only [upd, if_true, if_false] at hK2
            exact hK2
          refine ⟨?_, ?_⟩
          · refine SlotStep.below (fun A B hb h => h.trans (hb.mono h.size)) (tn9b_up c d r) ?_
            intro ys W hR hd K hK
            go_simp
            refine (F81.out _).mono ?_
            rintro e w5 ⟨rfl, hb5⟩
            have hK2 := hK (.agg #[.int .i64 8, .int .i64 1]) _ hb5 rfl
            simp (config := { decide := true }) only [upd, if_true, if_false] at hK2
            exact hK2
          refine ⟨?_, ?_⟩
          · refine SlotStep.below (fun A B hb h => h.trans (hb.mono h.size)) (tn9b_up c d r) ?_
            intro ys W hR hd K hK
            have dd0 : ys 0 = (.agg #[.int .i64 c, .int .i64 d]) := hd 0 (by kernel_rfl) (by decide)
            have dd1 : ys 1 = (.agg #[.int .i64 8, .int .i64 1]) := hd 1 (by kernel_rfl) (by decide)
            go_simp
            refine (SV.out _ (GG_V2.out W hR).gi).mono ?_
            rintro e w5 ⟨rfl, hb5⟩
            have hK2 := hK (.tuple #[.int .i64 r, .int .i64 0]) _ hb5 rfl
            simp (config := { decide := true }) only [upd, if_true, if_false, dd0, dd1] at hK2
            exact hK2
          refine ⟨?_, ?_⟩
          · refine SlotStep.below (fun A B hb h => h.trans (hb.mono h.size)) (tn9b_up c d r) ?_
            intro ys W hR hd K hK
            have dd2 : ys 2 = (.tuple #[.int .i64 r, .int .i64 0]) := hd 2 (by kernel_rfl) (by decide)
            go_simp
            have hK2 := hK (.tuple #[.int .i64 r, .int .i64 0]) _ (Below.refl _ _) rfl
            simp (config := { decide := true }) only [upd, if_true, if_false, dd2] at hK2
            exact hK2
          refine ⟨?_, ?_⟩
          · refine SlotStep.below (fun A B hb h => h.trans (hb.mono h.size)) (tn9b_up c d r) ?_
            intro ys W hR hd K hK
            have dd3 : ys 3 = (.tuple #[.int .i64 r, .int .i64 0]) := hd 3 (by kernel_rfl) (by decide)
            go_simp
            have hK2 := hK (.int .i64 r) _ (Below.refl _ _) rfl
            simp (config := { decide := true }) only [upd, if_true, if_false, dd3] at hK2
            exact hK2
          refine ⟨?_, ?_⟩
          · refine SlotStep.below (fun A B hb h => h.trans (hb.mono h.size)) (tn9b_up c d r) ?_
            intro ys W hR hd K hK
            have dd3 : ys 3 = (.tuple #[.int .i64 r, .int .i64 0]) := hd 3 (by kernel_rfl) (by decide)
            go_simp
            have hK2 := hK (.int .i64 0) _ (Below.refl _ _) rfl
            simp (config := { decide := true }) only [upd, if_true, if_false, dd3] at hK2
            exact hK2
          refine ⟨?_, ?_⟩
          · refine SlotStep.below (fun A B hb h => h.trans (hb.mono h.size)) (tn9b_up c d r) ?_
            intro ys W hR hd K hK
            have dd4 : ys 4 = (.int .i64 r) := hd 4 (by kernel_rfl) (by decide)
            go_simp
            have hK2 := hK (.int .i64 r) _ (Below.refl _ _) rfl
            simp (config := { decide := true }) only [upd, if_true, if_false, dd4] at hK2
            exact hK2
          refine ⟨?_, ?_⟩
          · refine SlotStep.below (fun A B hb h => h.trans (hb.mono h.size)) (tn9b_up c d r) ?_
            intro ys W hR hd K hK
            have dd5 : ys 5 = (.int .i64 0) := hd 5 (by kernel_rfl) (by decide)
            go_simp
            have hK2 := hK (.int .i64 0) _ (Below.refl _ _) rfl
            simp (config := { decide := true }) only [upd, if_true, if_false, dd5] at hK2
            exact hK2
          trivial
          · intro L5 ys5 U2 hL5 hI5
            obtain ⟨hR5, hj5⟩ := hI5
            have d6_U2 : ys5 6 = (.int .i64 r) := hj5 6 (by decide) (hL5 6 (by decide))
            have d7_U2 : ys5 7 = (.int .i64 0) := hj5 7 (by decide) (hL5 7 (by decide))
            simp only [d6_U2, d7_U2]
            have cX_U2 : U2.heap[D]? = some (.cells #[.int .i64 (a : Int), .int .i64 (b : Int)] 23) := (hR5.block (D) (Array.getElem?_eq_some_iff.1 HX_V2.out).1).trans HX_V2.out
            have cY_U2 : U2.heap[D + 1]? = some (.cells #[.int .i64 c, .int .i64 d] 23) := (hR5.block (D + 1) (Array.getElem?_eq_some_iff.1 HY_V2.out).1).trans HY_V2.out
            have cH_U2 : U2.heap[EH]? = some (.cells #[.int .i64 (x : Int), .int .i64 (y : Int)] 23) := (hR5.block (EH) (Array.getElem?_eq_some_iff.1 HH_V2.out).1).trans HH_V2.out
            have hw_U2 : Below D w U2 := hw_V2.trans (hR5.mono (by have := hw_V2.size; first | omega | (simp; omega)))
            clear hj5 hL5 hR5 hw_V2 d6_U2 d7_U2 hV2 GG_V2 PV_V2 HX_V2 HY_V2 HH_V2
            have ld19 : U2.heap[EH]? = some (.cells #[.int .i64 (x : Int), .int .i64 (y : Int)] 23) := cH_U2
            have y19_0 := cell2_0 ld19
            have y19_1 := cell2_1 ld19
            clear ld19
            go_wp2_with fail
            refine (CH3.out _).mono ?_
            rintro e v20 ⟨rfl, hb_v20⟩
            have hs_v20 := hw_U2.size
            have cX_v20 : v20.heap[D]? = some (.cells #[.int .i64 (a : Int), .int .i64 (b : Int)] 23) := (hb_v20.block (D) (Array.getElem?_eq_some_iff.1 (show U2.heap[D]? = some (.cells #[.int .i64 (a : Int), .int .i64 (b : Int)] 23) from cX_U2)).1).trans cX_U2
            have cY_v20 : v20.heap[D + 1]? = some (.cells #[.int .i64 c, .int .i64 d] 23) := (hb_v20.block (D + 1) (Array.getElem?_eq_some_iff.1 (show U2.heap[D + 1]? = some (.cells #[.int .i64 c, .int .i64 d] 23) from cY_U2)).1).trans cY_U2
            have cH_v20 : v20.heap[EH]? = some (.cells #[.int .i64 (x : Int), .int .i64 (y : Int)] 23) := (hb_v20.block (EH) (Array.getElem?_eq_some_iff.1 (show U2.heap[EH]? = some (.cells #[.int .i64 (x : Int), .int .i64 (y : Int)] 23) from cH_U2)).1).trans cH_U2
            have hw_v20 : Below D w v20 := (hw_U2).trans (hb_v20.mono (by first | omega | (simp; omega)))
            clear cX_U2 cY_U2 cH_U2 hb_v20 y19_0 y19_1 hw_U2 hs_v20
            by_cases hz0 : z = 0
            · subst hz0
              have SZ0 := Lib.hid (SZ.out rfl)
              have CX0 := Lib.hid (CX.out rfl)
              have ld21 : v20.heap[EH]? = some (.cells #[.int .i64 (x : Int), .int .i64 (y : Int)] 23) := cH_v20
              have y21_0 := cell2_0 ld21
              have y21_1 := cell2_1 ld21
              clear ld21
              have ld22 : v20.heap[D + 1]? = some (.cells #[.int .i64 c, .int .i64 d] 23) := cY_v20
              have y22_0 := cell2_0 ld22
              have y22_1 := cell2_1 ld22
              clear ld22
              have P16 : Pg v20 := P.below (by first | exact hw_v20 | (rw [hD]; exact hw_v20))
              go_wp2_with fail
              refine (SZ0.out _ P16.gi).mono ?_
              rintro e v23 ⟨rfl, hb_v23⟩
              have hs_v23 := hw_v20.size
              have cX_v23 : v23.heap[D]? = some (.cells #[.int .i64 (a : Int), .int .i64 (b : Int)] 23) := (hb_v23.block (D) (Array.getElem?_eq_some_iff.1 (show v20.heap[D]? = some (.cells #[.int .i64 (a : Int), .int .i64 (b : Int)] 23) from cX_v20)).1).trans cX_v20
              have cY_v23 : v23.heap[D + 1]? = some (.cells #[.int .i64 c, .int .i64 d] 23) := (hb_v23.block (D + 1) (Array.getElem?_eq_some_iff.1 (show v20.heap[D + 1]? = some (.cells #[.int .i64 c, .int .i64 d] 23) from cY_v20)).1).trans cY_v20
              have cH_v23 : v23.heap[EH]? = some (.cells #[.int .i64 (x : Int), .int .i64 (y : Int)] 23) := (hb_v23.block (EH) (Array.getElem?_eq_some_iff.1 (show v20.heap[EH]? = some (.cells #[.int .i64 (x : Int), .int .i64 (y : Int)] 23) from cH_v20)).1).trans cH_v20
              have hw_v23 : Below D w v23 := (hw_v20).trans (hb_v23.mono (by first | omega | (simp; omega)))
              clear cX_v20 cY_v20 cH_v20 hb_v23 y21_0 y21_1 y22_0 y22_1 hw_v20 hs_v23
              have ld24 : v23.heap[D]? = some (.cells #[.int .i64 (a : Int), .int .i64 (b : Int)] 23) := cX_v23
              have y24_0 := cell2_0 ld24
              have y24_1 := cell2_1 ld24
              clear ld24
              have P17 : Pg v23 := P.below (by first | exact hw_v23 | (rw [hD]; exact hw_v23))
              go_wp2_with fail
              refine (CL.out _ P17).mono ?_
              rintro e v25 ⟨rfl, hb_v25⟩
              have hs_v25 := hw_v23.size
              have cX_v25 : v25.heap[D]? = some (.cells #[.int .i64 (a : Int), .int .i64 (b : Int)] 23) := (hb_v25.block (D) (Array.getElem?_eq_some_iff.1 (show v23.heap[D]? = some (.cells #[.int .i64 (a : Int), .int .i64 (b : Int)] 23) from cX_v23)).1).trans cX_v23
              have cY_v25 : v25.heap[D + 1]? = some (.cells #[.int .i64 c, .int .i64 d] 23) := (hb_v25.block (D + 1) (Array.getElem?_eq_some_iff.1 (show v23.heap[D + 1]? = some (.cells #[.int .i64 c, .int .i64 d] 23) from cY_v23)).1).trans cY_v23
              have cH_v25 : v25.heap[EH]? = some (.cells #[.int .i64 (x : Int), .int .i64 (y : Int)] 23) := (hb_v25.block (EH) (Array.getElem?_eq_some_iff.1 (show v23.heap[EH]? = some (.cells #[.int .i64 (x : Int), .int .i64 (y : Int)] 23) from cH_v23)).1).trans cH_v23
              have hw_v25 : Below D w v25 := (hw_v23).trans (hb_v25.mono (by first | omega | (simp; omega)))
              clear cX_v23 cY_v23 cH_v23 hb_v25 y24_0 y24_1 hw_v23 hs_v25
              have ld26 : v25.heap[EH]? = some (.cells #[.int .i64 (x : Int), .int .i64 (y : Int)] 23) := cH_v25
              have y26_0 := cell2_0 ld26
              have y26_1 := cell2_1 ld26
              clear ld26
              have P18 : Pg v25 := P.below (by first | exact hw_v25 | (rw [hD]; exact hw_v25))
              go_wp2_with fail
              refine (CX0.out _ P18).mono ?_
              rintro e v27 ⟨rfl, hb_v27⟩
              have hs_v27 := hw_v25.size
              have cX_v27 : v27.heap[D]? = some (.cells #[.int .i64 (a : Int), .int .i64 (b : Int)] 23) := (hb_v27.block (D) (Array.getElem?_eq_some_iff.1 (show v25.heap[D]? = some (.cells #[.int .i64 (a : Int), .int .i64 (b : Int)] 23) from cX_v25)).1).trans cX_v25
              have cY_v27 : v27.heap[D + 1]? = some (.cells #[.int .i64 c, .int .i64 d] 23) := (hb_v27.block (D + 1) (Array.getElem?_eq_some_iff.1 (show v25.heap[D + 1]? = some (.cells #[.int .i64 c, .int .i64 d] 23) from cY_v25)).1).trans cY_v25
              have cH_v27 : v27.heap[EH]? = some (.cells #[.int .i64 (x : Int), .int .i64 (y : Int)] 23) := (hb_v27.block (EH) (Array.getElem?_eq_some_iff.1 (show v25.heap[EH]? = some (.cells #[.int .i64 (x : Int), .int .i64 (y : Int)] 23) from cH_v25)).1).trans cH_v25
              have hw_v27 : Below D w v27 := (hw_v25).trans (hb_v27.mono (by first | omega | (simp; omega)))
              clear cX_v25 cY_v25 cH_v25 hb_v27 y26_0 y26_1 hw_v25 hs_v27
              have HW := Lib.hid (hw_v27)
              go_wp2
              go_ret
              exact ⟨rfl, by first | exact HW.out | (rw [hD]; exact HW.out)⟩
            · skip
              have HW := Lib.hid (hw_v20)
              go_wp2
              go_ret
              exact ⟨rfl, by first | exact HW.out | (rw [hD]; exact HW.out)⟩
  · skip
    go_enter Tryz.func8, Tryz.ntmps8
    have P19 : Pg ((w.alloc (.cells #[.int .i64 (a : Int), .int .i64 (b : Int)] 23)).alloc (.cells #[.int .i64 c, .int .i64 d] 23)) := P.below (by first | exact (((Below.refl _ w).alloc (by first | omega | (simp; omega)) (.cells #[.int .i64 (a : Int), .int .i64 (b : Int)] 23)).alloc (by first | omega | (simp; omega)) (.cells #[.int .i64 c, .int .i64 d] 23)) | (rw [hD]; exact (((Below.refl _ w).alloc (by first | omega | (simp; omega)) (.cells #[.int .i64 (a : Int), .int .i64 (b : Int)] 23)).alloc (by first | omega | (simp; omega)) (.cells #[.int .i64 c, .int .i64 d] 23))))
    go_wp2_with fail
    refine (KN.out _ P19).mono ?_
    rintro e v1 ⟨rfl, hb_v1⟩
    have cX_v1 : v1.heap[D]? = some (.cells #[.int .i64 (a : Int), .int .i64 (b : Int)] 23) := (hb_v1.block (D) (Array.getElem?_eq_some_iff.1 (show ((w.alloc (.cells #[.int .i64 (a : Int), .int .i64 (b : Int)] 23)).alloc (.cells #[.int .i64 c, .int .i64 d] 23)).heap[D]? = some (.cells #[.int .i64 (a : Int), .int .i64 (b : Int)] 23) from (heap_old (o := .cells #[.int .i64 c, .int .i64 d] 23) (heap_new (by first | omega | (simp; omega)))))).1).trans (heap_old (o := .cells #[.int .i64 c, .int .i64 d] 23) (heap_new (by first | omega | (simp; omega))))
    have cY_v1 : v1.heap[D + 1]? = some (.cells #[.int .i64 c, .int .i64 d] 23) := (hb_v1.block (D + 1) (Array.getElem?_eq_some_iff.1 (show ((w.alloc (.cells #[.int .i64 (a : Int), .int .i64 (b : Int)] 23)).alloc (.cells #[.int .i64 c, .int .i64 d] 23)).heap[D + 1]? = some (.cells #[.int .i64 c, .int .i64 d] 23) from (heap_new (by first | omega | (simp; omega))))).1).trans (heap_new (by first | omega | (simp; omega)))
    have hw_v1 : Below D w v1 := ((((Below.refl _ w).alloc (by first | omega | (simp; omega)) (.cells #[.int .i64 (a : Int), .int .i64 (b : Int)] 23)).alloc (by first | omega | (simp; omega)) (.cells #[.int .i64 c, .int .i64 d] 23))).trans (hb_v1.mono (by first | omega | (simp; omega)))
    clear hb_v1
    have ld2 : v1.heap[D]? = some (.cells #[.int .i64 (a : Int), .int .i64 (b : Int)] 23) := cX_v1
    have y2_0 := cell2_0 ld2
    have y2_1 := cell2_1 ld2
    clear ld2
    go_wp2_with fail
    refine (CH.out _).mono ?_
    rintro e v3 ⟨rfl, hb_v3⟩
    have hs_v3 := hw_v1.size
    have cX_v3 : v3.heap[D]? = some (.cells #[.int .i64 (a : Int), .int .i64 (b : Int)] 23) := (hb_v3.block (D) (Array.getElem?_eq_some_iff.1 (show v1.heap[D]? = some (.cells #[.int .i64 (a : Int), .int .i64 (b : Int)] 23) from cX_v1)).1).trans cX_v1
    have cY_v3 : v3.heap[D + 1]? = some (.cells #[.int .i64 c, .int .i64 d] 23) := (hb_v3.block (D + 1) (Array.getElem?_eq_some_iff.1 (show v1.heap[D + 1]? = some (.cells #[.int .i64 c, .int .i64 d] 23) from cY_v1)).1).trans cY_v1
    have hw_v3 : Below D w v3 := (hw_v1).trans (hb_v3.mono (by first | omega | (simp; omega)))
    clear cX_v1 cY_v1 hb_v3 y2_0 y2_1 hw_v1 hs_v3
    have ld4 : v3.heap[D + 1]? = some (.cells #[.int .i64 c, .int .i64 d] 23) := cY_v3
    have y4_0 := cell2_0 ld4
    have y4_1 := cell2_1 ld4
    clear ld4
    go_wp2_with fail
    refine (CH2.out _).mono ?_
    rintro e v5 ⟨rfl, hb_v5⟩
    have hs_v5 := hw_v3.size
    have cX_v5 : v5.heap[D]? = some (.cells #[.int .i64 (a : Int), .int .i64 (b : Int)] 23) := (hb_v5.block (D) (Array.getElem?_eq_some_iff.1 (show v3.heap[D]? = some (.cells #[.int .i64 (a : Int), .int .i64 (b : Int)] 23) from cX_v3)).1).trans cX_v3
    have cY_v5 : v5.heap[D + 1]? = some (.cells #[.int .i64 c, .int .i64 d] 23) := (hb_v5.block (D + 1) (Array.getElem?_eq_some_iff.1 (show v3.heap[D + 1]? = some (.cells #[.int .i64 c, .int .i64 d] 23) from cY_v3)).1).trans cY_v3
    have hw_v5 : Below D w v5 := (hw_v3).trans (hb_v5.mono (by first | omega | (simp; omega)))
    clear cX_v3 cY_v3 hb_v5 y4_0 y4_1 hw_v3 hs_v5
    have ld6 : v5.heap[D]? = some (.cells #[.int .i64 (a : Int), .int .i64 (b : Int)] 23) := cX_v5
    have y6_0 := cell2_0 ld6
    have y6_1 := cell2_1 ld6
    clear ld6
    go_wp2_with fail
    refine (FF.out _).mono ?_
    rintro e v7 ⟨rfl, hb_v7⟩
    have hs_v7 := hw_v5.size
    have cX_v7 : v7.heap[D]? = some (.cells #[.int .i64 (a : Int), .int .i64 (b : Int)] 23) := (hb_v7.block (D) (Array.getElem?_eq_some_iff.1 (show v5.heap[D]? = some (.cells #[.int .i64 (a : Int), .int .i64 (b : Int)] 23) from cX_v5)).1).trans cX_v5
    have cY_v7 : v7.heap[D + 1]? = some (.cells #[.int .i64 c, .int .i64 d] 23) := (hb_v7.block (D + 1) (Array.getElem?_eq_some_iff.1 (show v5.heap[D + 1]? = some (.cells #[.int .i64 c, .int .i64 d] 23) from cY_v5)).1).trans cY_v5
    have hw_v7 : Below D w v7 := (hw_v5).trans (hb_v7.mono (by first | omega | (simp; omega)))
    clear cX_v5 cY_v5 hb_v7 y6_0 y6_1 hw_v5 hs_v7
    obtain ⟨EH, hEH⟩ : ∃ E, v7.heap.size = E := ⟨_, rfl⟩
    have ld8 : (v7.alloc (.cells #[.int .i64 (x : Int), .int .i64 (y : Int)] 23)).heap[D]? = some (.cells #[.int .i64 (a : Int), .int .i64 (b : Int)] 23) := (heap_old (o := .cells #[.int .i64 (x : Int), .int .i64 (y : Int)] 23) cX_v7)
    have y8_0 := cell2_0 ld8
    have y8_1 := cell2_1 ld8
    clear ld8
    have P20 : Pg (v7.alloc (.cells #[.int .i64 (x : Int), .int .i64 (y : Int)] 23)) := P.below (by first | exact (hw_v7.alloc (by have := hw_v7.size; first | omega | (simp; omega)) (.cells #[.int .i64 (x : Int), .int .i64 (y : Int)] 23)) | (rw [hD]; exact (hw_v7.alloc (by have := hw_v7.size; first | omega | (simp; omega)) (.cells #[.int .i64 (x : Int), .int .i64 (y : Int)] 23))))
    go_wp2_with fail
    refine (S0.out _ P20.gi).mono ?_
    rintro e v9 ⟨rfl, hb_v9⟩
    have hs_v9 := hw_v7.size
    have cX_v9 : v9.heap[D]? = some (.cells #[.int .i64 (a : Int), .int .i64 (b : Int)] 23) := (hb_v9.block (D) (Array.getElem?_eq_some_iff.1 (show (v7.alloc (.cells #[.int .i64 (x : Int), .int .i64 (y : Int)] 23)).heap[D]? = some (.cells #[.int .i64 (a : Int), .int .i64 (b : Int)] 23) from (heap_old (o := .cells #[.int .i64 (x : Int), .int .i64 (y : Int)] 23) cX_v7))).1).trans (heap_old (o := .cells #[.int .i64 (x : Int), .int .i64 (y : Int)] 23) cX_v7)
    have cY_v9 : v9.heap[D + 1]? = some (.cells #[.int .i64 c, .int .i64 d] 23) := (hb_v9.block (D + 1) (Array.getElem?_eq_some_iff.1 (show (v7.alloc (.cells #[.int .i64 (x : Int), .int .i64 (y : Int)] 23)).heap[D + 1]? = some (.cells #[.int .i64 c, .int .i64 d] 23) from (heap_old (o := .cells #[.int .i64 (x : Int), .int .i64 (y : Int)] 23) cY_v7))).1).trans (heap_old (o := .cells #[.int .i64 (x : Int), .int .i64 (y : Int)] 23) cY_v7)
    have cH_v9 : v9.heap[EH]? = some (.cells #[.int .i64 (x : Int), .int .i64 (y : Int)] 23) := (hb_v9.block (EH) (Array.getElem?_eq_some_iff.1 (show (v7.alloc (.cells #[.int .i64 (x : Int), .int .i64 (y : Int)] 23)).heap[EH]? = some (.cells #[.int .i64 (x : Int), .int .i64 (y : Int)] 23) from (heap_new (by first | omega | (simp; omega))))).1).trans (heap_new (by first | omega | (simp; omega)))
    have hw_v9 : Below D w v9 := ((hw_v7.alloc (by have := hw_v7.size; first | omega | (simp; omega)) (.cells #[.int .i64 (x : Int), .int .i64 (y : Int)] 23))).trans (hb_v9.mono (by first | omega | (simp; omega)))
    clear cX_v7 cY_v7 hb_v9 y8_0 y8_1 hw_v7 hs_v9
    have ld10 : v9.heap[D]? = some (.cells #[.int .i64 (a : Int), .int .i64 (b : Int)] 23) := cX_v9
    have y10_0 := cell2_0 ld10
    have y10_1 := cell2_1 ld10
    clear ld10
    have ld11 : v9.heap[D + 1]? = some (.cells #[.int .i64 c, .int .i64 d] 23) := cY_v9
    have y11_0 := cell2_0 ld11
    have y11_1 := cell2_1 ld11
    clear ld11
    have P21 : Pg v9 := P.below (by first | exact hw_v9 | (rw [hD]; exact hw_v9))
    go_wp2_with fail
    refine (S1.out _ P21.gi).mono ?_
    rintro e v12 ⟨rfl, hb_v12⟩
    have hs_v12 := hw_v9.size
    have cX_v12 : v12.heap[D]? = some (.cells #[.int .i64 (a : Int), .int .i64 (b : Int)] 23) := (hb_v12.block (D) (Array.getElem?_eq_some_iff.1 (show v9.heap[D]? = some (.cells #[.int .i64 (a : Int), .int .i64 (b : Int)] 23) from cX_v9)).1).trans cX_v9
    have cY_v12 : v12.heap[D + 1]? = some (.cells #[.int .i64 c, .int .i64 d] 23) := (hb_v12.block (D + 1) (Array.getElem?_eq_some_iff.1 (show v9.heap[D + 1]? = some (.cells #[.int .i64 c, .int .i64 d] 23) from cY_v9)).1).trans cY_v9
    have cH_v12 : v12.heap[EH]? = some (.cells #[.int .i64 (x : Int), .int .i64 (y : Int)] 23) := (hb_v12.block (EH) (Array.getElem?_eq_some_iff.1 (show v9.heap[EH]? = some (.cells #[.int .i64 (x : Int), .int .i64 (y : Int)] 23) from cH_v9)).1).trans cH_v9
    have hw_v12 : Below D w v12 := (hw_v9).trans (hb_v12.mono (by first | omega | (simp; omega)))
    clear cX_v9 cY_v9 cH_v9 hb_v12 y10_0 y10_1 y11_0 y11_1 hw_v9 hs_v12
    have ld13 : v12.heap[D]? = some (.cells #[.int .i64 (a : Int), .int .i64 (b : Int)] 23) := cX_v12
    have y13_0 := cell2_0 ld13
    have y13_1 := cell2_1 ld13
    clear ld13
    have ld14 : v12.heap[D + 1]? = some (.cells #[.int .i64 c, .int .i64 d] 23) := cY_v12
    have y14_0 := cell2_0 ld14
    have y14_1 := cell2_1 ld14
    clear ld14
    have P22 : Pg v12 := P.below (by first | exact hw_v12 | (rw [hD]; exact hw_v12))
    go_wp2_with fail
    refine (S2.out _ P22.gi).mono ?_
    rintro e v15 ⟨rfl, hb_v15⟩
    have hs_v15 := hw_v12.size
    have cX_v15 : v15.heap[D]? = some (.cells #[.int .i64 (a : Int), .int .i64 (b : Int)] 23) := (hb_v15.block (D) (Array.getElem?_eq_some_iff.1 (show v12.heap[D]? = some (.cells #[.int .i64 (a : Int), .int .i64 (b : Int)] 23) from cX_v12)).1).trans cX_v12
    have cY_v15 : v15.heap[D + 1]? = some (.cells #[.int .i64 c, .int .i64 d] 23) := (hb_v15.block (D + 1) (Array.getElem?_eq_some_iff.1 (show v12.heap[D + 1]? = some (.cells #[.int .i64 c, .int .i64 d] 23) from cY_v12)).1).trans cY_v12
    have cH_v15 : v15.heap[EH]? = some (.cells #[.int .i64 (x : Int), .int .i64 (y : Int)] 23) := (hb_v15.block (EH) (Array.getElem?_eq_some_iff.1 (show v12.heap[EH]? = some (.cells #[.int .i64 (x : Int), .int .i64 (y : Int)] 23) from cH_v12)).1).trans cH_v12
    have hw_v15 : Below D w v15 := (hw_v12).trans (hb_v15.mono (by first | omega | (simp; omega)))
    clear cX_v12 cY_v12 cH_v12 hb_v15 y13_0 y13_1 y14_0 y14_1 hw_v12 hs_v15
    have ld16 : v15.heap[D]? = some (.cells #[.int .i64 (a : Int), .int .i64 (b : Int)] 23) := cX_v15
    have y16_0 := cell2_0 ld16
    have y16_1 := cell2_1 ld16
    clear ld16
    have ld17 : v15.heap[D + 1]? = some (.cells #[.int .i64 c, .int .i64 d] 23) := cY_v15
    have y17_0 := cell2_0 ld17
    have y17_1 := cell2_1 ld17
    clear ld17
    go_wp2_with fail
    refine (CM.out _).mono ?_
    rintro e v18 ⟨rfl, hb_v18⟩
    have hs_v18 := hw_v15.size
    have cX_v18 : v18.heap[D]? = some (.cells #[.int .i64 (a : Int), .int .i64 (b : Int)] 23) := (hb_v18.block (D) (Array.getElem?_eq_some_iff.1 (show v15.heap[D]? = some (.cells #[.int .i64 (a : Int), .int .i64 (b : Int)] 23) from cX_v15)).1).trans cX_v15
    have cY_v18 : v18.heap[D + 1]? = some (.cells #[.int .i64 c, .int .i64 d] 23) := (hb_v18.block (D + 1) (Array.getElem?_eq_some_iff.1 (show v15.heap[D + 1]? = some (.cells #[.int .i64 c, .int .i64 d] 23) from cY_v15)).1).trans cY_v15
    have cH_v18 : v18.heap[EH]? = some (.cells #[.int .i64 (x : Int), .int .i64 (y : Int)] 23) := (hb_v18.block (EH) (Array.getElem?_eq_some_iff.1 (show v15.heap[EH]? = some (.cells #[.int .i64 (x : Int), .int .i64 (y : Int)] 23) from cH_v15)).1).trans cH_v15
    have hw_v18 : Below D w v18 := (hw_v15).trans (hb_v18.mono (by first | omega | (simp; omega)))
    clear cX_v15 cY_v15 cH_v15 hb_v18 y16_0 y16_1 y17_0 y17_1 hw_v15 hs_v18
    obtain ⟨V1, hV1⟩ : ∃ V, v18 = V := ⟨_, rfl⟩
    have hw_V1 : Below D w V1 := by rw [← hV1]; exact hw_v18
    have HX_V1 := Lib.hid (show V1.heap[D]? = some (.cells #[.int .i64 (a : Int), .int .i64 (b : Int)] 23) by rw [← hV1]; exact cX_v18)
    have HY_V1 := Lib.hid (show V1.heap[D + 1]? = some (.cells #[.int .i64 c, .int .i64 d] 23) by rw [← hV1]; exact cY_v18)
    have HH_V1 := Lib.hid (show V1.heap[EH]? = some (.cells #[.int .i64 (x : Int), .int .i64 (y : Int)] 23) by rw [← hV1]; exact cH_v18)
    have PV_V1 : Pg V1 := P.below (by first | exact hw_V1 | (rw [hD]; exact hw_V1))
    have GG_V1 := Lib.hid (fun (W : World) (h : Below V1.heap.size V1 W) => PV_V1.below h)
    clear cX_v18 cY_v18 cH_v18 hw_v18
    go_upto_region 8 with fail
    try rw [hV1]
    refine wp_region_slots_at rfl rfl (fun base ys => (((((((base.set 68 (ys 0)).set 69 (ys 1)).set 70 (ys 2)).set 67 (ys 3)).set 71 (ys 4)).set 72 (ys 5)).set 14 (ys 6)).set 15 (ys 7)) (BelowI _ (fun A => Below V1.heap.size V1 A) (tn8c a b u)) (fun _ => undef) (by kernel_rfl) (below_start (R := fun A => Below V1.heap.size V1 A) ⟨rfl, rfl, rfl, Nat.le_refl _, fun _ _ => rfl⟩) ?h
    case h =>
      intro FF hFF
      simp only [List.set_cons_succ, List.set_cons_zero] at hFF
      subst hFF
      refine ⟨rfl, ?_, ?_⟩
      refine ⟨?_, ?_⟩
      · refine SlotStep.below (fun A B hb h => h.trans (hb.mono h.size)) (tn8c_up a b u) ?_
        intro ys W hR hd K hK
        have hl := (hR.block (D) (Array.getElem?_eq_some_iff.1 HX_V1.out).1).trans HX_V1.out
        have c0 := cell2_0 hl
        have c1 := cell2_1 hl
        go_simp
        have hK2 := hK (.agg #[.int .i64 (a : Int), .int .i64 (b : Int)]) _ (Below.refl _ _) rfl
        simp (config := { decide := true }) only [upd, if_true, if_false] at hK2
        exact hK2
      refine ⟨?_, ?_⟩
      · refine SlotStep.below (fun A B hb h => h.trans (hb.mono h.size)) (tn8c_up a b u) ?_
        intro ys W hR hd K hK
        go_simp
        refine (F81.out _).mono ?_
        rintro e w5 ⟨rfl, hb5⟩
        have hK2 := hK (.agg #[.int .i64 8, .int .i64 1]) _ hb5 rfl
        simp (config := { decide := true }) only [upd, if_true, if_false] at hK2
        exact hK2
      refine ⟨?_, ?_⟩
      · refine SlotStep.below (fun A B hb h => h.trans (hb.mono h.size)) (tn8c_up a b u) ?_
        intro ys W hR hd K hK
        have dd0 : ys 0 = (.agg #[.int .i64 (a : Int), .int .i64 (b : Int)]) := hd 0 (by kernel_rfl) (by decide)
        have dd1 : ys 1 = (.agg #[.int .i64 8, .int .i64 1]) := hd 1 (by kernel_rfl) (by decide)
        go_simp
        refine (SU.out _ (GG_V1.out W hR).gi).mono ?_
        rintro e w5 ⟨rfl, hb5⟩
        have hK2 := hK (.tuple #[.int .i64 u, .int .i64 0]) _ hb5 rfl
        simp (config := { decide := true }) only [upd, if_true, if_false, dd0, dd1] at hK2
        exact hK2
      refine ⟨?_, ?_⟩
      · refine SlotStep.below (fun A B hb h => h.trans (hb.mono h.size)) (tn8c_up a b u) ?_
        intro ys W hR hd K hK
        have dd2 : ys 2 = (.tuple #[.int .i64 u, .int .i64 0]) := hd 2 (by kernel_rfl) (by decide)
        go_simp
        have hK2 := hK (.tuple #[.int .i64 u, .int .i64 0]) _ (Below.refl _ _) rfl
        simp (config := { decide := true }) only [upd, if_true, if_false, dd2] at hK2
        exact hK2
      refine ⟨?_, ?_⟩
      · refine SlotStep.below (fun A B hb h => h.trans (hb.mono h.size)) (tn8c_up a b u) ?_
        intro ys W hR hd K hK
        have dd3 : ys 3 = (.tuple #[.int .i64 u, .int .i64 0]) := hd 3 (by kernel_rfl) (by decide)
        go_simp
        have hK2 := hK (.int .i64 u) _ (Below.refl _ _) rfl
        simp (config := { decide := true }) only [upd, if_true, if_false, dd3] at hK2
        exact hK2
      refine ⟨?_, ?_⟩
      · refine SlotStep.below (fun A B hb h => h.trans (hb.mono h.size)) (tn8c_up a b u) ?_
        intro ys W hR hd K hK
        have dd3 : ys 3 = (.tuple #[.int .i64 u, .int .i64 0]) := hd 3 (by kernel_rfl) (by decide)
        go_simp
        have hK2 := hK (.int .i64 0) _ (Below.refl _ _) rfl
        simp (config := { decide := true }) only [upd, if_true, if_false, dd3] at hK2
        exact hK2
      refine ⟨?_, ?_⟩
      · refine SlotStep.below (fun A B hb h => h.trans (hb.mono h.size)) (tn8c_up a b u) ?_
        intro ys W hR hd K hK
        have dd4 : ys 4 = (.int .i64 u) := hd 4 (by kernel_rfl) (by decide)
        go_simp
        have hK2 := hK (.int .i64 u) _ (Below.refl _ _) rfl
        simp (config := { decide := true }) only [upd, if_true, if_false, dd4] at hK2
        exact hK2
      refine ⟨?_, ?_⟩
      · refine SlotStep.below (fun A B hb h => h.trans (hb.mono h.size)) (tn8c_up a b u) ?_
        intro ys W hR hd K hK
        have dd5 : ys 5 = (.int .i64 0) := hd 5 (by kernel_rfl) (by decide)
        go_simp
        have hK2 := hK (.int .i64 0) _ (Below.refl _ _) rfl
        simp (config := { decide := true }) only [upd, if_true, if_false, dd5] at hK2
        exact hK2
      trivial
      · intro L5 ys5 U1 hL5 hI5
        obtain ⟨hR5, hj5⟩ := hI5
        have d6_U1 : ys5 6 = (.int .i64 u) := hj5 6 (by decide) (hL5 6 (by decide))
        have d7_U1 : ys5 7 = (.int .i64 0) := hj5 7 (by decide) (hL5 7 (by decide))
        simp only [d6_U1, d7_U1]
        have cX_U1 : U1.heap[D]? = some (.cells #[.int .i64 (a : Int), .int .i64 (b : Int)] 23) := (hR5.block (D) (Array.getElem?_eq_some_iff.1 HX_V1.out).1).trans HX_V1.out
        have cY_U1 : U1.heap[D + 1]? = some (.cells #[.int .i64 c, .int .i64 d] 23) := (hR5.block (D + 1) (Array.getElem?_eq_some_iff.1 HY_V1.out).1).trans HY_V1.out
        have cH_U1 : U1.heap[EH]? = some (.cells #[.int .i64 (x : Int), .int .i64 (y : Int)] 23) := (hR5.block (EH) (Array.getElem?_eq_some_iff.1 HH_V1.out).1).trans HH_V1.out
        have hw_U1 : Below D w U1 := hw_V1.trans (hR5.mono (by have := hw_V1.size; first | omega | (simp; omega)))
        clear hj5 hL5 hR5 hw_V1 d6_U1 d7_U1 hV1 GG_V1 PV_V1 HX_V1 HY_V1 HH_V1
        obtain ⟨V2, hV2⟩ : ∃ V, U1 = V := ⟨_, rfl⟩
        have hw_V2 : Below D w V2 := by rw [← hV2]; exact hw_U1
        have HX_V2 := Lib.hid (show V2.heap[D]? = some (.cells #[.int .i64 (a : Int), .int .i64 (b : Int)] 23) by rw [← hV2]; exact cX_U1)
        have HY_V2 := Lib.hid (show V2.heap[D + 1]? = some (.cells #[.int .i64 c, .int .i64 d] 23) by rw [← hV2]; exact cY_U1)
        have HH_V2 := Lib.hid (show V2.heap[EH]? = some (.cells #[.int .i64 (x : Int), .int .i64 (y : Int)] 23) by rw [← hV2]; exact cH_U1)
        have PV_V2 : Pg V2 := P.below (by first | exact hw_V2 | (rw [hD]; exact hw_V2))
        have GG_V2 := Lib.hid (fun (W : World) (h : Below V2.heap.size V2 W) => PV_V2.below h)
        clear cX_U1 cY_U1 cH_U1 hw_U1
        go_upto_region 9 with fail
        try rw [hV2]
        refine wp_region_slots_at rfl rfl (fun base ys => (((((((base.set 74 (ys 0)).set 75 (ys 1)).set 76 (ys 2)).set 73 (ys 3)).set 77 (ys 4)).set 78 (ys 5)).set 16 (ys 6)).set 17 (ys 7)) (BelowI _ (fun A => Below V2.heap.size V2 A) (tn9c c d r)) (fun _ => undef) (by kernel_rfl) (below_start (R := fun A => Below V2.heap.size V2 A) ⟨rfl, rfl, rfl, Nat.le_refl _, fun _ _ => rfl⟩) ?h
        case h =>
          intro FF hFF
          simp only [List.set_cons_succ, List.set_cons_zero] at hFF
          subst hFF
          refine ⟨rfl, ?_, ?_⟩
          refine ⟨?_, ?_⟩
          · refine SlotStep.below (fun A B hb h => h.trans (hb.mono h.size)) (tn9c_up c d r) ?_
            intro ys W hR hd K hK
            have hl := (hR.block (D + 1) (Array.getElem?_eq_some_iff.1 HY_V2.out).1).trans HY_V2.out
            have c0 := cell2_0 hl
            have c1 := cell2_1 hl
            go_simp
            have hK2 := hK (.agg #[.int .i64 c, .int .i64 d]) _ (Below.refl _ _) rfl
            simp (config := { decide := true }) only [upd, if_true, if_false] at hK2
            exact hK2
          refine ⟨?_, ?_⟩
          · refine SlotStep.below (fun A B hb h => h.trans (hb.mono h.size)) (tn9c_up c d r) ?_
            intro ys W hR hd K hK
            go_simp
            refine (F81.out _).mono ?_
            rintro e w5 ⟨rfl, hb5⟩
            have hK2 := hK (.agg #[.int .i64 8, .int .i64 1]) _ hb5 rfl
            simp (config := { decide := true }) only [upd, if_true, if_false] at hK2
            exact hK2
          refine ⟨?_, ?_⟩
          · refine SlotStep.below (fun A B hb h => h.trans (hb.mono h.size)) (tn9c_up c d r) ?_
            intro ys W hR hd K hK
            have dd0 : ys 0 = (.agg #[.int .i64 c, .int .i64 d]) := hd 0 (by kernel_rfl) (by decide)
            have dd1 : ys 1 = (.agg #[.int .i64 8, .int .i64 1]) := hd 1 (by kernel_rfl) (by decide)
            go_simp
            refine (SV.out _ (GG_V2.out W hR).gi).mono ?_
            rintro e w5 ⟨rfl, hb5⟩
            have hK2 := hK (.tuple #[.int .i64 r, .int .i64 0]) _ hb5 rfl
            simp (config := { decide := true }) only [upd, if_true, if_false, dd0, dd1] at hK2
            exact hK2
          refine ⟨?_, ?_⟩
          · refine SlotStep.below (fun A B hb h => h.trans (hb.mono h.size)) (tn9c_up c d r) ?_
            intro ys W hR hd K hK
            have dd2 : ys 2 = (.tuple #[.int .i64 r, .int .i64 0]) := hd 2 (by kernel_rfl) (by decide)
            go_simp
            have hK2 := hK (.tuple #[.int .i64 r, .int .i64 0]) _ (Below.refl _ _) rfl
            simp (config := { decide := true }) only [upd, if_true, if_false, dd2] at hK2
            exact hK2
          refine ⟨?_, ?_⟩
          · refine SlotStep.below (fun A B hb h => h.trans (hb.mono h.size)) (tn9c_up c d r) ?_
            intro ys W hR hd K hK
            have dd3 : ys 3 = (.tuple #[.int .i64 r, .int .i64 0]) := hd 3 (by kernel_rfl) (by decide)
            go_simp
            have hK2 := hK (.int .i64 r) _ (Below.refl _ _) rfl
            simp (config := { decide := true }) only [upd, if_true, if_false, dd3] at hK2
            exact hK2
          refine ⟨?_, ?_⟩
          · refine SlotStep.below (fun A B hb h => h.trans (hb.mono h.size)) (tn9c_up c d r) ?_
            intro ys W hR hd K hK
            have dd3 : ys 3 = (.tuple #[.int .i64 r, .int .i64 0]) := hd 3 (by kernel_rfl) (by decide)
            go_simp
            have hK2 := hK (.int .i64 0) _ (Below.refl _ _) rfl
            simp (config := { decide := true }) only [upd, if_true, if_false, dd3] at hK2
            exact hK2
          refine ⟨?_, ?_⟩
          · refine SlotStep.below (fun A B hb h => h.trans (hb.mono h.size)) (tn9c_up c d r) ?_
            intro ys W hR hd K hK
            have dd4 : ys 4 = (.int .i64 r) := hd 4 (by kernel_rfl) (by decide)
            go_simp
            have hK2 := hK (.int .i64 r) _ (Below.refl _ _) rfl
            simp (config := { decide := true }) only [upd, if_true, if_false, dd4] at hK2
            exact hK2
          refine ⟨?_, ?_⟩
          · refine SlotStep.below (fun A B hb h => h.trans (hb.mono h.size)) (tn9c_up c d r) ?_
            intro ys W hR hd K hK
            have dd5 : ys 5 = (.int .i64 0) := hd 5 (by kernel_rfl) (by decide)
            go_simp
            have hK2 := hK (.int .i64 0) _ (Below.refl _ _) rfl
            simp (config := { decide := true }) only [upd, if_true, if_false, dd5] at hK2
            exact hK2
          trivial
          · intro L5 ys5 U2 hL5 hI5
            obtain ⟨hR5, hj5⟩ := hI5
            have d6_U2 : ys5 6 = (.int .i64 r) := hj5 6 (by decide) (hL5 6 (by decide))
            have d7_U2 : ys5 7 = (.int .i64 0) := hj5 7 (by decide) (hL5 7 (by decide))
            simp only [d6_U2, d7_U2]
            have cX_U2 : U2.heap[D]? = some (.cells #[.int .i64 (a : Int), .int .i64 (b : Int)] 23) := (hR5.block (D) (Array.getElem?_eq_some_iff.1 HX_V2.out).1).trans HX_V2.out
            have cY_U2 : U2.heap[D + 1]? = some (.cells #[.int .i64 c, .int .i64 d] 23) := (hR5.block (D + 1) (Array.getElem?_eq_some_iff.1 HY_V2.out).1).trans HY_V2.out
            have cH_U2 : U2.heap[EH]? = some (.cells #[.int .i64 (x : Int), .int .i64 (y : Int)] 23) := (hR5.block (EH) (Array.getElem?_eq_some_iff.1 HH_V2.out).1).trans HH_V2.out
            have hw_U2 : Below D w U2 := hw_V2.trans (hR5.mono (by have := hw_V2.size; first | omega | (simp; omega)))
            clear hj5 hL5 hR5 hw_V2 d6_U2 d7_U2 hV2 GG_V2 PV_V2 HX_V2 HY_V2 HH_V2
            have ld19 : U2.heap[EH]? = some (.cells #[.int .i64 (x : Int), .int .i64 (y : Int)] 23) := cH_U2
            have y19_0 := cell2_0 ld19
            have y19_1 := cell2_1 ld19
            clear ld19
            go_wp2_with fail
            refine (CH3.out _).mono ?_
            rintro e v20 ⟨rfl, hb_v20⟩
            have hs_v20 := hw_U2.size
            have cX_v20 : v20.heap[D]? = some (.cells #[.int .i64 (a : Int), .int .i64 (b : Int)] 23) := (hb_v20.block (D) (Array.getElem?_eq_some_iff.1 (show U2.heap[D]? = some (.cells #[.int .i64 (a : Int), .int .i64 (b : Int)] 23) from cX_U2)).1).trans cX_U2
            have cY_v20 : v20.heap[D + 1]? = some (.cells #[.int .i64 c, .int .i64 d] 23) := (hb_v20.block (D + 1) (Array.getElem?_eq_some_iff.1 (show U2.heap[D + 1]? = some (.cells #[.int .i64 c, .int .i64 d] 23) from cY_U2)).1).trans cY_U2
            have cH_v20 : v20.heap[EH]? = some (.cells #[.int .i64 (x : Int), .int .i64 (y : Int)] 23) := (hb_v20.block (EH) (Array.getElem?_eq_some_iff.1 (show U2.heap[EH]? = some (.cells #[.int .i64 (x : Int), .int .i64 (y : Int)] 23) from cH_U2)).1).trans cH_U2
            have hw_v20 : Below D w v20 := (hw_U2).trans (hb_v20.mono (by first | omega | (simp; omega)))
            clear cX_U2 cY_U2 cH_U2 hb_v20 y19_0 y19_1 hw_U2 hs_v20
            by_cases hz0 : z = 0
            · subst hz0
              have SZ0 := Lib.hid (SZ.out rfl)
              have CX0 := Lib.hid (CX.out rfl)
              have ld21 : v20.heap[EH]? = some (.cells #[.int .i64 (x : Int), .int .i64 (y : Int)] 23) := cH_v20
              have y21_0 := cell2_0 ld21
              have y21_1 := cell2_1 ld21
              clear ld21
              have ld22 : v20.heap[D + 1]? = some (.cells #[.int .i64 c, .int .i64 d] 23) := cY_v20
              have y22_0 := cell2_0 ld22
              have y22_1 := cell2_1 ld22
              clear ld22
              have P23 : Pg v20 := P.below (by first | exact hw_v20 | (rw [hD]; exact hw_v20))
              go_wp2_with fail
              refine (SZ0.out _ P23.gi).mono ?_
              rintro e v23 ⟨rfl, hb_v23⟩
              have hs_v23 := hw_v20.size
              have cX_v23 : v23.heap[D]? = some (.cells #[.int .i64 (a : Int), .int .i64 (b : Int)] 23) := (hb_v23.block (D) (Array.getElem?_eq_some_iff.1 (show v20.heap[D]? = some (.cells #[.int .i64 (a : Int), .int .i64 (b : Int)] 23) from cX_v20)).1).trans cX_v20
              have cY_v23 : v23.heap[D + 1]? = some (.cells #[.int .i64 c, .int .i64 d] 23) := (hb_v23.block (D + 1) (Array.getElem?_eq_some_iff.1 (show v20.heap[D + 1]? = some (.cells #[.int .i64 c, .int .i64 d] 23) from cY_v20)).1).trans cY_v20
              have cH_v23 : v23.heap[EH]? = some (.cells #[.int .i64 (x : Int), .int .i64 (y : Int)] 23) := (hb_v23.block (EH) (Array.getElem?_eq_some_iff.1 (show v20.heap[EH]? = some (.cells #[.int .i64 (x : Int), .int .i64 (y : Int)] 23) from cH_v20)).1).trans cH_v20
              have hw_v23 : Below D w v23 := (hw_v20).trans (hb_v23.mono (by first | omega | (simp; omega)))
              clear cX_v20 cY_v20 cH_v20 hb_v23 y21_0 y21_1 y22_0 y22_1 hw_v20 hs_v23
              have ld24 : v23.heap[D]? = some (.cells #[.int .i64 (a : Int), .int .i64 (b : Int)] 23) := cX_v23
              have y24_0 := cell2_0 ld24
              have y24_1 := cell2_1 ld24
              clear ld24
              have P24 : Pg v23 := P.below (by first | exact hw_v23 | (rw [hD]; exact hw_v23))
              go_wp2_with fail
              refine (CL.out _ P24).mono ?_
              rintro e v25 ⟨rfl, hb_v25⟩
              have hs_v25 := hw_v23.size
              have cX_v25 : v25.heap[D]? = some (.cells #[.int .i64 (a : Int), .int .i64 (b : Int)] 23) := (hb_v25.block (D) (Array.getElem?_eq_some_iff.1 (show v23.heap[D]? = some (.cells #[.int .i64 (a : Int), .int .i64 (b : Int)] 23) from cX_v23)).1).trans cX_v23
              have cY_v25 : v25.heap[D + 1]? = some (.cells #[.int .i64 c, .int .i64 d] 23) := (hb_v25.block (D + 1) (Array.getElem?_eq_some_iff.1 (show v23.heap[D + 1]? = some (.cells #[.int .i64 c, .int .i64 d] 23) from cY_v23)).1).trans cY_v23
              have cH_v25 : v25.heap[EH]? = some (.cells #[.int .i64 (x : Int), .int .i64 (y : Int)] 23) := (hb_v25.block (EH) (Array.getElem?_eq_some_iff.1 (show v23.heap[EH]? = some (.cells #[.int .i64 (x : Int), .int .i64 (y : Int)] 23) from cH_v23)).1).trans cH_v23
              have hw_v25 : Below D w v25 := (hw_v23).trans (hb_v25.mono (by first | omega | (simp; omega)))
              clear cX_v23 cY_v23 cH_v23 hb_v25 y24_0 y24_1 hw_v23 hs_v25
              have ld26 : v25.heap[EH]? = some (.cells #[.int .i64 (x : Int), .int .i64 (y : Int)] 23) := cH_v25
              have y26_0 := cell2_0 ld26
              have y26_1 := cell2_1 ld26
              clear ld26
              have P25 : Pg v25 := P.below (by first | exact hw_v25 | (rw [hD]; exact hw_v25))
              go_wp2_with fail
              refine (CX0.out _ P25).mono ?_
              rintro e v27 ⟨rfl, hb_v27⟩
              have hs_v27 := hw_v25.size
              have cX_v27 : v27.heap[D]? = some (.cells #[.int .i64 (a : Int), .int .i64 (b : Int)] 23) := (hb_v27.block (D) (Array.getElem?_eq_some_iff.1 (show v25.heap[D]? = some (.cells #[.int .i64 (a : Int), .int .i64 (b : Int)] 23) from cX_v25)).1).trans cX_v25
              have cY_v27 : v27.heap[D + 1]? = some (.cells #[.int .i64 c, .int .i64 d] 23) := (hb_v27.block (D + 1) (Array.getElem?_eq_some_iff.1 (show v25.heap[D + 1]? = some (.cells #[.int .i64 c, .int .i64 d] 23) from cY_v25)).1).trans cY_v25
              have cH_v27 : v27.heap[EH]? = some (.cells #[.int .i64 (x : Int), .int .i64 (y : Int)] 23) := (hb_v27.block (EH) (Array.getElem?_eq_some_iff.1 (show v25.heap[EH]? = some (.cells #[.int .i64 (x : Int), .int .i64 (y : Int)] 23) from cH_v25)).1).trans cH_v25
              have hw_v27 : Below D w v27 := (hw_v25).trans (hb_v27.mono (by first | omega | (simp; omega)))
              clear cX_v25 cY_v25 cH_v25 hb_v27 y26_0 y26_1 hw_v25 hs_v27
              have HW := Lib.hid (hw_v27)
              go_wp2
              go_ret
              exact ⟨rfl, by first | exact HW.out | (rw [hD]; exact HW.out)⟩
            · skip
              have HW := Lib.hid (hw_v20)
              go_wp2
              go_ret
              exact ⟨rfl, by first | exact HW.out | (rw [hD]; exact HW.out)⟩

theorem turns_law (a b c d : Int) (w : World) (P : Pg w) : Calls Tryz.prog 8 #[.agg #[.int .i64 a, .int .i64 b], .agg #[.int .i64 c, .int .i64 d]] w fun e w' => e = .returned (.bool true) ∧ Below w.heap.size w w' := by
  by_cases h1 : pk a b = 0
  · by_cases h2 : pk c d = 0
    · obtain ⟨_, k1, k2, k3, k4, _⟩ := pk_ok h1
      obtain ⟨n, rfl⟩ : ∃ n : Nat, a = n := ⟨a.toNat, by omega⟩
      obtain ⟨m, rfl⟩ : ∃ n : Nat, b = n := ⟨b.toNat, by omega⟩
      exact turns_ok n m c d h1 h2 w P
    · exact turns_bad2 a b c d h1 h2 w P
  · exact turns_bad1 a b c d h1 w P
end Go.Proofs.YtkoljddejjfbiaaGreatDoor
