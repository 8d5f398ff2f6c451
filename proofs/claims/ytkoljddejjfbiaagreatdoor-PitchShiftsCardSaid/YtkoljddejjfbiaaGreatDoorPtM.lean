/- The walk of PitchShifts. -/
import Derived.Test.YtkoljddejjfbiaaGreatDoorPtJ
namespace Go.Proofs.YtkoljddejjfbiaaGreatDoor
open Go Go.RowKit Go.Shelf


set_option maxRecDepth 100000 in
set_option maxHeartbeats 8000000 in
theorem shifts_bad1 (a b c d : Int) (h : ¬ pk a b = 0) (w : World) (P : Pg w) : Calls Tryz.prog 4 #[.agg #[.int .i64 a, .int .i64 b], .agg #[.int .i64 c, .int .i64 d]] w fun e w' => e = .returned (.bool true) ∧ Below w.heap.size w w' := by
  have KN := Lib.hid (fun W P => pknown_c W P)
  have CH := Lib.hid (fun W => lcheck_any a b W)
  obtain ⟨z, hz⟩ : ∃ z, pk a b = z := ⟨_, rfl⟩
  rw [hz] at CH h
  clear hz
  obtain ⟨D, hD⟩ : ∃ D, w.heap.size = D := ⟨_, rfl⟩
  go_enter Tryz.func4, Tryz.ntmps4
  have P1 : Pg ((w.alloc (.cells #[.int .i64 a, .int .i64 b] 23)).alloc (.cells #[.int .i64 c, .int .i64 d] 23)) := P.below (by first | exact (((Below.refl _ w).alloc (by first | omega | (simp; omega)) (.cells #[.int .i64 a, .int .i64 b] 23)).alloc (by first | omega | (simp; omega)) (.cells #[.int .i64 c, .int .i64 d] 23)) | (rw [hD]; exact (((Below.refl _ w).alloc (by first | omega | (simp; omega)) (.cells #[.int .i64 a, .int .i64 b] 23)).alloc (by first | omega | (simp; omega)) (.cells #[.int .i64 c, .int .i64 d] 23))))
  go_wp2_with fail
  refine (KN.out _ P1).mono ?_
  rintro e v1 ⟨rfl, hb_v1⟩
  have cX_v1 : v1.heap[D]? = some (.cells #[.int .i64 a, .int .i64 b] 23) := (hb_v1.block (D) (Array.getElem?_eq_some_iff.1 (show ((w.alloc (.cells #[.int .i64 a, .int .i64 b] 23)).alloc (.cells #[.int .i64 c, .int .i64 d] 23)).heap[D]? = some (.cells #[.int .i64 a, .int .i64 b] 23) from (heap_old (o := .cells #[.int .i64 c, .int .i64 d] 23) (heap_new (by first | omega | (simp; omega)))))).1).trans (heap_old (o := .cells #[.int .i64 c, .int .i64 d] 23) (heap_new (by first | omega | (simp; omega))))
  have cY_v1 : v1.heap[D + 1]? = some (.cells #[.int .i64 c, .int .i64 d] 23) := (hb_v1.block (D + 1) (Array.getElem?_eq_some_iff.1 (show ((w.alloc (.cells #[.int .i64 a, .int .i64 b] 23)).alloc (.cells #[.int .i64 c, .int .i64 d] 23)).heap[D + 1]? = some (.cells #[.int .i64 c, .int .i64 d] 23) from (heap_new (by first | omega | (simp; omega))))).1).trans (heap_new (by first | omega | (simp; omega)))
  have hw_v1 : Below D w v1 := ((((Below.refl _ w).alloc (by first | omega | (simp; omega)) (.cells #[.int .i64 a, .int .i64 b] 23)).alloc (by first | omega | (simp; omega)) (.cells #[.int .i64 c, .int .i64 d] 23))).trans (hb_v1.mono (by first | omega | (simp; omega)))
  clear hb_v1
  have ld2 : v1.heap[D]? = some (.cells #[.int .i64 a, .int .i64 b] 23) := cX_v1
  have y2_0 := cell2_0 ld2
  have y2_1 := cell2_1 ld2
  clear ld2
  go_wp2_with fail
  refine (CH.out _).mono ?_
  rintro e v3 ⟨rfl, hb_v3⟩
  have hs_v3 := hw_v1.size
  have cX_v3 : v3.heap[D]? = some (.cells #[.int .i64 a, .int .i64 b] 23) := (hb_v3.block (D) (Array.getElem?_eq_some_iff.1 (show v1.heap[D]? = some (.cells #[.int .i64 a, .int .i64 b] 23) from cX_v1)).1).trans cX_v1
  have cY_v3 : v3.heap[D + 1]? = some (.cells #[.int .i64 c, .int .i64 d] 23) := (hb_v3.block (D + 1) (Array.getElem?_eq_some_iff.1 (show v1.heap[D + 1]? = some (.cells #[.int .i64 c, .int .i64 d] 23) from cY_v1)).1).trans cY_v1
  have hw_v3 : Below D w v3 := (hw_v1).trans (hb_v3.mono (by first | omega | (simp; omega)))
  clear cX_v1 cY_v1 hb_v3 y2_0 y2_1 hw_v1 hs_v3
  have P2 : Pg v3 := P.below (by first | exact hw_v3 | (rw [hD]; exact hw_v3))
  go_wp2_with fail
  refine (KN.out _ P2).mono ?_
  rintro e v4 ⟨rfl, hb_v4⟩
  have hs_v4 := hw_v3.size
  have cX_v4 : v4.heap[D]? = some (.cells #[.int .i64 a, .int .i64 b] 23) := (hb_v4.block (D) (Array.getElem?_eq_some_iff.1 (show v3.heap[D]? = some (.cells #[.int .i64 a, .int .i64 b] 23) from cX_v3)).1).trans cX_v3
  have cY_v4 : v4.heap[D + 1]? = some (.cells #[.int .i64 c, .int .i64 d] 23) := (hb_v4.block (D + 1) (Array.getElem?_eq_some_iff.1 (show v3.heap[D + 1]? = some (.cells #[.int .i64 c, .int .i64 d] 23) from cY_v3)).1).trans cY_v3
  have hw_v4 : Below D w v4 := (hw_v3).trans (hb_v4.mono (by first | omega | (simp; omega)))
  clear cX_v3 cY_v3 hb_v4 hw_v3 hs_v4
  have HW := Lib.hid (hw_v4)
  go_wp2
  go_ret
  exact ⟨rfl, by first | exact HW.out | (rw [hD]; exact HW.out)⟩

set_option maxRecDepth 100000 in
set_option maxHeartbeats 8000000 in
theorem shifts_bad2 (a b c d : Int) (h1 : pk a b = 0) (h : ¬ pk c d = 0) (w : World) (P : Pg w) : Calls Tryz.prog 4 #[.agg #[.int .i64 a, .int .i64 b], .agg #[.int .i64 c, .int .i64 d]] w fun e w' => e = .returned (.bool true) ∧ Below w.heap.size w w' := by
  have KN := Lib.hid (fun W P => pknown_c W P)
  have CH := Lib.hid (fun W => lcheck_any a b W)
  have CH2 := Lib.hid (fun W => lcheck_any c d W)
  rw [h1] at CH
  obtain ⟨z, hz⟩ : ∃ z, pk c d = z := ⟨_, rfl⟩
  rw [hz] at CH2 h
  clear hz
  obtain ⟨D, hD⟩ : ∃ D, w.heap.size = D := ⟨_, rfl⟩
  go_enter Tryz.func4, Tryz.ntmps4
  have P3 : Pg ((w.alloc (.cells #[.int .i64 a, .int .i64 b] 23)).alloc (.cells #[.int .i64 c, .int .i64 d] 23)) := P.below (by first | exact (((Below.refl _ w).alloc (by first | omega | (simp; omega)) (.cells #[.int .i64 a, .int .i64 b] 23)).alloc (by first | omega | (simp; omega)) (.cells #[.int .i64 c, .int .i64 d] 23)) | (rw [hD]; exact (((Below.refl _ w).alloc (by first | omega | (simp; omega)) (.cells #[.int .i64 a, .int .i64 b] 23)).alloc (by first | omega | (simp; omega)) (.cells #[.int .i64 c, .int .i64 d] 23))))
  go_wp2_with fail
  refine (KN.out _ P3).mono ?_
  rintro e v1 ⟨rfl, hb_v1⟩
  have cX_v1 : v1.heap[D]? = some (.cells #[.int .i64 a, .int .i64 b] 23) := (hb_v1.block (D) (Array.getElem?_eq_some_iff.1 (show ((w.alloc (.cells #[.int .i64 a, .int .i64 b] 23)).alloc (.cells #[.int .i64 c, .int .i64 d] 23)).heap[D]? = some (.cells #[.int .i64 a, .int .i64 b] 23) from (heap_old (o := .cells #[.int .i64 c, .int .i64 d] 23) (heap_new (by first | omega | (simp; omega)))))).1).trans (heap_old (o := .cells #[.int .i64 c, .int .i64 d] 23) (heap_new (by first | omega | (simp; omega))))
  have cY_v1 : v1.heap[D + 1]? = some (.cells #[.int .i64 c, .int .i64 d] 23) := (hb_v1.block (D + 1) (Array.getElem?_eq_some_iff.1 (show ((w.alloc (.cells #[.int .i64 a, .int .i64 b] 23)).alloc (.cells #[.int .i64 c, .int .i64 d] 23)).heap[D + 1]? = some (.cells #[.int .i64 c, .int .i64 d] 23) from (heap_new (by first | omega | (simp; omega))))).1).trans (heap_new (by first | omega | (simp; omega)))
  have hw_v1 : Below D w v1 := ((((Below.refl _ w).alloc (by first | omega | (simp; omega)) (.cells #[.int .i64 a, .int .i64 b] 23)).alloc (by first | omega | (simp; omega)) (.cells #[.int .i64 c, .int .i64 d] 23))).trans (hb_v1.mono (by first | omega | (simp; omega)))
  clear hb_v1
  have ld2 : v1.heap[D]? = some (.cells #[.int .i64 a, .int .i64 b] 23) := cX_v1
  have y2_0 := cell2_0 ld2
  have y2_1 := cell2_1 ld2
  clear ld2
  go_wp2_with fail
  refine (CH.out _).mono ?_
  rintro e v3 ⟨rfl, hb_v3⟩
  have hs_v3 := hw_v1.size
  have cX_v3 : v3.heap[D]? = some (.cells #[.int .i64 a, .int .i64 b] 23) := (hb_v3.block (D) (Array.getElem?_eq_some_iff.1 (show v1.heap[D]? = some (.cells #[.int .i64 a, .int .i64 b] 23) from cX_v1)).1).trans cX_v1
  have cY_v3 : v3.heap[D + 1]? = some (.cells #[.int .i64 c, .int .i64 d] 23) := (hb_v3.block (D + 1) (Array.getElem?_eq_some_iff.1 (show v1.heap[D + 1]? = some (.cells #[.int .i64 c, .int .i64 d] 23) from cY_v1)).1).trans cY_v1
  have hw_v3 : Below D w v3 := (hw_v1).trans (hb_v3.mono (by first | omega | (simp; omega)))
  clear cX_v1 cY_v1 hb_v3 y2_0 y2_1 hw_v1 hs_v3
  have ld4 : v3.heap[D + 1]? = some (.cells #[.int .i64 c, .int .i64 d] 23) := cY_v3
  have y4_0 := cell2_0 ld4
  have y4_1 := cell2_1 ld4
  clear ld4
  go_wp2_with fail
  refine (CH2.out _).mono ?_
  rintro e v5 ⟨rfl, hb_v5⟩
  have hs_v5 := hw_v3.size
  have cX_v5 : v5.heap[D]? = some (.cells #[.int .i64 a, .int .i64 b] 23) := (hb_v5.block (D) (Array.getElem?_eq_some_iff.1 (show v3.heap[D]? = some (.cells #[.int .i64 a, .int .i64 b] 23) from cX_v3)).1).trans cX_v3
  have cY_v5 : v5.heap[D + 1]? = some (.cells #[.int .i64 c, .int .i64 d] 23) := (hb_v5.block (D + 1) (Array.getElem?_eq_some_iff.1 (show v3.heap[D + 1]? = some (.cells #[.int .i64 c, .int .i64 d] 23) from cY_v3)).1).trans cY_v3
  have hw_v5 : Below D w v5 := (hw_v3).trans (hb_v5.mono (by first | omega | (simp; omega)))
  clear cX_v3 cY_v3 hb_v5 y4_0 y4_1 hw_v3 hs_v5
  have P4 : Pg v5 := P.below (by first | exact hw_v5 | (rw [hD]; exact hw_v5))
  go_wp2_with fail
  refine (KN.out _ P4).mono ?_
  rintro e v6 ⟨rfl, hb_v6⟩
  have hs_v6 := hw_v5.size
  have cX_v6 : v6.heap[D]? = some (.cells #[.int .i64 a, .int .i64 b] 23) := (hb_v6.block (D) (Array.getElem?_eq_some_iff.1 (show v5.heap[D]? = some (.cells #[.int .i64 a, .int .i64 b] 23) from cX_v5)).1).trans cX_v5
  have cY_v6 : v6.heap[D + 1]? = some (.cells #[.int .i64 c, .int .i64 d] 23) := (hb_v6.block (D + 1) (Array.getElem?_eq_some_iff.1 (show v5.heap[D + 1]? = some (.cells #[.int .i64 c, .int .i64 d] 23) from cY_v5)).1).trans cY_v5
  have hw_v6 : Below D w v6 := (hw_v5).trans (hb_v6.mono (by first | omega | (simp; omega)))
  clear cX_v5 cY_v5 hb_v6 hw_v5 hs_v6
  have HW := Lib.hid (hw_v6)
  go_wp2
  go_ret
  exact ⟨rfl, by first | exact HW.out | (rw [hD]; exact HW.out)⟩

set_option maxRecDepth 100000 in
set_option maxHeartbeats 16000000 in
theorem shifts_ok (a b c d : Int) (h1 : pk a b = 0) (h2 : pk c d = 0) (w : World) (P : Pg w) : Calls Tryz.prog 4 #[.agg #[.int .i64 a, .int .i64 b], .agg #[.int .i64 c, .int .i64 d]] w fun e w' => e = .returned (.bool true) ∧ Below w.heap.size w w' := by
  obtain ⟨m1, m2⟩ := pr_bd h1 h2
  obtain ⟨m3, m4⟩ : 0 < d * a ∧ d * a ≤ 2097152 := by rw [Int.mul_comm]; exact pr_bd h2 h1
  have wx := wrap_in (q := c * b) (by omega) (by omega)
  have wy := wrap_in (q := d * a) (by omega) (by omega)
  obtain ⟨s, hs⟩ : ∃ s, ShI (c * b) (d * a) s := shi_ex m1 m3
  obtain ⟨i, j, ho⟩ := Pt.oct_ex (show 0 < (c * b).toNat by omega) (show 0 < (d * a).toNat by omega)
  obtain ⟨x, y, g, ex, ey, hg, hx, hy, ep, eq, hc⟩ := low_of m1 m3
  have hxi := exact_iff ho hg (show (c * b).toNat = x * g by omega) (show (d * a).toNat = y * g by omega) hx hy hc
  have hcm := cmp_low hg ep eq
  have bx : x ≤ 2097152 := Nat.le_trans (Nat.le_mul_of_pos_right x hg) (by omega)
  have bY : y ≤ 2097152 := Nat.le_trans (Nat.le_mul_of_pos_right y hg) (by omega)
  have KN := Lib.hid (fun W P => pknown_c W P)
  have CH := Lib.hid (fun W => lcheck_any a b W)
  have CH2 := Lib.hid (fun W => lcheck_any c d W)
  rw [h1] at CH
  rw [h2] at CH2
  have SH := Lib.hid (fun W G => pshift_ok a b c d s h1 h2 hs W G)
  have EX := Lib.hid (fun W => pexact_ok a b c d i j h1 h2 ho W)
  have CM := Lib.hid (fun W => pcompare_ok a b c d h1 h2 W)
  rw [show a * d = d * a from Int.mul_comm a d] at CM
  have FF := Lib.hid (fun W => lf_any (c * b) (d * a) W (by omega) (by omega) m3 (by omega) x y ex ey)
  have LS := Lib.hid (fun W G => lshift_ok a b c d s h1 h2 hs W G)
  have OX := Lib.hid (fun W => lodd_any x hx (by omega) W)
  have OY := Lib.hid (fun W => lodd_any y hy (by omega) W)
  obtain ⟨m, hm⟩ : ∃ m, FracMath.cmpI (c * b) (d * a) = m := ⟨_, rfl⟩
  rw [hm] at CM hcm
  obtain ⟨v, hv⟩ : ∃ v, decide ((c * b).toNat * 2 ^ i = (d * a).toNat * 2 ^ j) = v := ⟨_, rfl⟩
  rw [hv] at EX
  have HV := Lib.hid (show v = decide (oddp x = 1 ∧ oddp y = 1) by rw [← hv]; simp only [hxi])
  obtain ⟨ox, hox⟩ : ∃ o, oddp x = o := ⟨_, rfl⟩
  obtain ⟨oy, hoy⟩ : ∃ o, oddp y = o := ⟨_, rfl⟩
  rw [hox] at OX
  rw [hoy] at OY
  rw [hox, hoy] at HV
  obtain ⟨p, hp⟩ : ∃ p, c * b = p := ⟨_, rfl⟩
  obtain ⟨q, hq⟩ : ∃ q, d * a = q := ⟨_, rfl⟩
  have HP := Lib.hid hp
  have HQ := Lib.hid hq
  rw [hp] at wx
  rw [hq] at wy
  rw [hp, hq] at FF
  clear hs ho hxi ex ey ep eq hc hm hv hox hoy h1 h2 hp hq m1 m2 m3 m4 hg hx hy
  obtain ⟨D, hD⟩ : ∃ D, w.heap.size = D := ⟨_, rfl⟩
  rcases (show (x = y ∧ m = 0) ∨ (x < y ∧ m = -1) ∨ (¬ x = y ∧ ¬ x < y ∧ m = 1) by
    by_cases e1 : x = y
    · exact .inl ⟨e1, by rw [hcm, if_pos e1]⟩
    · by_cases e2 : x < y
      · exact .inr (.inl ⟨e2, by rw [hcm, if_neg e1, if_pos e2]⟩)
      · exact .inr (.inr ⟨e1, e2, by rw [hcm, if_neg e1, if_neg e2]⟩)) with ⟨rfl, rfl⟩ | ⟨hlt, rfl⟩ | ⟨hne, hge, rfl⟩
  · clear hcm
    by_cases g1 : ox = 1
    · subst g1
      by_cases g2 : oy = 1
      · subst g2
        obtain rfl : v = true := by rw [HV.out]; rfl
        go_enter Tryz.func4, Tryz.ntmps4
        have P5 : Pg ((w.alloc (.cells #[.int .i64 a, .int .i64 b] 23)).alloc (.cells #[.int .i64 c, .int .i64 d] 23)) := P.below (by first | exact (((Below.refl _ w).alloc (by first | omega | (simp; omega)) (.cells #[.int .i64 a, .int .i64 b] 23)).alloc (by first | omega | (simp; omega)) (.cells #[.int .i64 c, .int .i64 d] 23)) | (rw [hD]; exact (((Below.refl _ w).alloc (by first | omega | (simp; omega)) (.cells #[.int .i64 a, .int .i64 b] 23)).alloc (by first | omega | (simp; omega)) (.cells #[.int .i64 c, .int .i64 d] 23))))
        go_wp2_with fail
        refine (KN.out _ P5).mono ?_
        rintro e v1 ⟨rfl, hb_v1⟩
        have cX_v1 : v1.heap[D]? = some (.cells #[.int .i64 a, .int .i64 b] 23) := (hb_v1.block (D) (Array.getElem?_eq_some_iff.1 (show ((w.alloc (.cells #[.int .i64 a, .int .i64 b] 23)).alloc (.cells #[.int .i64 c, .int .i64 d] 23)).heap[D]? = some (.cells #[.int .i64 a, .int .i64 b] 23) from (heap_old (o := .cells #[.int .i64 c, .int .i64 d] 23) (heap_new (by first | omega | (simp; omega)))))).1).trans (heap_old (o := .cells #[.int .i64 c, .int .i64 d] 23) (heap_new (by first | omega | (simp; omega))))
        have cY_v1 : v1.heap[D + 1]? = some (.cells #[.int .i64 c, .int .i64 d] 23) := (hb_v1.block (D + 1) (Array.getElem?_eq_some_iff.1 (show ((w.alloc (.cells #[.int .i64 a, .int .i64 b] 23)).alloc (.cells #[.int .i64 c, .int .i64 d] 23)).heap[D + 1]? = some (.cells #[.int .i64 c, .int .i64 d] 23) from (heap_new (by first | omega | (simp; omega))))).1).trans (heap_new (by first | omega | (simp; omega)))
        have hw_v1 : Below D w v1 := ((((Below.refl _ w).alloc (by first | omega | (simp; omega)) (.cells #[.int .i64 a, .int .i64 b] 23)).alloc (by first | omega | (simp; omega)) (.cells #[.int .i64 c, .int .i64 d] 23))).trans (hb_v1.mono (by first | omega | (simp; omega)))
        clear hb_v1
        have ld2 : v1.heap[D]? = some (.cells #[.int .i64 a, .int .i64 b] 23) := cX_v1
        have y2_0 := cell2_0 ld2
        have y2_1 := cell2_1 ld2
        clear ld2
        go_wp2_with fail
        refine (CH.out _).mono ?_
        rintro e v3 ⟨rfl, hb_v3⟩
        have hs_v3 := hw_v1.size
        have cX_v3 : v3.heap[D]? = some (.cells #[.int .i64 a, .int .i64 b] 23) := (hb_v3.block (D) (Array.getElem?_eq_some_iff.1 (show v1.heap[D]? = some (.cells #[.int .i64 a, .int .i64 b] 23) from cX_v1)).1).trans cX_v1
        have cY_v3 : v3.heap[D + 1]? = some (.cells #[.int .i64 c, .int .i64 d] 23) := (hb_v3.block (D + 1) (Array.getElem?_eq_some_iff.1 (show v1.heap[D + 1]? = some (.cells #[.int .i64 c, .int .i64 d] 23) from cY_v1)).1).trans cY_v1
        have hw_v3 : Below D w v3 := (hw_v1).trans (hb_v3.mono (by first | omega | (simp; omega)))
        clear cX_v1 cY_v1 hb_v3 y2_0 y2_1 hw_v1 hs_v3
        have ld4 : v3.heap[D + 1]? = some (.cells #[.int .i64 c, .int .i64 d] 23) := cY_v3
        have y4_0 := cell2_0 ld4
        have y4_1 := cell2_1 ld4
        clear ld4
        go_wp2_with fail
        refine (CH2.out _).mono ?_
        rintro e v5 ⟨rfl, hb_v5⟩
        have hs_v5 := hw_v3.size
        have cX_v5 : v5.heap[D]? = some (.cells #[.int .i64 a, .int .i64 b] 23) := (hb_v5.block (D) (Array.getElem?_eq_some_iff.1 (show v3.heap[D]? = some (.cells #[.int .i64 a, .int .i64 b] 23) from cX_v3)).1).trans cX_v3
        have cY_v5 : v5.heap[D + 1]? = some (.cells #[.int .i64 c, .int .i64 d] 23) := (hb_v5.block (D + 1) (Array.getElem?_eq_some_iff.1 (show v3.heap[D + 1]? = some (.cells #[.int .i64 c, .int .i64 d] 23) from cY_v3)).1).trans cY_v3
        have hw_v5 : Below D w v5 := (hw_v3).trans (hb_v5.mono (by first | omega | (simp; omega)))
        clear cX_v3 cY_v3 hb_v5 y4_0 y4_1 hw_v3 hs_v5
        have ld6 : v5.heap[D]? = some (.cells #[.int .i64 a, .int .i64 b] 23) := cX_v5
        have y6_0 := cell2_0 ld6
        have y6_1 := cell2_1 ld6
        clear ld6
        have ld7 : v5.heap[D + 1]? = some (.cells #[.int .i64 c, .int .i64 d] 23) := cY_v5
        have y7_0 := cell2_0 ld7
        have y7_1 := cell2_1 ld7
        clear ld7
        have P6 : Pg v5 := P.below (by first | exact hw_v5 | (rw [hD]; exact hw_v5))
        go_wp2_with fail
        refine (SH.out _ P6.gi).mono ?_
        rintro e v8 ⟨rfl, hb_v8⟩
        have hs_v8 := hw_v5.size
        have cX_v8 : v8.heap[D]? = some (.cells #[.int .i64 a, .int .i64 b] 23) := (hb_v8.block (D) (Array.getElem?_eq_some_iff.1 (show v5.heap[D]? = some (.cells #[.int .i64 a, .int .i64 b] 23) from cX_v5)).1).trans cX_v5
        have cY_v8 : v8.heap[D + 1]? = some (.cells #[.int .i64 c, .int .i64 d] 23) := (hb_v8.block (D + 1) (Array.getElem?_eq_some_iff.1 (show v5.heap[D + 1]? = some (.cells #[.int .i64 c, .int .i64 d] 23) from cY_v5)).1).trans cY_v5
        have hw_v8 : Below D w v8 := (hw_v5).trans (hb_v8.mono (by first | omega | (simp; omega)))
        clear cX_v5 cY_v5 hb_v8 y6_0 y6_1 y7_0 y7_1 hw_v5 hs_v8
        have ld9 : v8.heap[D]? = some (.cells #[.int .i64 a, .int .i64 b] 23) := cX_v8
        have y9_0 := cell2_0 ld9
        have y9_1 := cell2_1 ld9
        clear ld9
        have ld10 : v8.heap[D + 1]? = some (.cells #[.int .i64 c, .int .i64 d] 23) := cY_v8
        have y10_0 := cell2_0 ld10
        have y10_1 := cell2_1 ld10
        clear ld10
        go_wp2_with fail
        refine (EX.out _).mono ?_
        rintro e v11 ⟨rfl, hb_v11⟩
        have hs_v11 := hw_v8.size
        have cX_v11 : v11.heap[D]? = some (.cells #[.int .i64 a, .int .i64 b] 23) := (hb_v11.block (D) (Array.getElem?_eq_some_iff.1 (show v8.heap[D]? = some (.cells #[.int .i64 a, .int .i64 b] 23) from cX_v8)).1).trans cX_v8
        have cY_v11 : v11.heap[D + 1]? = some (.cells #[.int .i64 c, .int .i64 d] 23) := (hb_v11.block (D + 1) (Array.getElem?_eq_some_iff.1 (show v8.heap[D + 1]? = some (.cells #[.int .i64 c, .int .i64 d] 23) from cY_v8)).1).trans cY_v8
        have hw_v11 : Below D w v11 := (hw_v8).trans (hb_v11.mono (by first | omega | (simp; omega)))
        clear cX_v8 cY_v8 hb_v11 y9_0 y9_1 y10_0 y10_1 hw_v8 hs_v11
        have ld12 : v11.heap[D]? = some (.cells #[.int .i64 a, .int .i64 b] 23) := cX_v11
        have y12_0 := cell2_0 ld12
        have y12_1 := cell2_1 ld12
        clear ld12
        have ld13 : v11.heap[D + 1]? = some (.cells #[.int .i64 c, .int .i64 d] 23) := cY_v11
        have y13_0 := cell2_0 ld13
        have y13_1 := cell2_1 ld13
        clear ld13
        go_wp2_with fail
        refine (CM.out _).mono ?_
        rintro e v14 ⟨rfl, hb_v14⟩
        have hs_v14 := hw_v11.size
        have cX_v14 : v14.heap[D]? = some (.cells #[.int .i64 a, .int .i64 b] 23) := (hb_v14.block (D) (Array.getElem?_eq_some_iff.1 (show v11.heap[D]? = some (.cells #[.int .i64 a, .int .i64 b] 23) from cX_v11)).1).trans cX_v11
        have cY_v14 : v14.heap[D + 1]? = some (.cells #[.int .i64 c, .int .i64 d] 23) := (hb_v14.block (D + 1) (Array.getElem?_eq_some_iff.1 (show v11.heap[D + 1]? = some (.cells #[.int .i64 c, .int .i64 d] 23) from cY_v11)).1).trans cY_v11
        have hw_v14 : Below D w v14 := (hw_v11).trans (hb_v14.mono (by first | omega | (simp; omega)))
        clear cX_v11 cY_v11 hb_v14 y12_0 y12_1 y13_0 y13_1 hw_v11 hs_v14
        have ld15 : v14.heap[D]? = some (.cells #[.int .i64 a, .int .i64 b] 23) := cX_v14
        have y15_0 := cell2_0 ld15
        have y15_1 := cell2_1 ld15
        clear ld15
        have ld16 : v14.heap[D + 1]? = some (.cells #[.int .i64 c, .int .i64 d] 23) := cY_v14
        have y16_0 := cell2_0 ld16
        have y16_1 := cell2_1 ld16
        clear ld16
        have eP : c * b = p := HP.out
        have eQ : d * a = q := HQ.out
        go_wp2_with fail
        refine (FF.out _).mono ?_
        rintro e v17 ⟨rfl, hb_v17⟩
        have hs_v17 := hw_v14.size
        have cX_v17 : v17.heap[D]? = some (.cells #[.int .i64 a, .int .i64 b] 23) := (hb_v17.block (D) (Array.getElem?_eq_some_iff.1 (show v14.heap[D]? = some (.cells #[.int .i64 a, .int .i64 b] 23) from cX_v14)).1).trans cX_v14
        have cY_v17 : v17.heap[D + 1]? = some (.cells #[.int .i64 c, .int .i64 d] 23) := (hb_v17.block (D + 1) (Array.getElem?_eq_some_iff.1 (show v14.heap[D + 1]? = some (.cells #[.int .i64 c, .int .i64 d] 23) from cY_v14)).1).trans cY_v14
        have hw_v17 : Below D w v17 := (hw_v14).trans (hb_v17.mono (by first | omega | (simp; omega)))
        clear cX_v14 cY_v14 hb_v17 y15_0 y15_1 y16_0 y16_1 eP eQ hw_v14 hs_v17
        obtain ⟨EQ, hEQ⟩ : ∃ E, v17.heap.size = E := ⟨_, rfl⟩
        have ld18 : (v17.alloc (.cells #[.int .i64 (x : Int), .int .i64 (x : Int)] 23)).heap[EQ]? = some (.cells #[.int .i64 (x : Int), .int .i64 (x : Int)] 23) := (heap_new (by first | omega | (simp; omega)))
        have y18_0 := cell2_0 ld18
        have y18_1 := cell2_1 ld18
        clear ld18
        have ld19 : (v17.alloc (.cells #[.int .i64 (x : Int), .int .i64 (x : Int)] 23)).heap[D]? = some (.cells #[.int .i64 a, .int .i64 b] 23) := (heap_old (o := .cells #[.int .i64 (x : Int), .int .i64 (x : Int)] 23) cX_v17)
        have y19_0 := cell2_0 ld19
        have y19_1 := cell2_1 ld19
        clear ld19
        have ld20 : (v17.alloc (.cells #[.int .i64 (x : Int), .int .i64 (x : Int)] 23)).heap[D + 1]? = some (.cells #[.int .i64 c, .int .i64 d] 23) := (heap_old (o := .cells #[.int .i64 (x : Int), .int .i64 (x : Int)] 23) cY_v17)
        have y20_0 := cell2_0 ld20
        have y20_1 := cell2_1 ld20
        clear ld20
        have P7 : Pg (v17.alloc (.cells #[.int .i64 (x : Int), .int .i64 (x : Int)] 23)) := P.below (by first | exact (hw_v17.alloc (by have := hw_v17.size; first | omega | (simp; omega)) (.cells #[.int .i64 (x : Int), .int .i64 (x : Int)] 23)) | (rw [hD]; exact (hw_v17.alloc (by have := hw_v17.size; first | omega | (simp; omega)) (.cells #[.int .i64 (x : Int), .int .i64 (x : Int)] 23))))
        go_wp2_with fail
        refine (LS.out _ P7.gi).mono ?_
        rintro e v21 ⟨rfl, hb_v21⟩
        have hs_v21 := hw_v17.size
        have cX_v21 : v21.heap[D]? = some (.cells #[.int .i64 a, .int .i64 b] 23) := (hb_v21.block (D) (Array.getElem?_eq_some_iff.1 (show (v17.alloc (.cells #[.int .i64 (x : Int), .int .i64 (x : Int)] 23)).heap[D]? = some (.cells #[.int .i64 a, .int .i64 b] 23) from (heap_old (o := .cells #[.int .i64 (x : Int), .int .i64 (x : Int)] 23) cX_v17))).1).trans (heap_old (o := .cells #[.int .i64 (x : Int), .int .i64 (x : Int)] 23) cX_v17)
        have cY_v21 : v21.heap[D + 1]? = some (.cells #[.int .i64 c, .int .i64 d] 23) := (hb_v21.block (D + 1) (Array.getElem?_eq_some_iff.1 (show (v17.alloc (.cells #[.int .i64 (x : Int), .int .i64 (x : Int)] 23)).heap[D + 1]? = some (.cells #[.int .i64 c, .int .i64 d] 23) from (heap_old (o := .cells #[.int .i64 (x : Int), .int .i64 (x : Int)] 23) cY_v17))).1).trans (heap_old (o := .cells #[.int .i64 (x : Int), .int .i64 (x : Int)] 23) cY_v17)
        have cQ_v21 : v21.heap[EQ]? = some (.cells #[.int .i64 (x : Int), .int .i64 (x : Int)] 23) := (hb_v21.block (EQ) (Array.getElem?_eq_some_iff.1 (show (v17.alloc (.cells #[.int .i64 (x : Int), .int .i64 (x : Int)] 23)).heap[EQ]? = some (.cells #[.int .i64 (x : Int), .int .i64 (x : Int)] 23) from (heap_new (by first | omega | (simp; omega))))).1).trans (heap_new (by first | omega | (simp; omega)))
        have hw_v21 : Below D w v21 := ((hw_v17.alloc (by have := hw_v17.size; first | omega | (simp; omega)) (.cells #[.int .i64 (x : Int), .int .i64 (x : Int)] 23))).trans (hb_v21.mono (by first | omega | (simp; omega)))
        clear cX_v17 cY_v17 hb_v21 y18_0 y18_1 y19_0 y19_1 y20_0 y20_1 hw_v17 hs_v21
        have ld22 : v21.heap[EQ]? = some (.cells #[.int .i64 (x : Int), .int .i64 (x : Int)] 23) := cQ_v21
        have y22_0 := cell2_0 ld22
        have y22_1 := cell2_1 ld22
        clear ld22
        have HW := Lib.hid (hw_v21)
        go_wp2_with fail
        refine (OX.out _).mono ?_
        rintro e wq ⟨rfl, rfl⟩
        go_wp2_with fail
        refine (OY.out _).mono ?_
        rintro e wp ⟨rfl, rfl⟩
        go_wp2
        go_ret
        exact ⟨rfl, by first | exact HW.out | (rw [hD]; exact HW.out)⟩
      · obtain rfl : v = false := by rw [HV.out]; simp [g2]
        have g3 : ¬ (oy : Int) = 1 := by omega
        have g4 : ((oy : Int) == 1) = false := by rw [beq_eq_false_iff_ne]; exact g3
        go_enter Tryz.func4, Tryz.ntmps4
        have P8 : Pg ((w.alloc (.cells #[.int .i64 a, .int .i64 b] 23)).alloc (.cells #[.int .i64 c, .int .i64 d] 23)) := P.below (by first | exact (((Below.refl _ w).alloc (by first | omega | (simp; omega)) (.cells #[.int .i64 a, .int .i64 b] 23)).alloc (by first | omega | (simp; omega)) (.cells #[.int .i64 c, .int .i64 d] 23)) | (rw [hD]; exact (((Below.refl _ w).alloc (by first | omega | (simp; omega)) (.cells #[.int .i64 a, .int .i64 b] 23)).alloc (by first | omega | (simp; omega)) (.cells #[.int .i64 c, .int .i64 d] 23))))
        go_wp2_with fail
        refine (KN.out _ P8).mono ?_
        rintro e v1 ⟨rfl, hb_v1⟩
        have cX_v1 : v1.heap[D]? = some (.cells #[.int .i64 a, .int .i64 b] 23) := (hb_v1.block (D) (Array.getElem?_eq_some_iff.1 (show ((w.alloc (.cells #[.int .i64 a, .int .i64 b] 23)).alloc (.cells #[.int .i64 c, .int .i64 d] 23)).heap[D]? = some (.cells #[.int .i64 a, .int .i64 b] 23) from (heap_old (o := .cells #[.int .i64 c, .int .i64 d] 23) (heap_new (by first | omega | (simp; omega)))))).1).trans (heap_old (o := .cells #[.int .i64 c, .int .i64 d] 23) (heap_new (by first | omega | (simp; omega))))
        have cY_v1 : v1.heap[D + 1]? = some (.cells #[.int .i64 c, .int .i64 d] 23) := (hb_v1.block (D + 1) (Array.getElem?_eq_some_iff.1 (show ((w.alloc (.cells #[.int .i64 a, .int .i64 b] 23)).alloc (.cells #[.int .i64 c, .int .i64 d] 23)).heap[D + 1]? = some (.cells #[.int .i64 c, .int .i64 d] 23) from (heap_new (by first | omega | (simp; omega))))).1).trans (heap_new (by first | omega | (simp; omega)))
        have hw_v1 : Below D w v1 := ((((Below.refl _ w).alloc (by first | omega | (simp; omega)) (.cells #[.int .i64 a, .int .i64 b] 23)).alloc (by first | omega | (simp; omega)) (.cells #[.int .i64 c, .int .i64 d] 23))).trans (hb_v1.mono (by first | omega | (simp; omega)))
        clear hb_v1
        have ld2 : v1.heap[D]? = some (.cells #[.int .i64 a, .int .i64 b] 23) := cX_v1
        have y2_0 := cell2_0 ld2
        have y2_1 := cell2_1 ld2
        clear ld2
        go_wp2_with fail
        refine (CH.out _).mono ?_
        rintro e v3 ⟨rfl, hb_v3⟩
        have hs_v3 := hw_v1.size
        have cX_v3 : v3.heap[D]? = some (.cells #[.int .i64 a, .int .i64 b] 23) := (hb_v3.block (D) (Array.getElem?_eq_some_iff.1 (show v1.heap[D]? = some (.cells #[.int .i64 a, .int .i64 b] 23) from cX_v1)).1).trans cX_v1
        have cY_v3 : v3.heap[D + 1]? = some (.cells #[.int .i64 c, .int .i64 d] 23) := (hb_v3.block (D + 1) (Array.getElem?_eq_some_iff.1 (show v1.heap[D + 1]? = some (.cells #[.int .i64 c, .int .i64 d] 23) from cY_v1)).1).trans cY_v1
        have hw_v3 : Below D w v3 := (hw_v1).trans (hb_v3.mono (by first | omega | (simp; omega)))
        clear cX_v1 cY_v1 hb_v3 y2_0 y2_1 hw_v1 hs_v3
        have ld4 : v3.heap[D + 1]? = some (.cells #[.int .i64 c, .int .i64 d] 23) := cY_v3
        have y4_0 := cell2_0 ld4
        have y4_1 := cell2_1 ld4
        clear ld4
        go_wp2_with fail
        refine (CH2.out _).mono ?_
        rintro e v5 ⟨rfl, hb_v5⟩
        have hs_v5 := hw_v3.size
        have cX_v5 : v5.heap[D]? = some (.cells #[.int .i64 a, .int .i64 b] 23) := (hb_v5.block (D) (Array.getElem?_eq_some_iff.1 (show v3.heap[D]? = some (.cells #[.int .i64 a, .int .i64 b] 23) from cX_v3)).1).trans cX_v3
        have cY_v5 : v5.heap[D + 1]? = some (.cells #[.int .i64 c, .int .i64 d] 23) := (hb_v5.block (D + 1) (Array.getElem?_eq_some_iff.1 (show v3.heap[D + 1]? = some (.cells #[.int .i64 c, .int .i64 d] 23) from cY_v3)).1).trans cY_v3
        have hw_v5 : Below D w v5 := (hw_v3).trans (hb_v5.mono (by first | omega | (simp; omega)))
        clear cX_v3 cY_v3 hb_v5 y4_0 y4_1 hw_v3 hs_v5
        have ld6 : v5.heap[D]? = some (.cells #[.int .i64 a, .int .i64 b] 23) := cX_v5
        have y6_0 := cell2_0 ld6
        have y6_1 := cell2_1 ld6
        clear ld6
        have ld7 : v5.heap[D + 1]? = some (.cells #[.int .i64 c, .int .i64 d] 23) := cY_v5
        have y7_0 := cell2_0 ld7
        have y7_1 := cell2_1 ld7
        clear ld7
        have P9 : Pg v5 := P.below (by first | exact hw_v5 | (rw [hD]; exact hw_v5))
        go_wp2_with fail
        refine (SH.out _ P9.gi).mono ?_
        rintro e v8 ⟨rfl, hb_v8⟩
        have hs_v8 := hw_v5.size
        have cX_v8 : v8.heap[D]? = some (.cells #[.int .i64 a, .int .i64 b] 23) := (hb_v8.block (D) (Array.getElem?_eq_some_iff.1 (show v5.heap[D]? = some (.cells #[.int .i64 a, .int .i64 b] 23) from cX_v5)).1).trans cX_v5
        have cY_v8 : v8.heap[D + 1]? = some (.cells #[.int .i64 c, .int .i64 d] 23) := (hb_v8.block (D + 1) (Array.getElem?_eq_some_iff.1 (show v5.heap[D + 1]? = some (.cells #[.int .i64 c, .int .i64 d] 23) from cY_v5)).1).trans cY_v5
        have hw_v8 : Below D w v8 := (hw_v5).trans (hb_v8.mono (by first | omega | (simp; omega)))
        clear cX_v5 cY_v5 hb_v8 y6_0 y6_1 y7_0 y7_1 hw_v5 hs_v8
        have ld9 : v8.heap[D]? = some (.cells #[.int .i64 a, .int .i64 b] 23) := cX_v8
        have y9_0 := cell2_0 ld9
        have y9_1 := cell2_1 ld9
        clear ld9
        have ld10 : v8.heap[D + 1]? = some (.cells #[.int .i64 c, .int .i64 d] 23) := cY_v8
        have y10_0 := cell2_0 ld10
        have y10_1 := cell2_1 ld10
        clear ld10
        go_wp2_with fail
        refine (EX.out _).mono ?_
        rintro e v11 ⟨rfl, hb_v11⟩
        have hs_v11 := hw_v8.size
        have cX_v11 : v11.heap[D]? = some (.cells #[.int .i64 a, .int .i64 b] 23) := (hb_v11.block (D) (Array.getElem?_eq_some_iff.1 (show v8.heap[D]? = some (.cells #[.int .i64 a, .int .i64 b] 23) from cX_v8)).1).trans cX_v8
        have cY_v11 : v11.heap[D + 1]? = some (.cells #[.int .i64 c, .int .i64 d] 23) := (hb_v11.block (D + 1) (Array.getElem?_eq_some_iff.1 (show v8.heap[D + 1]? = some (.cells #[.int .i64 c, .int .i64 d] 23) from cY_v8)).1).trans cY_v8
        have hw_v11 : Below D w v11 := (hw_v8).trans (hb_v11.mono (by first | omega | (simp; omega)))
        clear cX_v8 cY_v8 hb_v11 y9_0 y9_1 y10_0 y10_1 hw_v8 hs_v11
        have ld12 : v11.heap[D]? = some (.cells #[.int .i64 a, .int .i64 b] 23) := cX_v11
        have y12_0 := cell2_0 ld12
        have y12_1 := cell2_1 ld12
        clear ld12
        have ld13 : v11.heap[D + 1]? = some (.cells #[.int .i64 c, .int .i64 d] 23) := cY_v11
        have y13_0 := cell2_0 ld13
        have y13_1 := cell2_1 ld13
        clear ld13
        go_wp2_with fail
        refine (CM.out _).mono ?_
        rintro e v14 ⟨rfl, hb_v14⟩
        have hs_v14 := hw_v11.size
        have cX_v14 : v14.heap[D]? = some (.cells #[.int .i64 a, .int .i64 b] 23) := (hb_v14.block (D) (Array.getElem?_eq_some_iff.1 (show v11.heap[D]? = some (.cells #[.int .i64 a, .int .i64 b] 23) from cX_v11)).1).trans cX_v11
        have cY_v14 : v14.heap[D + 1]? = some (.cells #[.int .i64 c, .int .i64 d] 23) := (hb_v14.block (D + 1) (Array.getElem?_eq_some_iff.1 (show v11.heap[D + 1]? = some (.cells #[.int .i64 c, .int .i64 d] 23) from cY_v11)).1).trans cY_v11
        have hw_v14 : Below D w v14 := (hw_v11).trans (hb_v14.mono (by first | omega | (simp; omega)))
        clear cX_v11 cY_v11 hb_v14 y12_0 y12_1 y13_0 y13_1 hw_v11 hs_v14
        have ld15 : v14.heap[D]? = some (.cells #[.int .i64 a, .int .i64 b] 23) := cX_v14
        have y15_0 := cell2_0 ld15
        have y15_1 := cell2_1 ld15
        clear ld15
        have ld16 : v14.heap[D + 1]? = some (.cells #[.int .i64 c, .int .i64 d] 23) := cY_v14
        have y16_0 := cell2_0 ld16
        have y16_1 := cell2_1 ld16
        clear ld16
        have eP : c * b = p := HP.out
        have eQ : d * a = q := HQ.out
        go_wp2_with fail
        refine (FF.out _).mono ?_
        rintro e v17 ⟨rfl, hb_v17⟩
        have hs_v17 := hw_v14.size
        have cX_v17 : v17.heap[D]? = some (.cells #[.int .i64 a, .int .i64 b] 23) := (hb_v17.block (D) (Array.getElem?_eq_some_iff.1 (show v14.heap[D]? = some (.cells #[.int .i64 a, .int .i64 b] 23) from cX_v14)).1).trans cX_v14
        have cY_v17 : v17.heap[D + 1]? = some (.cells #[.int .i64 c, .int .i64 d] 23) := (hb_v17.block (D + 1) (Array.getElem?_eq_some_iff.1 (show v14.heap[D + 1]? = some (.cells #[.int .i64 c, .int .i64 d] 23) from cY_v14)).1).trans cY_v14
        have hw_v17 : Below D w v17 := (hw_v14).trans (hb_v17.mono (by first | omega | (simp; omega)))
        clear cX_v14 cY_v14 hb_v17 y15_0 y15_1 y16_0 y16_1 eP eQ hw_v14 hs_v17
        obtain ⟨EQ, hEQ⟩ : ∃ E, v17.heap.size = E := ⟨_, rfl⟩
        have ld18 : (v17.alloc (.cells #[.int .i64 (x : Int), .int .i64 (x : Int)] 23)).heap[EQ]? = some (.cells #[.int .i64 (x : Int), .int .i64 (x : Int)] 23) := (heap_new (by first | omega | (simp; omega)))
        have y18_0 := cell2_0 ld18
        have y18_1 := cell2_1 ld18
        clear ld18
        have ld19 : (v17.alloc (.cells #[.int .i64 (x : Int), .int .i64 (x : Int)] 23)).heap[D]? = some (.cells #[.int .i64 a, .int .i64 b] 23) := (heap_old (o := .cells #[.int .i64 (x : Int), .int .i64 (x : Int)] 23) cX_v17)
        have y19_0 := cell2_0 ld19
        have y19_1 := cell2_1 ld19
        clear ld19
        have ld20 : (v17.alloc (.cells #[.int .i64 (x : Int), .int .i64 (x : Int)] 23)).heap[D + 1]? = some (.cells #[.int .i64 c, .int .i64 d] 23) := (heap_old (o := .cells #[.int .i64 (x : Int), .int .i64 (x : Int)] 23) cY_v17)
        have y20_0 := cell2_0 ld20
        have y20_1 := cell2_1 ld20
        clear ld20
        have P10 : Pg (v17.alloc (.cells #[.int .i64 (x : Int), .int .i64 (x : Int)] 23)) := P.below (by first | exact (hw_v17.alloc (by have := hw_v17.size; first | omega | (simp; omega)) (.cells #[.int .i64 (x : Int), .int .i64 (x : Int)] 23)) | (rw [hD]; exact (hw_v17.alloc (by have := hw_v17.size; first | omega | (simp; omega)) (.cells #[.int .i64 (x : Int), .int .i64 (x : Int)] 23))))
        go_wp2_with fail
        refine (LS.out _ P10.gi).mono ?_
        rintro e v21 ⟨rfl, hb_v21⟩
        have hs_v21 := hw_v17.size
        have cX_v21 : v21.heap[D]? = some (.cells #[.int .i64 a, .int .i64 b] 23) := (hb_v21.block (D) (Array.getElem?_eq_some_iff.1 (show (v17.alloc (.cells #[.int .i64 (x : Int), .int .i64 (x : Int)] 23)).heap[D]? = some (.cells #[.int .i64 a, .int .i64 b] 23) from (heap_old (o := .cells #[.int .i64 (x : Int), .int .i64 (x : Int)] 23) cX_v17))).1).trans (heap_old (o := .cells #[.int .i64 (x : Int), .int .i64 (x : Int)] 23) cX_v17)
        have cY_v21 : v21.heap[D + 1]? = some (.cells #[.int .i64 c, .int .i64 d] 23) := (hb_v21.block (D + 1) (Array.getElem?_eq_some_iff.1 (show (v17.alloc (.cells #[.int .i64 (x : Int), .int .i64 (x : Int)] 23)).heap[D + 1]? = some (.cells #[.int .i64 c, .int .i64 d] 23) from (heap_old (o := .cells #[.int .i64 (x : Int), .int .i64 (x : Int)] 23) cY_v17))).1).trans (heap_old (o := .cells #[.int .i64 (x : Int), .int .i64 (x : Int)] 23) cY_v17)
        have cQ_v21 : v21.heap[EQ]? = some (.cells #[.int .i64 (x : Int), .int .i64 (x : Int)] 23) := (hb_v21.block (EQ) (Array.getElem?_eq_some_iff.1 (show (v17.alloc (.cells #[.int .i64 (x : Int), .int .i64 (x : Int)] 23)).heap[EQ]? = some (.cells #[.int .i64 (x : Int), .int .i64 (x : Int)] 23) from (heap_new (by first | omega | (simp; omega))))).1).trans (heap_new (by first | omega | (simp; omega)))
        have hw_v21 : Below D w v21 := ((hw_v17.alloc (by have := hw_v17.size; first | omega | (simp; omega)) (.cells #[.int .i64 (x : Int), .int .i64 (x : Int)] 23))).trans (hb_v21.mono (by first | omega | (simp; omega)))
        clear cX_v17 cY_v17 hb_v21 y18_0 y18_1 y19_0 y19_1 y20_0 y20_1 hw_v17 hs_v21
        have ld22 : v21.heap[EQ]? = some (.cells #[.int .i64 (x : Int), .int .i64 (x : Int)] 23) := cQ_v21
        have y22_0 := cell2_0 ld22
        have y22_1 := cell2_1 ld22
        clear ld22
        have HW := Lib.hid (hw_v21)
        go_wp2_with fail
        refine (OX.out _).mono ?_
        rintro e wq ⟨rfl, rfl⟩
        go_wp2_with fail
        refine (OY.out _).mono ?_
        rintro e wp ⟨rfl, rfl⟩
        go_wp2
        go_ret
        exact ⟨rfl, by first | exact HW.out | (rw [hD]; exact HW.out)⟩
    · obtain rfl : v = false := by rw [HV.out]; simp [g1]
      have g3 : ¬ (ox : Int) = 1 := by omega
      go_enter Tryz.func4, Tryz.ntmps4
      have P11 : Pg ((w.alloc (.cells #[.int .i64 a, .int .i64 b] 23)).alloc (.cells #[.int .i64 c, .int .i64 d] 23)) := P.below (by first | exact (((Below.refl _ w).alloc (by first | omega | (simp; omega)) (.cells #[.int .i64 a, .int .i64 b] 23)).alloc (by first | omega | (simp; omega)) (.cells #[.int .i64 c, .int .i64 d] 23)) | (rw [hD]; exact (((Below.refl _ w).alloc (by first | omega | (simp; omega)) (.cells #[.int .i64 a, .int .i64 b] 23)).alloc (by first | omega | (simp; omega)) (.cells #[.int .i64 c, .int .i64 d] 23))))
      go_wp2_with fail
      refine (KN.out _ P11).mono ?_
      rintro e v1 ⟨rfl, hb_v1⟩
      have cX_v1 : v1.heap[D]? = some (.cells #[.int .i64 a, .int .i64 b] 23) := (hb_v1.block (D) (Array.getElem?_eq_some_iff.1 (show ((w.alloc (.cells #[.int .i64 a, .int .i64 b] 23)).alloc (.cells #[.int .i64 c, .int .i64 d] 23)).heap[D]? = some (.cells #[.int .i64 a, .int .i64 b] 23) from (heap_old (o := .cells #[.int .i64 c, .int .i64 d] 23) (heap_new (by first | omega | (simp; omega)))))).1).trans (heap_old (o := .cells #[.int .i64 c, .int .i64 d] 23) (heap_new (by first | omega | (simp; omega))))
      have cY_v1 : v1.heap[D + 1]? = some (.cells #[.int .i64 c, .int .i64 d] 23) := (hb_v1.block (D + 1) (Array.getElem?_eq_some_iff.1 (show ((w.alloc (.cells #[.int .i64 a, .int .i64 b] 23)).alloc (.cells #[.int .i64 c, .int .i64 d] 23)).heap[D + 1]? = some (.cells #[.int .i64 c, .int .i64 d] 23) from (heap_new (by first | omega | (simp; omega))))).1).trans (heap_new (by first | omega | (simp; omega)))
      have hw_v1 : Below D w v1 := ((((Below.refl _ w).alloc (by first | omega | (simp; omega)) (.cells #[.int .i64 a, .int .i64 b] 23)).alloc (by first | omega | (simp; omega)) (.cells #[.int .i64 c, .int .i64 d] 23))).trans (hb_v1.mono (by first | omega | (simp; omega)))
      clear hb_v1
      have ld2 : v1.heap[D]? = some (.cells #[.int .i64 a, .int .i64 b] 23) := cX_v1
      have y2_0 := cell2_0 ld2
      have y2_1 := cell2_1 ld2
      clear ld2
      go_wp2_with fail
      refine (CH.out _).mono ?_
      rintro e v3 ⟨rfl, hb_v3⟩
      have hs_v3 := hw_v1.size
      have cX_v3 : v3.heap[D]? = some (.cells #[.int .i64 a, .int .i64 b] 23) := (hb_v3.block (D) (Array.getElem?_eq_some_iff.1 (show v1.heap[D]? = some (.cells #[.int .i64 a, .int .i64 b] 23) from cX_v1)).1).trans cX_v1
      have cY_v3 : v3.heap[D + 1]? = some (.cells #[.int .i64 c, .int .i64 d] 23) := (hb_v3.block (D + 1) (Array.getElem?_eq_some_iff.1 (show v1.heap[D + 1]? = some (.cells #[.int .i64 c, .int .i64 d] 23) from cY_v1)).1).trans cY_v1
      have hw_v3 : Below D w v3 := (hw_v1).trans (hb_v3.mono (by first | omega | (simp; omega)))
      clear cX_v1 cY_v1 hb_v3 y2_0 y2_1 hw_v1 hs_v3
      have ld4 : v3.heap[D + 1]? = some (.cells #[.int .i64 c, .int .i64 d] 23) := cY_v3
      have y4_0 := cell2_0 ld4
      have y4_1 := cell2_1 ld4
      clear ld4
      go_wp2_with fail
      refine (CH2.out _).mono ?_
      rintro e v5 ⟨rfl, hb_v5⟩
      have hs_v5 := hw_v3.size
      have cX_v5 : v5.heap[D]? = some (.cells #[.int .i64 a, .int .i64 b] 23) := (hb_v5.block (D) (Array.getElem?_eq_some_iff.1 (show v3.heap[D]? = some (.cells #[.int .i64 a, .int .i64 b] 23) from cX_v3)).1).trans cX_v3
      have cY_v5 : v5.heap[D + 1]? = some (.cells #[.int .i64 c, .int .i64 d] 23) := (hb_v5.block (D + 1) (Array.getElem?_eq_some_iff.1 (show v3.heap[D + 1]? = some (.cells #[.int .i64 c, .int .i64 d] 23) from cY_v3)).1).trans cY_v3
      have hw_v5 : Below D w v5 := (hw_v3).trans (hb_v5.mono (by first | omega | (simp; omega)))
      clear cX_v3 cY_v3 hb_v5 y4_0 y4_1 hw_v3 hs_v5
      have ld6 : v5.heap[D]? = some (.cells #[.int .i64 a, .int .i64 b] 23) := cX_v5
      have y6_0 := cell2_0 ld6
      have y6_1 := cell2_1 ld6
      clear ld6
      have ld7 : v5.heap[D + 1]? = some (.cells #[.int .i64 c, .int .i64 d] 23) := cY_v5
      have y7_0 := cell2_0 ld7
      have y7_1 := cell2_1 ld7
      clear ld7
      have P12 : Pg v5 := P.below (by first | exact hw_v5 | (rw [hD]; exact hw_v5))
      go_wp2_with fail
      refine (SH.out _ P12.gi).mono ?_
      rintro e v8 ⟨rfl, hb_v8⟩
      have hs_v8 := hw_v5.size
      have cX_v8 : v8.heap[D]? = some (.cells #[.int .i64 a, .int .i64 b] 23) := (hb_v8.block (D) (Array.getElem?_eq_some_iff.1 (show v5.heap[D]? = some (.cells #[.int .i64 a, .int .i64 b] 23) from cX_v5)).1).trans cX_v5
      have cY_v8 : v8.heap[D + 1]? = some (.cells #[.int .i64 c, .int .i64 d] 23) := (hb_v8.block (D + 1) (Array.getElem?_eq_some_iff.1 (show v5.heap[D + 1]? = some (.cells #[.int .i64 c, .int .i64 d] 23) from cY_v5)).1).trans cY_v5
      have hw_v8 : Below D w v8 := (hw_v5).trans (hb_v8.mono (by first | omega | (simp; omega)))
      clear cX_v5 cY_v5 hb_v8 y6_0 y6_1 y7_0 y7_1 hw_v5 hs_v8
      have ld9 : v8.heap[D]? = some (.cells #[.int .i64 a, .int .i64 b] 23) := cX_v8
      have y9_0 := cell2_0 ld9
      have y9_1 := cell2_1 ld9
      clear ld9
      have ld10 : v8.heap[D + 1]? = some (.cells #[.int .i64 c, .int .i64 d] 23) := cY_v8
      have y10_0 := cell2_0 ld10
      have y10_1 := cell2_1 ld10
      clear ld10
      go_wp2_with fail
      refine (EX.out _).mono ?_
      rintro e v11 ⟨rfl, hb_v11⟩
      have hs_v11 := hw_v8.size
      have cX_v11 : v11.heap[D]? = some (.cells #[.int .i64 a, .int .i64 b] 23) := (hb_v11.block (D) (Array.getElem?_eq_some_iff.1 (show v8.heap[D]? = some (.cells #[.int .i64 a, .int .i64 b] 23) from cX_v8)).1).trans cX_v8
      have cY_v11 : v11.heap[D + 1]? = some (.cells #[.int .i64 c, .int .i64 d] 23) := (hb_v11.block (D + 1) (Array.getElem?_eq_some_iff.1 (show v8.heap[D + 1]? = some (.cells #[.int .i64 c, .int .i64 d] 23) from cY_v8)).1).trans cY_v8
      have hw_v11 : Below D w v11 := (hw_v8).trans (hb_v11.mono (by first | omega | (simp; omega)))
      clear cX_v8 cY_v8 hb_v11 y9_0 y9_1 y10_0 y10_1 hw_v8 hs_v11
      have ld12 : v11.heap[D]? = some (.cells #[.int .i64 a, .int .i64 b] 23) := cX_v11
      have y12_0 := cell2_0 ld12
      have y12_1 := cell2_1 ld12
      clear ld12
      have ld13 : v11.heap[D + 1]? = some (.cells #[.int .i64 c, .int .i64 d] 23) := cY_v11
      have y13_0 := cell2_0 ld13
      have y13_1 := cell2_1 ld13
      clear ld13
      go_wp2_with fail
      refine (CM.out _).mono ?_
      rintro e v14 ⟨rfl, hb_v14⟩
      have hs_v14 := hw_v11.size
      have cX_v14 : v14.heap[D]? = some (.cells #[.int .i64 a, .int .i64 b] 23) := (hb_v14.block (D) (Array.getElem?_eq_some_iff.1 (show v11.heap[D]? = some (.cells #[.int .i64 a, .int .i64 b] 23) from cX_v11)).1).trans cX_v11
      have cY_v14 : v14.heap[D + 1]? = some (.cells #[.int .i64 c, .int .i64 d] 23) := (hb_v14.block (D + 1) (Array.getElem?_eq_some_iff.1 (show v11.heap[D + 1]? = some (.cells #[.int .i64 c, .int .i64 d] 23) from cY_v11)).1).trans cY_v11
      have hw_v14 : Below D w v14 := (hw_v11).trans (hb_v14.mono (by first | omega | (simp; omega)))
      clear cX_v11 cY_v11 hb_v14 y12_0 y12_1 y13_0 y13_1 hw_v11 hs_v14
      have ld15 : v14.heap[D]? = some (.cells #[.int .i64 a, .int .i64 b] 23) := cX_v14
      have y15_0 := cell2_0 ld15
      have y15_1 := cell2_1 ld15
      clear ld15
      have ld16 : v14.heap[D + 1]? = some (.cells #[.int .i64 c, .int .i64 d] 23) := cY_v14
      have y16_0 := cell2_0 ld16
      have y16_1 := cell2_1 ld16
      clear ld16
      have eP : c * b = p := HP.out
      have eQ : d * a = q := HQ.out
      go_wp2_with fail
      refine (FF.out _).mono ?_
      rintro e v17 ⟨rfl, hb_v17⟩
      have hs_v17 := hw_v14.size
      have cX_v17 : v17.heap[D]? = some (.cells #[.int .i64 a, .int .i64 b] 23) := (hb_v17.block (D) (Array.getElem?_eq_some_iff.1 (show v14.heap[D]? = some (.cells #[.int .i64 a, .int .i64 b] 23) from cX_v14)).1).trans cX_v14
      have cY_v17 : v17.heap[D + 1]? = some (.cells #[.int .i64 c, .int .i64 d] 23) := (hb_v17.block (D + 1) (Array.getElem?_eq_some_iff.1 (show v14.heap[D + 1]? = some (.cells #[.int .i64 c, .int .i64 d] 23) from cY_v14)).1).trans cY_v14
      have hw_v17 : Below D w v17 := (hw_v14).trans (hb_v17.mono (by first | omega | (simp; omega)))
      clear cX_v14 cY_v14 hb_v17 y15_0 y15_1 y16_0 y16_1 eP eQ hw_v14 hs_v17
      obtain ⟨EQ, hEQ⟩ : ∃ E, v17.heap.size = E := ⟨_, rfl⟩
      have ld18 : (v17.alloc (.cells #[.int .i64 (x : Int), .int .i64 (x : Int)] 23)).heap[EQ]? = some (.cells #[.int .i64 (x : Int), .int .i64 (x : Int)] 23) := (heap_new (by first | omega | (simp; omega)))
      have y18_0 := cell2_0 ld18
      have y18_1 := cell2_1 ld18
      clear ld18
      have ld19 : (v17.alloc (.cells #[.int .i64 (x : Int), .int .i64 (x : Int)] 23)).heap[D]? = some (.cells #[.int .i64 a, .int .i64 b] 23) := (heap_old (o := .cells #[.int .i64 (x : Int), .int .i64 (x : Int)] 23) cX_v17)
      have y19_0 := cell2_0 ld19
      have y19_1 := cell2_1 ld19
      clear ld19
      have ld20 : (v17.alloc (.cells #[.int .i64 (x : Int), .int .i64 (x : Int)] 23)).heap[D + 1]? = some (.cells #[.int .i64 c, .int .i64 d] 23) := (heap_old (o := .cells #[.int .i64 (x : Int), .int .i64 (x : Int)] 23) cY_v17)
      have y20_0 := cell2_0 ld20
      have y20_1 := cell2_1 ld20
      clear ld20
      have P13 : Pg (v17.alloc (.cells #[.int .i64 (x : Int), .int .i64 (x : Int)] 23)) := P.below (by first | exact (hw_v17.alloc (by have := hw_v17.size; first | omega | (simp; omega)) (.cells #[.int .i64 (x : Int), .int .i64 (x : Int)] 23)) | (rw [hD]; exact (hw_v17.alloc (by have := hw_v17.size; first | omega | (simp; omega)) (.cells #[.int .i64 (x : Int), .int .i64 (x : Int)] 23))))
      go_wp2_with fail
      refine (LS.out _ P13.gi).mono ?_
      rintro e v21 ⟨rfl, hb_v21⟩
      have hs_v21 := hw_v17.size
      have cX_v21 : v21.heap[D]? = some (.cells #[.int .i64 a, .int .i64 b] 23) := (hb_v21.block (D) (Array.getElem?_eq_some_iff.1 (show (v17.alloc (.cells #[.int .i64 (x : Int), .int .i64 (x : Int)] 23)).heap[D]? = some (.cells #[.int .i64 a, .int .i64 b] 23) from (heap_old (o := .cells #[.int .i64 (x : Int), .int .i64 (x : Int)] 23) cX_v17))).1).trans (heap_old (o := .cells #[.int .i64 (x : Int), .int .i64 (x : Int)] 23) cX_v17)
      have cY_v21 : v21.heap[D + 1]? = some (.cells #[.int .i64 c, .int .i64 d] 23) := (hb_v21.block (D + 1) (Array.getElem?_eq_some_iff.1 (show (v17.alloc (.cells #[.int .i64 (x : Int), .int .i64 (x : Int)] 23)).heap[D + 1]? = some (.cells #[.int .i64 c, .int .i64 d] 23) from (heap_old (o := .cells #[.int .i64 (x : Int), .int .i64 (x : Int)] 23) cY_v17))).1).trans (heap_old (o := .cells #[.int .i64 (x : Int), .int .i64 (x : Int)] 23) cY_v17)
      have cQ_v21 : v21.heap[EQ]? = some (.cells #[.int .i64 (x : Int), .int .i64 (x : Int)] 23) := (hb_v21.block (EQ) (Array.getElem?_eq_some_iff.1 (show (v17.alloc (.cells #[.int .i64 (x : Int), .int .i64 (x : Int)] 23)).heap[EQ]? = some (.cells #[.int .i64 (x : Int), .int .i64 (x : Int)] 23) from (heap_new (by first | omega | (simp; omega))))).1).trans (heap_new (by first | omega | (simp; omega)))
      have hw_v21 : Below D w v21 := ((hw_v17.alloc (by have := hw_v17.size; first | omega | (simp; omega)) (.cells #[.int .i64 (x : Int), .int .i64 (x : Int)] 23))).trans (hb_v21.mono (by first | omega | (simp; omega)))
      clear cX_v17 cY_v17 hb_v21 y18_0 y18_1 y19_0 y19_1 y20_0 y20_1 hw_v17 hs_v21
      have ld22 : v21.heap[EQ]? = some (.cells #[.int .i64 (x : Int), .int .i64 (x : Int)] 23) := cQ_v21
      have y22_0 := cell2_0 ld22
      have y22_1 := cell2_1 ld22
      clear ld22
      have HW := Lib.hid (hw_v21)
      go_wp2_with fail
      refine (OX.out _).mono ?_
      rintro e wq ⟨rfl, rfl⟩
      go_wp2
      go_ret
      exact ⟨rfl, by first | exact HW.out | (rw [hD]; exact HW.out)⟩
  · have q1 : ¬ (x : Int) = (y : Int) := by omega
    have q2 : (x : Int) < (y : Int) := by omega
    clear hlt hcm
    by_cases g1 : ox = 1
    · subst g1
      by_cases g2 : oy = 1
      · subst g2
        obtain rfl : v = true := by rw [HV.out]; rfl
        go_enter Tryz.func4, Tryz.ntmps4
        have P14 : Pg ((w.alloc (.cells #[.int .i64 a, .int .i64 b] 23)).alloc (.cells #[.int .i64 c, .int .i64 d] 23)) := P.below (by first | exact (((Below.refl _ w).alloc (by first | omega | (simp; omega)) (.cells #[.int .i64 a, .int .i64 b] 23)).alloc (by first | omega | (simp; omega)) (.cells #[.int .i64 c, .int .i64 d] 23)) | (rw [hD]; exact (((Below.refl _ w).alloc (by first | omega | (simp; omega)) (.cells #[.int .i64 a, .int .i64 b] 23)).alloc (by first | omega | (simp; omega)) (.cells #[.int .i64 c, .int .i64 d] 23))))
        go_wp2_with fail
        refine (KN.out _ P14).mono ?_
        rintro e v1 ⟨rfl, hb_v1⟩
        have cX_v1 : v1.heap[D]? = some (.cells #[.int .i64 a, .int .i64 b] 23) := (hb_v1.block (D) (Array.getElem?_eq_some_iff.1 (show ((w.alloc (.cells #[.int .i64 a, .int .i64 b] 23)).alloc (.cells #[.int .i64 c, .int .i64 d] 23)).heap[D]? = some (.cells #[.int .i64 a, .int .i64 b] 23) from (heap_old (o := .cells #[.int .i64 c, .int .i64 d] 23) (heap_new (by first | omega | (simp; omega)))))).1).trans (heap_old (o := .cells #[.int .i64 c, .int .i64 d] 23) (heap_new (by first | omega | (simp; omega))))
        have cY_v1 : v1.heap[D + 1]? = some (.cells #[.int .i64 c, .int .i64 d] 23) := (hb_v1.block (D + 1) (Array.getElem?_eq_some_iff.1 (show ((w.alloc (.cells #[.int .i64 a, .int .i64 b] 23)).alloc (.cells #[.int .i64 c, .int .i64 d] 23)).heap[D + 1]? = some (.cells #[.int .i64 c, .int .i64 d] 23) from (heap_new (by first | omega | (simp; omega))))).1).trans (heap_new (by first | omega | (simp; omega)))
        have hw_v1 : Below D w v1 := ((((Below.refl _ w).alloc (by first | omega | (simp; omega)) (.cells #[.int .i64 a, .int .i64 b] 23)).alloc (by first | omega | (simp; omega)) (.cells #[.int .i64 c, .int .i64 d] 23))).trans (hb_v1.mono (by first | omega | (simp; omega)))
        clear hb_v1
        have ld2 : v1.heap[D]? = some (.cells #[.int .i64 a, .int .i64 b] 23) := cX_v1
        have y2_0 := cell2_0 ld2
        have y2_1 := cell2_1 ld2
        clear ld2
        go_wp2_with fail
        refine (CH.out _).mono ?_
        rintro e v3 ⟨rfl, hb_v3⟩
        have hs_v3 := hw_v1.size
        have cX_v3 : v3.heap[D]? = some (.cells #[.int .i64 a, .int .i64 b] 23) := (hb_v3.block (D) (Array.getElem?_eq_some_iff.1 (show v1.heap[D]? = some (.cells #[.int .i64 a, .int .i64 b] 23) from cX_v1)).1).trans cX_v1
        have cY_v3 : v3.heap[D + 1]? = some (.cells #[.int .i64 c, .int .i64 d] 23) := (hb_v3.block (D + 1) (Array.getElem?_eq_some_iff.1 (show v1.heap[D + 1]? = some (.cells #[.int .i64 c, .int .i64 d] 23) from cY_v1)).1).trans cY_v1
        have hw_v3 : Below D w v3 := (hw_v1).trans (hb_v3.mono (by first | omega | (simp; omega)))
        clear cX_v1 cY_v1 hb_v3 y2_0 y2_1 hw_v1 hs_v3
        have ld4 : v3.heap[D + 1]? = some (.cells #[.int .i64 c, .int .i64 d] 23) := cY_v3
        have y4_0 := cell2_0 ld4
        have y4_1 := cell2_1 ld4
        clear ld4
        go_wp2_with fail
        refine (CH2.out _).mono ?_
        rintro e v5 ⟨rfl, hb_v5⟩
        have hs_v5 := hw_v3.size
        have cX_v5 : v5.heap[D]? = some (.cells #[.int .i64 a, .int .i64 b] 23) := (hb_v5.block (D) (Array.getElem?_eq_some_iff.1 (show v3.heap[D]? = some (.cells #[.int .i64 a, .int .i64 b] 23) from cX_v3)).1).trans cX_v3
        have cY_v5 : v5.heap[D + 1]? = some (.cells #[.int .i64 c, .int .i64 d] 23) := (hb_v5.block (D + 1) (Array.getElem?_eq_some_iff.1 (show v3.heap[D + 1]? = some (.cells #[.int .i64 c, .int .i64 d] 23) from cY_v3)).1).trans cY_v3
        have hw_v5 : Below D w v5 := (hw_v3).trans (hb_v5.mono (by first | omega | (simp; omega)))
        clear cX_v3 cY_v3 hb_v5 y4_0 y4_1 hw_v3 hs_v5
        have ld6 : v5.heap[D]? = some (.cells #[.int .i64 a, .int .i64 b] 23) := cX_v5
        have y6_0 := cell2_0 ld6
        have y6_1 := cell2_1 ld6
        clear ld6
        have ld7 : v5.heap[D + 1]? = some (.cells #[.int .i64 c, .int .i64 d] 23) := cY_v5
        have y7_0 := cell2_0 ld7
        have y7_1 := cell2_1 ld7
        clear ld7
        have P15 : Pg v5 := P.below (by first | exact hw_v5 | (rw [hD]; exact hw_v5))
        go_wp2_with fail
        refine (SH.out _ P15.gi).mono ?_
        rintro e v8 ⟨rfl, hb_v8⟩
        have hs_v8 := hw_v5.size
        have cX_v8 : v8.heap[D]? = some (.cells #[.int .i64 a, .int .i64 b] 23) := (hb_v8.block (D) (Array.getElem?_eq_some_iff.1 (show v5.heap[D]? = some (.cells #[.int .i64 a, .int .i64 b] 23) from cX_v5)).1).trans cX_v5
        have cY_v8 : v8.heap[D + 1]? = some (.cells #[.int .i64 c, .int .i64 d] 23) := (hb_v8.block (D + 1) (Array.getElem?_eq_some_iff.1 (show v5.heap[D + 1]? = some (.cells #[.int .i64 c, .int .i64 d] 23) from cY_v5)).1).trans cY_v5
        have hw_v8 : Below D w v8 := (hw_v5).trans (hb_v8.mono (by first | omega | (simp; omega)))
        clear cX_v5 cY_v5 hb_v8 y6_0 y6_1 y7_0 y7_1 hw_v5 hs_v8
        have ld9 : v8.heap[D]? = some (.cells #[.int .i64 a, .int .i64 b] 23) := cX_v8
        have y9_0 := cell2_0 ld9
        have y9_1 := cell2_1 ld9
        clear ld9
        have ld10 : v8.heap[D + 1]? = some (.cells #[.int .i64 c, .int .i64 d] 23) := cY_v8
        have y10_0 := cell2_0 ld10
        have y10_1 := cell2_1 ld10
        clear ld10
        go_wp2_with fail
        refine (EX.out _).mono ?_
        rintro e v11 ⟨rfl, hb_v11⟩
        have hs_v11 := hw_v8.size
        have cX_v11 : v11.heap[D]? = some (.cells #[.int .i64 a, .int .i64 b] 23) := (hb_v11.block (D) (Array.getElem?_eq_some_iff.1 (show v8.heap[D]? = some (.cells #[.int .i64 a, .int .i64 b] 23) from cX_v8)).1).trans cX_v8
        have cY_v11 : v11.heap[D + 1]? = some (.cells #[.int .i64 c, .int .i64 d] 23) := (hb_v11.block (D + 1) (Array.getElem?_eq_some_iff.1 (show v8.heap[D + 1]? = some (.cells #[.int .i64 c, .int .i64 d] 23) from cY_v8)).1).trans cY_v8
        have hw_v11 : Below D w v11 := (hw_v8).trans (hb_v11.mono (by first | omega | (simp; omega)))
        clear cX_v8 cY_v8 hb_v11 y9_0 y9_1 y10_0 y10_1 hw_v8 hs_v11
        have ld12 : v11.heap[D]? = some (.cells #[.int .i64 a, .int .i64 b] 23) := cX_v11
        have y12_0 := cell2_0 ld12
        have y12_1 := cell2_1 ld12
        clear ld12
        have ld13 : v11.heap[D + 1]? = some (.cells #[.int .i64 c, .int .i64 d] 23) := cY_v11
        have y13_0 := cell2_0 ld13
        have y13_1 := cell2_1 ld13
        clear ld13
        go_wp2_with fail
        refine (CM.out _).mono ?_
        rintro e v14 ⟨rfl, hb_v14⟩
        have hs_v14 := hw_v11.size
        have cX_v14 : v14.heap[D]? = some (.cells #[.int .i64 a, .int .i64 b] 23) := (hb_v14.block (D) (Array.getElem?_eq_some_iff.1 (show v11.heap[D]? = some (.cells #[.int .i64 a, .int .i64 b] 23) from cX_v11)).1).trans cX_v11
        have cY_v14 : v14.heap[D + 1]? = some (.cells #[.int .i64 c, .int .i64 d] 23) := (hb_v14.block (D + 1) (Array.getElem?_eq_some_iff.1 (show v11.heap[D + 1]? = some (.cells #[.int .i64 c, .int .i64 d] 23) from cY_v11)).1).trans cY_v11
        have hw_v14 : Below D w v14 := (hw_v11).trans (hb_v14.mono (by first | omega | (simp; omega)))
        clear cX_v11 cY_v11 hb_v14 y12_0 y12_1 y13_0 y13_1 hw_v11 hs_v14
        have ld15 : v14.heap[D]? = some (.cells #[.int .i64 a, .int .i64 b] 23) := cX_v14
        have y15_0 := cell2_0 ld15
        have y15_1 := cell2_1 ld15
        clear ld15
        have ld16 : v14.heap[D + 1]? = some (.cells #[.int .i64 c, .int .i64 d] 23) := cY_v14
        have y16_0 := cell2_0 ld16
        have y16_1 := cell2_1 ld16
        clear ld16
        have eP : c * b = p := HP.out
        have eQ : d * a = q := HQ.out
        go_wp2_with fail
        refine (FF.out _).mono ?_
        rintro e v17 ⟨rfl, hb_v17⟩
        have hs_v17 := hw_v14.size
        have cX_v17 : v17.heap[D]? = some (.cells #[.int .i64 a, .int .i64 b] 23) := (hb_v17.block (D) (Array.getElem?_eq_some_iff.1 (show v14.heap[D]? = some (.cells #[.int .i64 a, .int .i64 b] 23) from cX_v14)).1).trans cX_v14
        have cY_v17 : v17.heap[D + 1]? = some (.cells #[.int .i64 c, .int .i64 d] 23) := (hb_v17.block (D + 1) (Array.getElem?_eq_some_iff.1 (show v14.heap[D + 1]? = some (.cells #[.int .i64 c, .int .i64 d] 23) from cY_v14)).1).trans cY_v14
        have hw_v17 : Below D w v17 := (hw_v14).trans (hb_v17.mono (by first | omega | (simp; omega)))
        clear cX_v14 cY_v14 hb_v17 y15_0 y15_1 y16_0 y16_1 eP eQ hw_v14 hs_v17
        obtain ⟨EQ, hEQ⟩ : ∃ E, v17.heap.size = E := ⟨_, rfl⟩
        have ld18 : (v17.alloc (.cells #[.int .i64 (x : Int), .int .i64 (y : Int)] 23)).heap[EQ]? = some (.cells #[.int .i64 (x : Int), .int .i64 (y : Int)] 23) := (heap_new (by first | omega | (simp; omega)))
        have y18_0 := cell2_0 ld18
        have y18_1 := cell2_1 ld18
        clear ld18
        have ld19 : (v17.alloc (.cells #[.int .i64 (x : Int), .int .i64 (y : Int)] 23)).heap[D]? = some (.cells #[.int .i64 a, .int .i64 b] 23) := (heap_old (o := .cells #[.int .i64 (x : Int), .int .i64 (y : Int)] 23) cX_v17)
        have y19_0 := cell2_0 ld19
        have y19_1 := cell2_1 ld19
        clear ld19
        have ld20 : (v17.alloc (.cells #[.int .i64 (x : Int), .int .i64 (y : Int)] 23)).heap[D + 1]? = some (.cells #[.int .i64 c, .int .i64 d] 23) := (heap_old (o := .cells #[.int .i64 (x : Int), .int .i64 (y : Int)] 23) cY_v17)
        have y20_0 := cell2_0 ld20
        have y20_1 := cell2_1 ld20
        clear ld20
        have P16 : Pg (v17.alloc (.cells #[.int .i64 (x : Int), .int .i64 (y : Int)] 23)) := P.below (by first | exact (hw_v17.alloc (by have := hw_v17.size; first | omega | (simp; omega)) (.cells #[.int .i64 (x : Int), .int .i64 (y : Int)] 23)) | (rw [hD]; exact (hw_v17.alloc (by have := hw_v17.size; first | omega | (simp; omega)) (.cells #[.int .i64 (x : Int), .int .i64 (y : Int)] 23))))
        go_wp2_with fail
        refine (LS.out _ P16.gi).mono ?_
        rintro e v21 ⟨rfl, hb_v21⟩
        have hs_v21 := hw_v17.size
        have cX_v21 : v21.heap[D]? = some (.cells #[.int .i64 a, .int .i64 b] 23) := (hb_v21.block (D) (Array.getElem?_eq_some_iff.1 (show (v17.alloc (.cells #[.int .i64 (x : Int), .int .i64 (y : Int)] 23)).heap[D]? = some (.cells #[.int .i64 a, .int .i64 b] 23) from (heap_old (o := .cells #[.int .i64 (x : Int), .int .i64 (y : Int)] 23) cX_v17))).1).trans (heap_old (o := .cells #[.int .i64 (x : Int), .int .i64 (y : Int)] 23) cX_v17)
        have cY_v21 : v21.heap[D + 1]? = some (.cells #[.int .i64 c, .int .i64 d] 23) := (hb_v21.block (D + 1) (Array.getElem?_eq_some_iff.1 (show (v17.alloc (.cells #[.int .i64 (x : Int), .int .i64 (y : Int)] 23)).heap[D + 1]? = some (.cells #[.int .i64 c, .int .i64 d] 23) from (heap_old (o := .cells #[.int .i64 (x : Int), .int .i64 (y : Int)] 23) cY_v17))).1).trans (heap_old (o := .cells #[.int .i64 (x : Int), .int .i64 (y : Int)] 23) cY_v17)
        have cQ_v21 : v21.heap[EQ]? = some (.cells #[.int .i64 (x : Int), .int .i64 (y : Int)] 23) := (hb_v21.block (EQ) (Array.getElem?_eq_some_iff.1 (show (v17.alloc (.cells #[.int .i64 (x : Int), .int .i64 (y : Int)] 23)).heap[EQ]? = some (.cells #[.int .i64 (x : Int), .int .i64 (y : Int)] 23) from (heap_new (by first | omega | (simp; omega))))).1).trans (heap_new (by first | omega | (simp; omega)))
        have hw_v21 : Below D w v21 := ((hw_v17.alloc (by have := hw_v17.size; first | omega | (simp; omega)) (.cells #[.int .i64 (x : Int), .int .i64 (y : Int)] 23))).trans (hb_v21.mono (by first | omega | (simp; omega)))
        clear cX_v17 cY_v17 hb_v21 y18_0 y18_1 y19_0 y19_1 y20_0 y20_1 hw_v17 hs_v21
        have ld22 : v21.heap[EQ]? = some (.cells #[.int .i64 (x : Int), .int .i64 (y : Int)] 23) := cQ_v21
        have y22_0 := cell2_0 ld22
        have y22_1 := cell2_1 ld22
        clear ld22
        have HW := Lib.hid (hw_v21)
        go_wp2_with fail
        refine (OX.out _).mono ?_
        rintro e wq ⟨rfl, rfl⟩
        go_wp2_with fail
        refine (OY.out _).mono ?_
        rintro e wp ⟨rfl, rfl⟩
        go_wp2
        go_ret
        exact ⟨rfl, by first | exact HW.out | (rw [hD]; exact HW.out)⟩
      · obtain rfl : v = false := by rw [HV.out]; simp [g2]
        have g3 : ¬ (oy : Int) = 1 := by omega
        have g4 : ((oy : Int) == 1) = false := by rw [beq_eq_false_iff_ne]; exact g3
        go_enter Tryz.func4, Tryz.ntmps4
        have P17 : Pg ((w.alloc (.cells #[.int .i64 a, .int .i64 b] 23)).alloc (.cells #[.int .i64 c, .int .i64 d] 23)) := P.below (by first | exact (((Below.refl _ w).alloc (by first | omega | (simp; omega)) (.cells #[.int .i64 a, .int .i64 b] 23)).alloc (by first | omega | (simp; omega)) (.cells #[.int .i64 c, .int .i64 d] 23)) | (rw [hD]; exact (((Below.refl _ w).alloc (by first | omega | (simp; omega)) (.cells #[.int .i64 a, .int .i64 b] 23)).alloc (by first | omega | (simp; omega)) (.cells #[.int .i64 c, .int .i64 d] 23))))
        go_wp2_with fail
        refine (KN.out _ P17).mono ?_
        rintro e v1 ⟨rfl, hb_v1⟩
        have cX_v1 : v1.heap[D]? = some (.cells #[.int .i64 a, .int .i64 b] 23) := (hb_v1.block (D) (Array.getElem?_eq_some_iff.1 (show ((w.alloc (.cells #[.int .i64 a, .int .i64 b] 23)).alloc (.cells #[.int .i64 c, .int .i64 d] 23)).heap[D]? = some (.cells #[.int .i64 a, .int .i64 b] 23) from (heap_old (o := .cells #[.int .i64 c, .int .i64 d] 23) (heap_new (by first | omega | (simp; omega)))))).1).trans (heap_old (o := .cells #[.int .i64 c, .int .i64 d] 23) (heap_new (by first | omega | (simp; omega))))
        have cY_v1 : v1.heap[D + 1]? = some (.cells #[.int .i64 c, .int .i64 d] 23) := (hb_v1.block (D + 1) (Array.getElem?_eq_some_iff.1 (show ((w.alloc (.cells #[.int .i64 a, .int .i64 b] 23)).alloc (.cells #[.int .i64 c, .int .i64 d] 23)).heap[D + 1]? = some (.cells #[.int .i64 c, .int .i64 d] 23) from (heap_new (by first | omega | (simp; omega))))).1).trans (heap_new (by first | omega | (simp; omega)))
        have hw_v1 : Below D w v1 := ((((Below.refl _ w).alloc (by first | omega | (simp; omega)) (.cells #[.int .i64 a, .int .i64 b] 23)).alloc (by first | omega | (simp; omega)) (.cells #[.int .i64 c, .int .i64 d] 23))).trans (hb_v1.mono (by first | omega | (simp; omega)))
        clear hb_v1
        have ld2 : v1.heap[D]? = some (.cells #[.int .i64 a, .int .i64 b] 23) := cX_v1
        have y2_0 := cell2_0 ld2
        have y2_1 := cell2_1 ld2
        clear ld2
        go_wp2_with fail
        refine (CH.out _).mono ?_
        rintro e v3 ⟨rfl, hb_v3⟩
        have hs_v3 := hw_v1.size
        have cX_v3 : v3.heap[D]? = some (.cells #[.int .i64 a, .int .i64 b] 23) := (hb_v3.block (D) (Array.getElem?_eq_some_iff.1 (show v1.heap[D]? = some (.cells #[.int .i64 a, .int .i64 b] 23) from cX_v1)).1).trans cX_v1
        have cY_v3 : v3.heap[D + 1]? = some (.cells #[.int .i64 c, .int .i64 d] 23) := (hb_v3.block (D + 1) (Array.getElem?_eq_some_iff.1 (show v1.heap[D + 1]? = some (.cells #[.int .i64 c, .int .i64 d] 23) from cY_v1)).1).trans cY_v1
        have hw_v3 : Below D w v3 := (hw_v1).trans (hb_v3.mono (by first | omega | (simp; omega)))
        clear cX_v1 cY_v1 hb_v3 y2_0 y2_1 hw_v1 hs_v3
        have ld4 : v3.heap[D + 1]? = some (.cells #[.int .i64 c, .int .i64 d] 23) := cY_v3
        have y4_0 := cell2_0 ld4
        have y4_1 := cell2_1 ld4
        clear ld4
        go_wp2_with fail
        refine (CH2.out _).mono ?_
        rintro e v5 ⟨rfl, hb_v5⟩
        have hs_v5 := hw_v3.size
        have cX_v5 : v5.heap[D]? = some (.cells #[.int .i64 a, .int .i64 b] 23) := (hb_v5.block (D) (Array.getElem?_eq_some_iff.1 (show v3.heap[D]? = some (.cells #[.int .i64 a, .int .i64 b] 23) from cX_v3)).1).trans cX_v3
        have cY_v5 : v5.heap[D + 1]? = some (.cells #[.int .i64 c, .int .i64 d] 23) := (hb_v5.block (D + 1) (Array.getElem?_eq_some_iff.1 (show v3.heap[D + 1]? = some (.cells #[.int .i64 c, .int .i64 d] 23) from cY_v3)).1).trans cY_v3
        have hw_v5 : Below D w v5 := (hw_v3).trans (hb_v5.mono (by first | omega | (simp; omega)))
        clear cX_v3 cY_v3 hb_v5 y4_0 y4_1 hw_v3 hs_v5
        have ld6 : v5.heap[D]? = some (.cells #[.int .i64 a, .int .i64 b] 23) := cX_v5
        have y6_0 := cell2_0 ld6
        have y6_1 := cell2_1 ld6
        clear ld6
        have ld7 : v5.heap[D + 1]? = some (.cells #[.int .i64 c, .int .i64 d] 23) := cY_v5
        have y7_0 := cell2_0 ld7
        have y7_1 := cell2_1 ld7
        clear ld7
        have P18 : Pg v5 := P.below (by first | exact hw_v5 | (rw [hD]; exact hw_v5))
        go_wp2_with fail
        refine (SH.out _ P18.gi).mono ?_
        rintro e v8 ⟨rfl, hb_v8⟩
        have hs_v8 := hw_v5.size
        have cX_v8 : v8.heap[D]? = some (.cells #[.int .i64 a, .int .i64 b] 23) := (hb_v8.block (D) (Array.getElem?_eq_some_iff.1 (show v5.heap[D]? = some (.cells #[.int .i64 a, .int .i64 b] 23) from cX_v5)).1).trans cX_v5
        have cY_v8 : v8.heap[D + 1]? = some (.cells #[.int .i64 c, .int .i64 d] 23) := (hb_v8.block (D + 1) (Array.getElem?_eq_some_iff.1 (show v5.heap[D + 1]? = some (.cells #[.int .i64 c, .int .i64 d] 23) from cY_v5)).1).trans cY_v5
        have hw_v8 : Below D w v8 := (hw_v5).trans (hb_v8.mono (by first | omega | (simp; omega)))
        clear cX_v5 cY_v5 hb_v8 y6_0 y6_1 y7_0 y7_1 hw_v5 hs_v8
        have ld9 : v8.heap[D]? = some (.cells #[.int .i64 a, .int .i64 b] 23) := cX_v8
        have y9_0 := cell2_0 ld9
        have y9_1 := cell2_1 ld9
        clear ld9
        have ld10 : v8.heap[D + 1]? = some (.cells #[.int .i64 c, .int .i64 d] 23) := cY_v8
        have y10_0 := cell2_0 ld10
        have y10_1 := cell2_1 ld10
        clear ld10
        go_wp2_with fail
        refine (EX.out _).mono ?_
        rintro e v11 ⟨rfl, hb_v11⟩
        have hs_v11 := hw_v8.size
        have cX_v11 : v11.heap[D]? = some (.cells #[.int .i64 a, .int .i64 b] 23) := (hb_v11.block (D) (Array.getElem?_eq_some_iff.1 (show v8.heap[D]? = some (.cells #[.int .i64 a, .int .i64 b] 23) from cX_v8)).1).trans cX_v8
        have cY_v11 : v11.heap[D + 1]? = some (.cells #[.int .i64 c, .int .i64 d] 23) := (hb_v11.block (D + 1) (Array.getElem?_eq_some_iff.1 (show v8.heap[D + 1]? = some (.cells #[.int .i64 c, .int .i64 d] 23) from cY_v8)).1).trans cY_v8
        have hw_v11 : Below D w v11 := (hw_v8).trans (hb_v11.mono (by first | omega | (simp; omega)))
        clear cX_v8 cY_v8 hb_v11 y9_0 y9_1 y10_0 y10_1 hw_v8 hs_v11
        have ld12 : v11.heap[D]? = some (.cells #[.int .i64 a, .int .i64 b] 23) := cX_v11
        have y12_0 := cell2_0 ld12
        have y12_1 := cell2_1 ld12
        clear ld12
        have ld13 : v11.heap[D + 1]? = some (.cells #[.int .i64 c, .int .i64 d] 23) := cY_v11
        have y13_0 := cell2_0 ld13
        have y13_1 := cell2_1 ld13
        clear ld13
        go_wp2_with fail
        refine (CM.out _).mono ?_
        rintro e v14 ⟨rfl, hb_v14⟩
        have hs_v14 := hw_v11.size
        have cX_v14 : v14.heap[D]? = some (.cells #[.int .i64 a, .int .i64 b] 23) := (hb_v14.block (D) (Array.getElem?_eq_some_iff.1 (show v11.heap[D]? = some (.cells #[.int .i64 a, .int .i64 b] 23) from cX_v11)).1).trans cX_v11
        have cY_v14 : v14.heap[D + 1]? = some (.cells #[.int .i64 c, .int .i64 d] 23) := (hb_v14.block (D + 1) (Array.getElem?_eq_some_iff.1 (show v11.heap[D + 1]? = some (.cells #[.int .i64 c, .int .i64 d] 23) from cY_v11)).1).trans cY_v11
        have hw_v14 : Below D w v14 := (hw_v11).trans (hb_v14.mono (by first | omega | (simp; omega)))
        clear cX_v11 cY_v11 hb_v14 y12_0 y12_1 y13_0 y13_1 hw_v11 hs_v14
        have ld15 : v14.heap[D]? = some (.cells #[.int .i64 a, .int .i64 b] 23) := cX_v14
        have y15_0 := cell2_0 ld15
        have y15_1 := cell2_1 ld15
        clear ld15
        have ld16 : v14.heap[D + 1]? = some (.cells #[.int .i64 c, .int .i64 d] 23) := cY_v14
        have y16_0 := cell2_0 ld16
        have y16_1 := cell2_1 ld16
        clear ld16
        have eP : c * b = p := HP.out
        have eQ : d * a = q := HQ.out
        go_wp2_with fail
        refine (FF.out _).mono ?_
        rintro e v17 ⟨rfl, hb_v17⟩
        have hs_v17 := hw_v14.size
        have cX_v17 : v17.heap[D]? = some (.cells #[.int .i64 a, .int .i64 b] 23) := (hb_v17.block (D) (Array.getElem?_eq_some_iff.1 (show v14.heap[D]? = some (.cells #[.int .i64 a, .int .i64 b] 23) from cX_v14)).1).trans cX_v14
        have cY_v17 : v17.heap[D + 1]? = some (.cells #[.int .i64 c, .int .i64 d] 23) := (hb_v17.block (D + 1) (Array.getElem?_eq_some_iff.1 (show v14.heap[D + 1]? = some (.cells #[.int .i64 c, .int .i64 d] 23) from cY_v14)).1).trans cY_v14
        have hw_v17 : Below D w v17 := (hw_v14).trans (hb_v17.mono (by first | omega | (simp; omega)))
        clear cX_v14 cY_v14 hb_v17 y15_0 y15_1 y16_0 y16_1 eP eQ hw_v14 hs_v17
        obtain ⟨EQ, hEQ⟩ : ∃ E, v17.heap.size = E := ⟨_, rfl⟩
        have ld18 : (v17.alloc (.cells #[.int .i64 (x : Int), .int .i64 (y : Int)] 23)).heap[EQ]? = some (.cells #[.int .i64 (x : Int), .int .i64 (y : Int)] 23) := (heap_new (by first | omega | (simp; omega)))
        have y18_0 := cell2_0 ld18
        have y18_1 := cell2_1 ld18
        clear ld18
        have ld19 : (v17.alloc (.cells #[.int .i64 (x : Int), .int .i64 (y : Int)] 23)).heap[D]? = some (.cells #[.int .i64 a, .int .i64 b] 23) := (heap_old (o := .cells #[.int .i64 (x : Int), .int .i64 (y : Int)] 23) cX_v17)
        have y19_0 := cell2_0 ld19
        have y19_1 := cell2_1 ld19
        clear ld19
        have ld20 : (v17.alloc (.cells #[.int .i64 (x : Int), .int .i64 (y : Int)] 23)).heap[D + 1]? = some (.cells #[.int .i64 c, .int .i64 d] 23) := (heap_old (o := .cells #[.int .i64 (x : Int), .int .i64 (y : Int)] 23) cY_v17)
        have y20_0 := cell2_0 ld20
        have y20_1 := cell2_1 ld20
        clear ld20
        have P19 : Pg (v17.alloc (.cells #[.int .i64 (x : Int), .int .i64 (y : Int)] 23)) := P.below (by first | exact (hw_v17.alloc (by have := hw_v17.size; first | omega | (simp; omega)) (.cells #[.int .i64 (x : Int), .int .i64 (y : Int)] 23)) | (rw [hD]; exact (hw_v17.alloc (by have := hw_v17.size; first | omega | (simp; omega)) (.cells #[.int .i64 (x : Int), .int .i64 (y : Int)] 23))))
        go_wp2_with fail
        refine (LS.out _ P19.gi).mono ?_
        rintro e v21 ⟨rfl, hb_v21⟩
        have hs_v21 := hw_v17.size
        have cX_v21 : v21.heap[D]? = some (.cells #[.int .i64 a, .int .i64 b] 23) := (hb_v21.block (D) (Array.getElem?_eq_some_iff.1 (show (v17.alloc (.cells #[.int .i64 (x : Int), .int .i64 (y : Int)] 23)).heap[D]? = some (.cells #[.int .i64 a, .int .i64 b] 23) from (heap_old (o := .cells #[.int .i64 (x : Int), .int .i64 (y : Int)] 23) cX_v17))).1).trans (heap_old (o := .cells #[.int .i64 (x : Int), .int .i64 (y : Int)] 23) cX_v17)
        have cY_v21 : v21.heap[D + 1]? = some (.cells #[.int .i64 c, .int .i64 d] 23) := (hb_v21.block (D + 1) (Array.getElem?_eq_some_iff.1 (show (v17.alloc (.cells #[.int .i64 (x : Int), .int .i64 (y : Int)] 23)).heap[D + 1]? = some (.cells #[.int .i64 c, .int .i64 d] 23) from (heap_old (o := .cells #[.int .i64 (x : Int), .int .i64 (y : Int)] 23) cY_v17))).1).trans (heap_old (o := .cells #[.int .i64 (x : Int), .int .i64 (y : Int)] 23) cY_v17)
        have cQ_v21 : v21.heap[EQ]? = some (.cells #[.int .i64 (x : Int), .int .i64 (y : Int)] 23) := (hb_v21.block (EQ) (Array.getElem?_eq_some_iff.1 (show (v17.alloc (.cells #[.int .i64 (x : Int), .int .i64 (y : Int)] 23)).heap[EQ]? = some (.cells #[.int .i64 (x : Int), .int .i64 (y : Int)] 23) from (heap_new (by first | omega | (simp; omega))))).1).trans (heap_new (by first | omega | (simp; omega)))
        have hw_v21 : Below D w v21 := ((hw_v17.alloc (by have := hw_v17.size; first | omega | (simp; omega)) (.cells #[.int .i64 (x : Int), .int .i64 (y : Int)] 23))).trans (hb_v21.mono (by first | omega | (simp; omega)))
        clear cX_v17 cY_v17 hb_v21 y18_0 y18_1 y19_0 y19_1 y20_0 y20_1 hw_v17 hs_v21
        have ld22 : v21.heap[EQ]? = some (.cells #[.int .i64 (x : Int), .int .i64 (y : Int)] 23) := cQ_v21
        have y22_0 := cell2_0 ld22
        have y22_1 := cell2_1 ld22
        clear ld22
        have HW := Lib.hid (hw_v21)
        go_wp2_with fail
        refine (OX.out _).mono ?_
        rintro e wq ⟨rfl, rfl⟩
        go_wp2_with fail
        refine (OY.out _).mono ?_
        rintro e wp ⟨rfl, rfl⟩
        go_wp2
        go_ret
        exact ⟨rfl, by first | exact HW.out | (rw [hD]; exact HW.out)⟩
    · obtain rfl : v = false := by rw [HV.out]; simp [g1]
      have g3 : ¬ (ox : Int) = 1 := by omega
      go_enter Tryz.func4, Tryz.ntmps4
      have P20 : Pg ((w.alloc (.cells #[.int .i64 a, .int .i64 b] 23)).alloc (.cells #[.int .i64 c, .int .i64 d] 23)) := P.below (by first | exact (((Below.refl _ w).alloc (by first | omega | (simp; omega)) (.cells #[.int .i64 a, .int .i64 b] 23)).alloc (by first | omega | (simp; omega)) (.cells #[.int .i64 c, .int .i64 d] 23)) | (rw [hD]; exact (((Below.refl _ w).alloc (by first | omega | (simp; omega)) (.cells #[.int .i64 a, .int .i64 b] 23)).alloc (by first | omega | (simp; omega)) (.cells #[.int .i64 c, .int .i64 d] 23))))
      go_wp2_with fail
      refine (KN.out _ P20).mono ?_
      rintro e v1 ⟨rfl, hb_v1⟩
      have cX_v1 : v1.heap[D]? = some (.cells #[.int .i64 a, .int .i64 b] 23) := (hb_v1.block (D) (Array.getElem?_eq_some_iff.1 (show ((w.alloc (.cells #[.int .i64 a, .int .i64 b] 23)).alloc (.cells #[.int .i64 c, .int .i64 d] 23)).heap[D]? = some (.cells #[.int .i64 a, .int .i64 b] 23) from (heap_old (o := .cells #[.int .i64 c, .int .i64 d] 23) (heap_new (by first | omega | (simp; omega)))))).1).trans (heap_old (o := .cells #[.int .i64 c, .int .i64 d] 23) (heap_new (by first | omega | (simp; omega))))
      have cY_v1 : v1.heap[D + 1]? = some (.cells #[.int .i64 c, .int .i64 d] 23) := (hb_v1.block (D + 1) (Array.getElem?_eq_some_iff.1 (show ((w.alloc (.cells #[.int .i64 a, .int .i64 b] 23)).alloc (.cells #[.int .i64 c, .int .i64 d] 23)).heap[D + 1]? = some (.cells #[.int .i64 c, .int .i64 d] 23) from (heap_new (by first | omega | (simp; omega))))).1).trans (heap_new (by first | omega | (simp; omega)))
      have hw_v1 : Below D w v1 := ((((Below.refl _ w).alloc (by first | omega | (simp; omega)) (.cells #[.int .i64 a, .int .i64 b] 23)).alloc (by first | omega | (simp; omega)) (.cells #[.int .i64 c, .int .i64 d] 23))).trans (hb_v1.mono (by first | omega | (simp; omega)))
      clear hb_v1
      have ld2 : v1.heap[D]? = some (.cells #[.int .i64 a, .int .i64 b] 23) := cX_v1
      have y2_0 := cell2_0 ld2
      have y2_1 := cell2_1 ld2
      clear ld2
      go_wp2_with fail
      refine (CH.out _).mono ?_
      rintro e v3 ⟨rfl, hb_v3⟩
      have hs_v3 := hw_v1.size
      have cX_v3 : v3.heap[D]? = some (.cells #[.int .i64 a, .int .i64 b] 23) := (hb_v3.block (D) (Array.getElem?_eq_some_iff.1 (show v1.heap[D]? = some (.cells #[.int .i64 a, .int .i64 b] 23) from cX_v1)).1).trans cX_v1
      have cY_v3 : v3.heap[D + 1]? = some (.cells #[.int .i64 c, .int .i64 d] 23) := (hb_v3.block (D + 1) (Array.getElem?_eq_some_iff.1 (show v1.heap[D + 1]? = some (.cells #[.int .i64 c, .int .i64 d] 23) from cY_v1)).1).trans cY_v1
      have hw_v3 : Below D w v3 := (hw_v1).trans (hb_v3.mono (by first | omega | (simp; omega)))
      clear cX_v1 cY_v1 hb_v3 y2_0 y2_1 hw_v1 hs_v3
      have ld4 : v3.heap[D + 1]? = some (.cells #[.int .i64 c, .int .i64 d] 23) := cY_v3
      have y4_0 := cell2_0 ld4
      have y4_1 := cell2_1 ld4
      clear ld4
      go_wp2_with fail
      refine (CH2.out _).mono ?_
      rintro e v5 ⟨rfl, hb_v5⟩
      have hs_v5 := hw_v3.size
      have cX_v5 : v5.heap[D]? = some (.cells #[.int .i64 a, .int .i64 b] 23) := (hb_v5.block (D) (Array.getElem?_eq_some_iff.1 (show v3.heap[D]? = some (.cells #[.int .i64 a, .int .i64 b] 23) from cX_v3)).1).trans cX_v3
      have cY_v5 : v5.heap[D + 1]? = some (.cells #[.int .i64 c, .int .i64 d] 23) := (hb_v5.block (D + 1) (Array.getElem?_eq_some_iff.1 (show v3.heap[D + 1]? = some (.cells #[.int .i64 c, .int .i64 d] 23) from cY_v3)).1).trans cY_v3
      have hw_v5 : Below D w v5 := (hw_v3).trans (hb_v5.mono (by first | omega | (simp; omega)))
      clear cX_v3 cY_v3 hb_v5 y4_0 y4_1 hw_v3 hs_v5
      have ld6 : v5.heap[D]? = some (.cells #[.int .i64 a, .int .i64 b] 23) := cX_v5
      have y6_0 := cell2_0 ld6
      have y6_1 := cell2_1 ld6
      clear ld6
      have ld7 : v5.heap[D + 1]? = some (.cells #[.int .i64 c, .int .i64 d] 23) := cY_v5
      have y7_0 := cell2_0 ld7
      have y7_1 := cell2_1 ld7
      clear ld7
      have P21 : Pg v5 := P.below (by first | exact hw_v5 | (rw [hD]; exact hw_v5))
      go_wp2_with fail
      refine (SH.out _ P21.gi).mono ?_
      rintro e v8 ⟨rfl, hb_v8⟩
      have hs_v8 := hw_v5.size
      have cX_v8 : v8.heap[D]? = some (.cells #[.int .i64 a, .int .i64 b] 23) := (hb_v8.block (D) (Array.getElem?_eq_some_iff.1 (show v5.heap[D]? = some (.cells #[.int .i64 a, .int .i64 b] 23) from cX_v5)).1).trans cX_v5
      have cY_v8 : v8.heap[D + 1]? = some (.cells #[.int .i64 c, .int .i64 d] 23) := (hb_v8.block (D + 1) (Array.getElem?_eq_some_iff.1 (show v5.heap[D + 1]? = some (.cells #[.int .i64 c, .int .i64 d] 23) from cY_v5)).1).trans cY_v5
      have hw_v8 : Below D w v8 := (hw_v5).trans (hb_v8.mono (by first | omega | (simp; omega)))
      clear cX_v5 cY_v5 hb_v8 y6_0 y6_1 y7_0 y7_1 hw_v5 hs_v8
      have ld9 : v8.heap[D]? = some (.cells #[.int .i64 a, .int .i64 b] 23) := cX_v8
      have y9_0 := cell2_0 ld9
      have y9_1 := cell2_1 ld9
      clear ld9
      have ld10 : v8.heap[D + 1]? = some (.cells #[.int .i64 c, .int .i64 d] 23) := cY_v8
      have y10_0 := cell2_0 ld10
      have y10_1 := cell2_1 ld10
      clear ld10
      go_wp2_with fail
      refine (EX.out _).mono ?_
      rintro e v11 ⟨rfl, hb_v11⟩
      have hs_v11 := hw_v8.size
      have cX_v11 : v11.heap[D]? = some (.cells #[.int .i64 a, .int .i64 b] 23) := (hb_v11.block (D) (Array.getElem?_eq_some_iff.1 (show v8.heap[D]? = some (.cells #[.int .i64 a, .int .i64 b] 23) from cX_v8)).1).trans cX_v8
      have cY_v11 : v11.heap[D + 1]? = some (.cells #[.int .i64 c, .int .i64 d] 23) := (hb_v11.block (D + 1) (Array.getElem?_eq_some_iff.1 (show v8.heap[D + 1]? = some (.cells #[.int .i64 c, .int .i64 d] 23) from cY_v8)).1).trans cY_v8
      have hw_v11 : Below D w v11 := (hw_v8).trans (hb_v11.mono (by first | omega | (simp; omega)))
      clear cX_v8 cY_v8 hb_v11 y9_0 y9_1 y10_0 y10_1 hw_v8 hs_v11
      have ld12 : v11.heap[D]? = some (.cells #[.int .i64 a, .int .i64 b] 23) := cX_v11
      have y12_0 := cell2_0 ld12
      have y12_1 := cell2_1 ld12
      clear ld12
      have ld13 : v11.heap[D + 1]? = some (.cells #[.int .i64 c, .int .i64 d] 23) := cY_v11
      have y13_0 := cell2_0 ld13
      have y13_1 := cell2_1 ld13
      clear ld13
      go_wp2_with fail
      refine (CM.out _).mono ?_
      rintro e v14 ⟨rfl, hb_v14⟩
      have hs_v14 := hw_v11.size
      have cX_v14 : v14.heap[D]? = some (.cells #[.int .i64 a, .int .i64 b] 23) := (hb_v14.block (D) (Array.getElem?_eq_some_iff.1 (show v11.heap[D]? = some (.cells #[.int .i64 a, .int .i64 b] 23) from cX_v11)).1).trans cX_v11
      have cY_v14 : v14.heap[D + 1]? = some (.cells #[.int .i64 c, .int .i64 d] 23) := (hb_v14.block (D + 1) (Array.getElem?_eq_some_iff.1 (show v11.heap[D + 1]? = some (.cells #[.int .i64 c, .int .i64 d] 23) from cY_v11)).1).trans cY_v11
      have hw_v14 : Below D w v14 := (hw_v11).trans (hb_v14.mono (by first | omega | (simp; omega)))
      clear cX_v11 cY_v11 hb_v14 y12_0 y12_1 y13_0 y13_1 hw_v11 hs_v14
      have ld15 : v14.heap[D]? = some (.cells #[.int .i64 a, .int .i64 b] 23) := cX_v14
      have y15_0 := cell2_0 ld15
      have y15_1 := cell2_1 ld15
      clear ld15
      have ld16 : v14.heap[D + 1]? = some (.cells #[.int .i64 c, .int .i64 d] 23) := cY_v14
      have y16_0 := cell2_0 ld16
      have y16_1 := cell2_1 ld16
      clear ld16
      have eP : c * b = p := HP.out
      have eQ : d * a = q := HQ.out
      go_wp2_with fail
      refine (FF.out _).mono ?_
      rintro e v17 ⟨rfl, hb_v17⟩
      have hs_v17 := hw_v14.size
      have cX_v17 : v17.heap[D]? = some (.cells #[.int .i64 a, .int .i64 b] 23) := (hb_v17.block (D) (Array.getElem?_eq_some_iff.1 (show v14.heap[D]? = some (.cells #[.int .i64 a, .int .i64 b] 23) from cX_v14)).1).trans cX_v14
      have cY_v17 : v17.heap[D + 1]? = some (.cells #[.int .i64 c, .int .i64 d] 23) := (hb_v17.block (D + 1) (Array.getElem?_eq_some_iff.1 (show v14.heap[D + 1]? = some (.cells #[.int .i64 c, .int .i64 d] 23) from cY_v14)).1).trans cY_v14
      have hw_v17 : Below D w v17 := (hw_v14).trans (hb_v17.mono (by first | omega | (simp; omega)))
      clear cX_v14 cY_v14 hb_v17 y15_0 y15_1 y16_0 y16_1 eP eQ hw_v14 hs_v17
      obtain ⟨EQ, hEQ⟩ : ∃ E, v17.heap.size = E := ⟨_, rfl⟩
      have ld18 : (v17.alloc (.cells #[.int .i64 (x : Int), .int .i64 (y : Int)] 23)).heap[EQ]? = some (.cells #[.int .i64 (x : Int), .int .i64 (y : Int)] 23) := (heap_new (by first | omega | (simp; omega)))
      have y18_0 := cell2_0 ld18
      have y18_1 := cell2_1 ld18
      clear ld18
      have ld19 : (v17.alloc (.cells #[.int .i64 (x : Int), .int .i64 (y : Int)] 23)).heap[D]? = some (.cells #[.int .i64 a, .int .i64 b] 23) := (heap_old (o := .cells #[.int .i64 (x : Int), .int .i64 (y : Int)] 23) cX_v17)
      have y19_0 := cell2_0 ld19
      have y19_1 := cell2_1 ld19
      clear ld19
      have ld20 : (v17.alloc (.cells #[.int .i64 (x : Int), .int .i64 (y : Int)] 23)).heap[D + 1]? = some (.cells #[.int .i64 c, .int .i64 d] 23) := (heap_old (o := .cells #[.int .i64 (x : Int), .int .i64 (y : Int)] 23) cY_v17)
      have y20_0 := cell2_0 ld20
      have y20_1 := cell2_1 ld20
      clear ld20
      have P22 : Pg (v17.alloc (.cells #[.int .i64 (x : Int), .int .i64 (y : Int)] 23)) := P.below (by first | exact (hw_v17.alloc (by have := hw_v17.size; first | omega | (simp; omega)) (.cells #[.int .i64 (x : Int), .int .i64 (y : Int)] 23)) | (rw [hD]; exact (hw_v17.alloc (by have := hw_v17.size; first | omega | (simp; omega)) (.cells #[.int .i64 (x : Int), .int .i64 (y : Int)] 23))))
      go_wp2_with fail
      refine (LS.out _ P22.gi).mono ?_
      rintro e v21 ⟨rfl, hb_v21⟩
      have hs_v21 := hw_v17.size
      have cX_v21 : v21.heap[D]? = some (.cells #[.int .i64 a, .int .i64 b] 23) := (hb_v21.block (D) (Array.getElem?_eq_some_iff.1 (show (v17.alloc (.cells #[.int .i64 (x : Int), .int .i64 (y : Int)] 23)).heap[D]? = some (.cells #[.int .i64 a, .int .i64 b] 23) from (heap_old (o := .cells #[.int .i64 (x : Int), .int .i64 (y : Int)] 23) cX_v17))).1).trans (heap_old (o := .cells #[.int .i64 (x : Int), .int .i64 (y : Int)] 23) cX_v17)
      have cY_v21 : v21.heap[D + 1]? = some (.cells #[.int .i64 c, .int .i64 d] 23) := (hb_v21.block (D + 1) (Array.getElem?_eq_some_iff.1 (show (v17.alloc (.cells #[.int .i64 (x : Int), .int .i64 (y : Int)] 23)).heap[D + 1]? = some (.cells #[.int .i64 c, .int .i64 d] 23) from (heap_old (o := .cells #[.int .i64 (x : Int), .int .i64 (y : Int)] 23) cY_v17))).1).trans (heap_old (o := .cells #[.int .i64 (x : Int), .int .i64 (y : Int)] 23) cY_v17)
      have cQ_v21 : v21.heap[EQ]? = some (.cells #[.int .i64 (x : Int), .int .i64 (y : Int)] 23) := (hb_v21.block (EQ) (Array.getElem?_eq_some_iff.1 (show (v17.alloc (.cells #[.int .i64 (x : Int), .int .i64 (y : Int)] 23)).heap[EQ]? = some (.cells #[.int .i64 (x : Int), .int .i64 (y : Int)] 23) from (heap_new (by first | omega | (simp; omega))))).1).trans (heap_new (by first | omega | (simp; omega)))
      have hw_v21 : Below D w v21 := ((hw_v17.alloc (by have := hw_v17.size; first | omega | (simp; omega)) (.cells #[.int .i64 (x : Int), .int .i64 (y : Int)] 23))).trans (hb_v21.mono (by first | omega | (simp; omega)))
      clear cX_v17 cY_v17 hb_v21 y18_0 y18_1 y19_0 y19_1 y20_0 y20_1 hw_v17 hs_v21
      have ld22 : v21.heap[EQ]? = some (.cells #[.int .i64 (x : Int), .int .i64 (y : Int)] 23) := cQ_v21
      have y22_0 := cell2_0 ld22
      have y22_1 := cell2_1 ld22
      clear ld22
      have HW := Lib.hid (hw_v21)
      go_wp2_with fail
      refine (OX.out _).mono ?_
      rintro e wq ⟨rfl, rfl⟩
      go_wp2
      go_ret
      exact ⟨rfl, by first | exact HW.out | (rw [hD]; exact HW.out)⟩
  · have q1 : ¬ (x : Int) = (y : Int) := by omega
    have q2 : ¬ (x : Int) < (y : Int) := by omega
    clear hne hge hcm
    by_cases g1 : ox = 1
    · subst g1
      by_cases g2 : oy = 1
      · subst g2
        obtain rfl : v = true := by rw [HV.out]; rfl
        go_enter Tryz.func4, Tryz.ntmps4
        have P23 : Pg ((w.alloc (.cells #[.int .i64 a, .int .i64 b] 23)).alloc (.cells #[.int .i64 c, .int .i64 d] 23)) := P.below (by first | exact (((Below.refl _ w).alloc (by first | omega | (simp; omega)) (.cells #[.int .i64 a, .int .i64 b] 23)).alloc (by first | omega | (simp; omega)) (.cells #[.int .i64 c, .int .i64 d] 23)) | (rw [hD]; exact (((Below.refl _ w).alloc (by first | omega | (simp; omega)) (.cells #[.int .i64 a, .int .i64 b] 23)).alloc (by first | omega | (simp; omega)) (.cells #[.int .i64 c, .int .i64 d] 23))))
        go_wp2_with fail
        refine (KN.out _ P23).mono ?_
        rintro e v1 ⟨rfl, hb_v1⟩
        have cX_v1 : v1.heap[D]? = some (.cells #[.int .i64 a, .int .i64 b] 23) := (hb_v1.block (D) (Array.getElem?_eq_some_iff.1 (show ((w.alloc (.cells #[.int .i64 a, .int .i64 b] 23)).alloc (.cells #[.int .i64 c, .int .i64 d] 23)).heap[D]? = some (.cells #[.int .i64 a, .int .i64 b] 23) from (heap_old (o := .cells #[.int .i64 c, .int .i64 d] 23) (heap_new (by first | omega | (simp; omega)))))).1).trans (heap_old (o := .cells #[.int .i64 c, .int .i64 d] 23) (heap_new (by first | omega | (simp; omega))))
        have cY_v1 : v1.heap[D + 1]? = some (.cells #[.int .i64 c, .int .i64 d] 23) := (hb_v1.block (D + 1) (Array.getElem?_eq_some_iff.1 (show ((w.alloc (.cells #[.int .i64 a, .int .i64 b] 23)).alloc (.cells #[.int .i64 c, .int .i64 d] 23)).heap[D + 1]? = some (.cells #[.int .i64 c, .int .i64 d] 23) from (heap_new (by first | omega | (simp; omega))))).1).trans (heap_new (by first | omega | (simp; omega)))
        have hw_v1 : Below D w v1 := ((((Below.refl _ w).alloc (by first | omega | (simp; omega)) (.cells #[.int .i64 a, .int .i64 b] 23)).alloc (by first | omega | (simp; omega)) (.cells #[.int .i64 c, .int .i64 d] 23))).trans (hb_v1.mono (by first | omega | (simp; omega)))
        clear hb_v1
        have ld2 : v1.heap[D]? = some (.cells #[.int .i64 a, .int .i64 b] 23) := cX_v1
        have y2_0 := cell2_0 ld2
        have y2_1 := cell2_1 ld2
        clear ld2
        go_wp2_with fail
        refine (CH.out _).mono ?_
        rintro e v3 ⟨rfl, hb_v3⟩
        have hs_v3 := hw_v1.size
        have cX_v3 : v3.heap[D]? = some (.cells #[.int .i64 a, .int .i64 b] 23) := (hb_v3.block (D) (Array.getElem?_eq_some_iff.1 (show v1.heap[D]? = some (.cells #[.int .i64 a, .int .i64 b] 23) from cX_v1)).1).trans cX_v1
        have cY_v3 : v3.heap[D + 1]? = some (.cells #[.int .i64 c, .int .i64 d] 23) := (hb_v3.block (D + 1) (Array.getElem?_eq_some_iff.1 (show v1.heap[D + 1]? = some (.cells #[.int .i64 c, .int .i64 d] 23) from cY_v1)).1).trans cY_v1
        have hw_v3 : Below D w v3 := (hw_v1).trans (hb_v3.mono (by first | omega | (simp; omega)))
        clear cX_v1 cY_v1 hb_v3 y2_0 y2_1 hw_v1 hs_v3
        have ld4 : v3.heap[D + 1]? = some (.cells #[.int .i64 c, .int .i64 d] 23) := cY_v3
        have y4_0 := cell2_0 ld4
        have y4_1 := cell2_1 ld4
        clear ld4
        go_wp2_with fail
        refine (CH2.out _).mono ?_
        rintro e v5 ⟨rfl, hb_v5⟩
        have hs_v5 := hw_v3.size
        have cX_v5 : v5.heap[D]? = some (.cells #[.int .i64 a, .int .i64 b] 23) := (hb_v5.block (D) (Array.getElem?_eq_some_iff.1 (show v3.heap[D]? = some (.cells #[.int .i64 a, .int .i64 b] 23) from cX_v3)).1).trans cX_v3
        have cY_v5 : v5.heap[D + 1]? = some (.cells #[.int .i64 c, .int .i64 d] 23) := (hb_v5.block (D + 1) (Array.getElem?_eq_some_iff.1 (show v3.heap[D + 1]? = some (.cells #[.int .i64 c, .int .i64 d] 23) from cY_v3)).1).trans cY_v3
        have hw_v5 : Below D w v5 := (hw_v3).trans (hb_v5.mono (by first | omega | (simp; omega)))
        clear cX_v3 cY_v3 hb_v5 y4_0 y4_1 hw_v3 hs_v5
        have ld6 : v5.heap[D]? = some (.cells #[.int .i64 a, .int .i64 b] 23) := cX_v5
        have y6_0 := cell2_0 ld6
        have y6_1 := cell2_1 ld6
        clear ld6
        have ld7 : v5.heap[D + 1]? = some (.cells #[.int .i64 c, .int .i64 d] 23) := cY_v5
        have y7_0 := cell2_0 ld7
        have y7_1 := cell2_1 ld7
        clear ld7
        have P24 : Pg v5 := P.below (by first | exact hw_v5 | (rw [hD]; exact hw_v5))
        go_wp2_with fail
        refine (SH.out _ P24.gi).mono ?_
        rintro e v8 ⟨rfl, hb_v8⟩
        have hs_v8 := hw_v5.size
        have cX_v8 : v8.heap[D]? = some (.cells #[.int .i64 a, .int .i64 b] 23) := (hb_v8.block (D) (Array.getElem?_eq_some_iff.1 (show v5.heap[D]? = some (.cells #[.int .i64 a, .int .i64 b] 23) from cX_v5)).1).trans cX_v5
        have cY_v8 : v8.heap[D + 1]? = some (.cells #[.int .i64 c, .int .i64 d] 23) := (hb_v8.block (D + 1) (Array.getElem?_eq_some_iff.1 (show v5.heap[D + 1]? = some (.cells #[.int .i64 c, .int .i64 d] 23) from cY_v5)).1).trans cY_v5
        have hw_v8 : Below D w v8 := (hw_v5).trans (hb_v8.mono (by first | omega | (simp; omega)))
        clear cX_v5 cY_v5 hb_v8 y6_0 y6_1 y7_0 y7_1 hw_v5 hs_v8
        have ld9 : v8.heap[D]? = some (.cells #[.int .i64 a, .int .i64 b] 23) := cX_v8
        have y9_0 := cell2_0 ld9
        have y9_1 := cell2_1 ld9
        clear ld9
        have ld10 : v8.heap[D + 1]? = some (.cells #[.int .i64 c, .int .i64 d] 23) := cY_v8
        have y10_0 := cell2_0 ld10
        have y10_1 := cell2_1 ld10
        clear ld10
        go_wp2_with fail
        refine (EX.out _).mono ?_
        rintro e v11 ⟨rfl, hb_v11⟩
        have hs_v11 := hw_v8.size
        have cX_v11 : v11.heap[D]? = some (.cells #[.int .i64 a, .int .i64 b] 23) := (hb_v11.block (D) (Array.getElem?_eq_some_iff.1 (show v8.heap[D]? = some (.cells #[.int .i64 a, .int .i64 b] 23) from cX_v8)).1).trans cX_v8
        have cY_v11 : v11.heap[D + 1]? = some (.cells #[.int .i64 c, .int .i64 d] 23) := (hb_v11.block (D + 1) (Array.getElem?_eq_some_iff.1 (show v8.heap[D + 1]? = some (.cells #[.int .i64 c, .int .i64 d] 23) from cY_v8)).1).trans cY_v8
        have hw_v11 : Below D w v11 := (hw_v8).trans (hb_v11.mono (by first | omega | (simp; omega)))
        clear cX_v8 cY_v8 hb_v11 y9_0 y9_1 y10_0 y10_1 hw_v8 hs_v11
        have ld12 : v11.heap[D]? = some (.cells #[.int .i64 a, .int .i64 b] 23) := cX_v11
        have y12_0 := cell2_0 ld12
        have y12_1 := cell2_1 ld12
        clear ld12
        have ld13 : v11.heap[D + 1]? = some (.cells #[.int .i64 c, .int .i64 d] 23) := cY_v11
        have y13_0 := cell2_0 ld13
        have y13_1 := cell2_1 ld13
        clear ld13
        go_wp2_with fail
        refine (CM.out _).mono ?_
        rintro e v14 ⟨rfl, hb_v14⟩
        have hs_v14 := hw_v11.size
        have cX_v14 : v14.heap[D]? = some (.cells #[.int .i64 a, .int .i64 b] 23) := (hb_v14.block (D) (Array.getElem?_eq_some_iff.1 (show v11.heap[D]? = some (.cells #[.int .i64 a, .int .i64 b] 23) from cX_v11)).1).trans cX_v11
        have cY_v14 : v14.heap[D + 1]? = some (.cells #[.int .i64 c, .int .i64 d] 23) := (hb_v14.block (D + 1) (Array.getElem?_eq_some_iff.1 (show v11.heap[D + 1]? = some (.cells #[.int .i64 c, .int .i64 d] 23) from cY_v11)).1).trans cY_v11
        have hw_v14 : Below D w v14 := (hw_v11).trans (hb_v14.mono (by first | omega | (simp; omega)))
        clear cX_v11 cY_v11 hb_v14 y12_0 y12_1 y13_0 y13_1 hw_v11 hs_v14
        have ld15 : v14.heap[D]? = some (.cells #[.int .i64 a, .int .i64 b] 23) := cX_v14
        have y15_0 := cell2_0 ld15
        have y15_1 := cell2_1 ld15
        clear ld15
        have ld16 : v14.heap[D + 1]? = some (.cells #[.int .i64 c, .int .i64 d] 23) := cY_v14
        have y16_0 := cell2_0 ld16
        have y16_1 := cell2_1 ld16
        clear ld16
        have eP : c * b = p := HP.out
        have eQ : d * a = q := HQ.out
        go_wp2_with fail
        refine (FF.out _).mono ?_
        rintro e v17 ⟨rfl, hb_v17⟩
        have hs_v17 := hw_v14.size
        have cX_v17 : v17.heap[D]? = some (.cells #[.int .i64 a, .int .i64 b] 23) := (hb_v17.block (D) (Array.getElem?_eq_some_iff.1 (show v14.heap[D]? = some (.cells #[.int .i64 a, .int .i64 b] 23) from cX_v14)).1).trans cX_v14
        have cY_v17 : v17.heap[D + 1]? = some (.cells #[.int .i64 c, .int .i64 d] 23) := (hb_v17.block (D + 1) (Array.getElem?_eq_some_iff.1 (show v14.heap[D + 1]? = some (.cells #[.int .i64 c, .int .i64 d] 23) from cY_v14)).1).trans cY_v14
        have hw_v17 : Below D w v17 := (hw_v14).trans (hb_v17.mono (by first | omega | (simp; omega)))
        clear cX_v14 cY_v14 hb_v17 y15_0 y15_1 y16_0 y16_1 eP eQ hw_v14 hs_v17
        obtain ⟨EQ, hEQ⟩ : ∃ E, v17.heap.size = E := ⟨_, rfl⟩
        have ld18 : (v17.alloc (.cells #[.int .i64 (x : Int), .int .i64 (y : Int)] 23)).heap[EQ]? = some (.cells #[.int .i64 (x : Int), .int .i64 (y : Int)] 23) := (heap_new (by first | omega | (simp; omega)))
        have y18_0 := cell2_0 ld18
        have y18_1 := cell2_1 ld18
        clear ld18
        have ld19 : (v17.alloc (.cells #[.int .i64 (x : Int), .int .i64 (y : Int)] 23)).heap[D]? = some (.cells #[.int .i64 a, .int .i64 b] 23) := (heap_old (o := .cells #[.int .i64 (x : Int), .int .i64 (y : Int)] 23) cX_v17)
        have y19_0 := cell2_0 ld19
        have y19_1 := cell2_1 ld19
        clear ld19
        have ld20 : (v17.alloc (.cells #[.int .i64 (x : Int), .int .i64 (y : Int)] 23)).heap[D + 1]? = some (.cells #[.int .i64 c, .int .i64 d] 23) := (heap_old (o := .cells #[.int .i64 (x : Int), .int .i64 (y : Int)] 23) cY_v17)
        have y20_0 := cell2_0 ld20
        have y20_1 := cell2_1 ld20
        clear ld20
        have P25 : Pg (v17.alloc (.cells #[.int .i64 (x : Int), .int .i64 (y : Int)] 23)) := P.below (by first | exact (hw_v17.alloc (by have := hw_v17.size; first | omega | (simp; omega)) (.cells #[.int .i64 (x : Int), .int .i64 (y : Int)] 23)) | (rw [hD]; exact (hw_v17.alloc (by have := hw_v17.size; first | omega | (simp; omega)) (.cells #[.int .i64 (x : Int), .int .i64 (y : Int)] 23))))
        go_wp2_with fail
        refine (LS.out _ P25.gi).mono ?_
        rintro e v21 ⟨rfl, hb_v21⟩
        have hs_v21 := hw_v17.size
        have cX_v21 : v21.heap[D]? = some (.cells #[.int .i64 a, .int .i64 b] 23) := (hb_v21.block (D) (Array.getElem?_eq_some_iff.1 (show (v17.alloc (.cells #[.int .i64 (x : Int), .int .i64 (y : Int)] 23)).heap[D]? = some (.cells #[.int .i64 a, .int .i64 b] 23) from (heap_old (o := .cells #[.int .i64 (x : Int), .int .i64 (y : Int)] 23) cX_v17))).1).trans (heap_old (o := .cells #[.int .i64 (x : Int), .int .i64 (y : Int)] 23) cX_v17)
        have cY_v21 : v21.heap[D + 1]? = some (.cells #[.int .i64 c, .int .i64 d] 23) := (hb_v21.block (D + 1) (Array.getElem?_eq_some_iff.1 (show (v17.alloc (.cells #[.int .i64 (x : Int), .int .i64 (y : Int)] 23)).heap[D + 1]? = some (.cells #[.int .i64 c, .int .i64 d] 23) from (heap_old (o := .cells #[.int .i64 (x : Int), .int .i64 (y : Int)] 23) cY_v17))).1).trans (heap_old (o := .cells #[.int .i64 (x : Int), .int .i64 (y : Int)] 23) cY_v17)
        have cQ_v21 : v21.heap[EQ]? = some (.cells #[.int .i64 (x : Int), .int .i64 (y : Int)] 23) := (hb_v21.block (EQ) (Array.getElem?_eq_some_iff.1 (show (v17.alloc (.cells #[.int .i64 (x : Int), .int .i64 (y : Int)] 23)).heap[EQ]? = some (.cells #[.int .i64 (x : Int), .int .i64 (y : Int)] 23) from (heap_new (by first | omega | (simp; omega))))).1).trans (heap_new (by first | omega | (simp; omega)))
        have hw_v21 : Below D w v21 := ((hw_v17.alloc (by have := hw_v17.size; first | omega | (simp; omega)) (.cells #[.int .i64 (x : Int), .int .i64 (y : Int)] 23))).trans (hb_v21.mono (by first | omega | (simp; omega)))
        clear cX_v17 cY_v17 hb_v21 y18_0 y18_1 y19_0 y19_1 y20_0 y20_1 hw_v17 hs_v21
        have ld22 : v21.heap[EQ]? = some (.cells #[.int .i64 (x : Int), .int .i64 (y : Int)] 23) := cQ_v21
        have y22_0 := cell2_0 ld22
        have y22_1 := cell2_1 ld22
        clear ld22
        have HW := Lib.hid (hw_v21)
        go_wp2_with fail
        refine (OX.out _).mono ?_
        rintro e wq ⟨rfl, rfl⟩
        go_wp2_with fail
        refine (OY.out _).mono ?_
        rintro e wp ⟨rfl, rfl⟩
        go_wp2
        go_ret
        exact ⟨rfl, by first | exact HW.out | (rw [hD]; exact HW.out)⟩
      · obtain rfl : v = false := by rw [HV.out]; simp [g2]
        have g3 : ¬ (oy : Int) = 1 := by omega
        have g4 : ((oy : Int) == 1) = false := by rw [beq_eq_false_iff_ne]; exact g3
        go_enter Tryz.func4, Tryz.ntmps4
        have P26 : Pg ((w.alloc (.cells #[.int .i64 a, .int .i64 b] 23)).alloc (.cells #[.int .i64 c, .int .i64 d] 23)) := P.below (by first | exact (((Below.refl _ w).alloc (by first | omega | (simp; omega)) (.cells #[.int .i64 a, .int .i64 b] 23)).alloc (by first | omega | (simp; omega)) (.cells #[.int .i64 c, .int .i64 d] 23)) | (rw [hD]; exact (((Below.refl _ w).alloc (by first | omega | (simp; omega)) (.cells #[.int .i64 a, .int .i64 b] 23)).alloc (by first | omega | (simp; omega)) (.cells #[.int .i64 c, .int .i64 d] 23))))
        go_wp2_with fail
        refine (KN.out _ P26).mono ?_
        rintro e v1 ⟨rfl, hb_v1⟩
        have cX_v1 : v1.heap[D]? = some (.cells #[.int .i64 a, .int .i64 b] 23) := (hb_v1.block (D) (Array.getElem?_eq_some_iff.1 (show ((w.alloc (.cells #[.int .i64 a, .int .i64 b] 23)).alloc (.cells #[.int .i64 c, .int .i64 d] 23)).heap[D]? = some (.cells #[.int .i64 a, .int .i64 b] 23) from (heap_old (o := .cells #[.int .i64 c, .int .i64 d] 23) (heap_new (by first | omega | (simp; omega)))))).1).trans (heap_old (o := .cells #[.int .i64 c, .int .i64 d] 23) (heap_new (by first | omega | (simp; omega))))
        have cY_v1 : v1.heap[D + 1]? = some (.cells #[.int .i64 c, .int .i64 d] 23) := (hb_v1.block (D + 1) (Array.getElem?_eq_some_iff.1 (show ((w.alloc (.cells #[.int .i64 a, .int .i64 b] 23)).alloc (.cells #[.int .i64 c, .int .i64 d] 23)).heap[D + 1]? = some (.cells #[.int .i64 c, .int .i64 d] 23) from (heap_new (by first | omega | (simp; omega))))).1).trans (heap_new (by first | omega | (simp; omega)))
        have hw_v1 : Below D w v1 := ((((Below.refl _ w).alloc (by first | omega | (simp; omega)) (.cells #[.int .i64 a, .int .i64 b] 23)).alloc (by first | omega | (simp; omega)) (.cells #[.int .i64 c, .int .i64 d] 23))).trans (hb_v1.mono (by first | omega | (simp; omega)))
        clear hb_v1
        have ld2 : v1.heap[D]? = some (.cells #[.int .i64 a, .int .i64 b] 23) := cX_v1
        have y2_0 := cell2_0 ld2
        have y2_1 := cell2_1 ld2
        clear ld2
        go_wp2_with fail
        refine (CH.out _).mono ?_
        rintro e v3 ⟨rfl, hb_v3⟩
        have hs_v3 := hw_v1.size
        have cX_v3 : v3.heap[D]? = some (.cells #[.int .i64 a, .int .i64 b] 23) := (hb_v3.block (D) (Array.getElem?_eq_some_iff.1 (show v1.heap[D]? = some (.cells #[.int .i64 a, .int .i64 b] 23) from cX_v1)).1).trans cX_v1
        have cY_v3 : v3.heap[D + 1]? = some (.cells #[.int .i64 c, .int .i64 d] 23) := (hb_v3.block (D + 1) (Array.getElem?_eq_some_iff.1 (show v1.heap[D + 1]? = some (.cells #[.int .i64 c, .int .i64 d] 23) from cY_v1)).1).trans cY_v1
        have hw_v3 : Below D w v3 := (hw_v1).trans (hb_v3.mono (by first | omega | (simp; omega)))
        clear cX_v1 cY_v1 hb_v3 y2_0 y2_1 hw_v1 hs_v3
        have ld4 : v3.heap[D + 1]? = some (.cells #[.int .i64 c, .int .i64 d] 23) := cY_v3
        have y4_0 := cell2_0 ld4
        have y4_1 := cell2_1 ld4
        clear ld4
        go_wp2_with fail
        refine (CH2.out _).mono ?_
        rintro e v5 ⟨rfl, hb_v5⟩
        have hs_v5 := hw_v3.size
        have cX_v5 : v5.heap[D]? = some (.cells #[.int .i64 a, .int .i64 b] 23) := (hb_v5.block (D) (Array.getElem?_eq_some_iff.1 (show v3.heap[D]? = some (.cells #[.int .i64 a, .int .i64 b] 23) from cX_v3)).1).trans cX_v3
        have cY_v5 : v5.heap[D + 1]? = some (.cells #[.int .i64 c, .int .i64 d] 23) := (hb_v5.block (D + 1) (Array.getElem?_eq_some_iff.1 (show v3.heap[D + 1]? = some (.cells #[.int .i64 c, .int .i64 d] 23) from cY_v3)).1).trans cY_v3
        have hw_v5 : Below D w v5 := (hw_v3).trans (hb_v5.mono (by first | omega | (simp; omega)))
        clear cX_v3 cY_v3 hb_v5 y4_0 y4_1 hw_v3 hs_v5
        have ld6 : v5.heap[D]? = some (.cells #[.int .i64 a, .int .i64 b] 23) := cX_v5
        have y6_0 := cell2_0 ld6
        have y6_1 := cell2_1 ld6
        clear ld6
        have ld7 : v5.heap[D + 1]? = some (.cells #[.int .i64 c, .int .i64 d] 23) := cY_v5
        have y7_0 := cell2_0 ld7
        have y7_1 := cell2_1 ld7
        clear ld7
        have P27 : Pg v5 := P.below (by first | exact hw_v5 | (rw [hD]; exact hw_v5))
        go_wp2_with fail
        refine (SH.out _ P27.gi).mono ?_
        rintro e v8 ⟨rfl, hb_v8⟩
        have hs_v8 := hw_v5.size
        have cX_v8 : v8.heap[D]? = some (.cells #[.int .i64 a, .int .i64 b] 23) := (hb_v8.block (D) (Array.getElem?_eq_some_iff.1 (show v5.heap[D]? = some (.cells #[.int .i64 a, .int .i64 b] 23) from cX_v5)).1).trans cX_v5
        have cY_v8 : v8.heap[D + 1]? = some (.cells #[.int .i64 c, .int .i64 d] 23) := (hb_v8.block (D + 1) (Array.getElem?_eq_some_iff.1 (show v5.heap[D + 1]? = some (.cells #[.int .i64 c, .int .i64 d] 23) from cY_v5)).1).trans cY_v5
        have hw_v8 : Below D w v8 := (hw_v5).trans (hb_v8.mono (by first | omega | (simp; omega)))
        clear cX_v5 cY_v5 hb_v8 y6_0 y6_1 y7_0 y7_1 hw_v5 hs_v8
        have ld9 : v8.heap[D]? = some (.cells #[.int .i64 a, .int .i64 b] 23) := cX_v8
        have y9_0 := cell2_0 ld9
        have y9_1 := cell2_1 ld9
        clear ld9
        have ld10 : v8.heap[D + 1]? = some (.cells #[.int .i64 c, .int .i64 d] 23) := cY_v8
        have y10_0 := cell2_0 ld10
        have y10_1 := cell2_1 ld10
        clear ld10
        go_wp2_with fail
        refine (EX.out _).mono ?_
        rintro e v11 ⟨rfl, hb_v11⟩
        have hs_v11 := hw_v8.size
        have cX_v11 : v11.heap[D]? = some (.cells #[.int .i64 a, .int .i64 b] 23) := (hb_v11.block (D) (Array.getElem?_eq_some_iff.1 (show v8.heap[D]? = some (.cells #[.int .i64 a, .int .i64 b] 23) from cX_v8)).1).trans cX_v8
        have cY_v11 : v11.heap[D + 1]? = some (.cells #[.int .i64 c, .int .i64 d] 23) := (hb_v11.block (D + 1) (Array.getElem?_eq_some_iff.1 (show v8.heap[D + 1]? = some (.cells #[.int .i64 c, .int .i64 d] 23) from cY_v8)).1).trans cY_v8
        have hw_v11 : Below D w v11 := (hw_v8).trans (hb_v11.mono (by first | omega | (simp; omega)))
        clear cX_v8 cY_v8 hb_v11 y9_0 y9_1 y10_0 y10_1 hw_v8 hs_v11
        have ld12 : v11.heap[D]? = some (.cells #[.int .i64 a, .int .i64 b] 23) := cX_v11
        have y12_0 := cell2_0 ld12
        have y12_1 := cell2_1 ld12
        clear ld12
        have ld13 : v11.heap[D + 1]? = some (.cells #[.int .i64 c, .int .i64 d] 23) := cY_v11
        have y13_0 := cell2_0 ld13
        have y13_1 := cell2_1 ld13
        clear ld13
        go_wp2_with fail
        refine (CM.out _).mono ?_
        rintro e v14 ⟨rfl, hb_v14⟩
        have hs_v14 := hw_v11.size
        have cX_v14 : v14.heap[D]? = some (.cells #[.int .i64 a, .int .i64 b] 23) := (hb_v14.block (D) (Array.getElem?_eq_some_iff.1 (show v11.heap[D]? = some (.cells #[.int .i64 a, .int .i64 b] 23) from cX_v11)).1).trans cX_v11
        have cY_v14 : v14.heap[D + 1]? = some (.cells #[.int .i64 c, .int .i64 d] 23) := (hb_v14.block (D + 1) (Array.getElem?_eq_some_iff.1 (show v11.heap[D + 1]? = some (.cells #[.int .i64 c, .int .i64 d] 23) from cY_v11)).1).trans cY_v11
        have hw_v14 : Below D w v14 := (hw_v11).trans (hb_v14.mono (by first | omega | (simp; omega)))
        clear cX_v11 cY_v11 hb_v14 y12_0 y12_1 y13_0 y13_1 hw_v11 hs_v14
        have ld15 : v14.heap[D]? = some (.cells #[.int .i64 a, .int .i64 b] 23) := cX_v14
        have y15_0 := cell2_0 ld15
        have y15_1 := cell2_1 ld15
        clear ld15
        have ld16 : v14.heap[D + 1]? = some (.cells #[.int .i64 c, .int .i64 d] 23) := cY_v14
        have y16_0 := cell2_0 ld16
        have y16_1 := cell2_1 ld16
        clear ld16
        have eP : c * b = p := HP.out
        have eQ : d * a = q := HQ.out
        go_wp2_with fail
        refine (FF.out _).mono ?_
        rintro e v17 ⟨rfl, hb_v17⟩
        have hs_v17 := hw_v14.size
        have cX_v17 : v17.heap[D]? = some (.cells #[.int .i64 a, .int .i64 b] 23) := (hb_v17.block (D) (Array.getElem?_eq_some_iff.1 (show v14.heap[D]? = some (.cells #[.int .i64 a, .int .i64 b] 23) from cX_v14)).1).trans cX_v14
        have cY_v17 : v17.heap[D + 1]? = some (.cells #[.int .i64 c, .int .i64 d] 23) := (hb_v17.block (D + 1) (Array.getElem?_eq_some_iff.1 (show v14.heap[D + 1]? = some (.cells #[.int .i64 c, .int .i64 d] 23) from cY_v14)).1).trans cY_v14
        have hw_v17 : Below D w v17 := (hw_v14).trans (hb_v17.mono (by first | omega | (simp; omega)))
        clear cX_v14 cY_v14 hb_v17 y15_0 y15_1 y16_0 y16_1 eP eQ hw_v14 hs_v17
        obtain ⟨EQ, hEQ⟩ : ∃ E, v17.heap.size = E := ⟨_, rfl⟩
        have ld18 : (v17.alloc (.cells #[.int .i64 (x : Int), .int .i64 (y : Int)] 23)).heap[EQ]? = some (.cells #[.int .i64 (x : Int), .int .i64 (y : Int)] 23) := (heap_new (by first | omega | (simp; omega)))
        have y18_0 := cell2_0 ld18
        have y18_1 := cell2_1 ld18
        clear ld18
        have ld19 : (v17.alloc (.cells #[.int .i64 (x : Int), .int .i64 (y : Int)] 23)).heap[D]? = some (.cells #[.int .i64 a, .int .i64 b] 23) := (heap_old (o := .cells #[.int .i64 (x : Int), .int .i64 (y : Int)] 23) cX_v17)
        have y19_0 := cell2_0 ld19
        have y19_1 := cell2_1 ld19
        clear ld19
        have ld20 : (v17.alloc (.cells #[.int .i64 (x : Int), .int .i64 (y : Int)] 23)).heap[D + 1]? = some (.cells #[.int .i64 c, .int .i64 d] 23) := (heap_old (o := .cells #[.int .i64 (x : Int), .int .i64 (y : Int)] 23) cY_v17)
        have y20_0 := cell2_0 ld20
        have y20_1 := cell2_1 ld20
        clear ld20
        have P28 : Pg (v17.alloc (.cells #[.int .i64 (x : Int), .int .i64 (y : Int)] 23)) := P.below (by first | exact (hw_v17.alloc (by have := hw_v17.size; first | omega | (simp; omega)) (.cells #[.int .i64 (x : Int), .int .i64 (y : Int)] 23)) | (rw [hD]; exact (hw_v17.alloc (by have := hw_v17.size; first | omega | (simp; omega)) (.cells #[.int .i64 (x : Int), .int .i64 (y : Int)] 23))))
        go_wp2_with fail
        refine (LS.out _ P28.gi).mono ?_
        rintro e v21 ⟨rfl, hb_v21⟩
        have hs_v21 := hw_v17.size
        have cX_v21 : v21.heap[D]? = some (.cells #[.int .i64 a, .int .i64 b] 23) := (hb_v21.block (D) (Array.getElem?_eq_some_iff.1 (show (v17.alloc (.cells #[.int .i64 (x : Int), .int .i64 (y : Int)] 23)).heap[D]? = some (.cells #[.int .i64 a, .int .i64 b] 23) from (heap_old (o := .cells #[.int .i64 (x : Int), .int .i64 (y : Int)] 23) cX_v17))).1).trans (heap_old (o := .cells #[.int .i64 (x : Int), .int .i64 (y : Int)] 23) cX_v17)
        have cY_v21 : v21.heap[D + 1]? = some (.cells #[.int .i64 c, .int .i64 d] 23) := (hb_v21.block (D + 1) (Array.getElem?_eq_some_iff.1 (show (v17.alloc (.cells #[.int .i64 (x : Int), .int .i64 (y : Int)] 23)).heap[D + 1]? = some (.cells #[.int .i64 c, .int .i64 d] 23) from (heap_old (o := .cells #[.int .i64 (x : Int), .int .i64 (y : Int)] 23) cY_v17))).1).trans (heap_old (o := .cells #[.int .i64 (x : Int), .int .i64 (y : Int)] 23) cY_v17)
        have cQ_v21 : v21.heap[EQ]? = some (.cells #[.int .i64 (x : Int), .int .i64 (y : Int)] 23) := (hb_v21.block (EQ) (Array.getElem?_eq_some_iff.1 (show (v17.alloc (.cells #[.int .i64 (x : Int), .int .i64 (y : Int)] 23)).heap[EQ]? = some (.cells #[.int .i64 (x : Int), .int .i64 (y : Int)] 23) from (heap_new (by first | omega | (simp; omega))))).1).trans (heap_new (by first | omega | (simp; omega)))
        have hw_v21 : Below D w v21 := ((hw_v17.alloc (by have := hw_v17.size; first | omega | (simp; omega)) (.cells #[.int .i64 (x : Int), .int .i64 (y : Int)] 23))).trans (hb_v21.mono (by first | omega | (simp; omega)))
        clear cX_v17 cY_v17 hb_v21 y18_0 y18_1 y19_0 y19_1 y20_0 y20_1 hw_v17 hs_v21
        have ld22 : v21.heap[EQ]? = some (.cells #[.int .i64 (x : Int), .int .i64 (y : Int)] 23) := cQ_v21
        have y22_0 := cell2_0 ld22
        have y22_1 := cell2_1 ld22
        clear ld22
        have HW := Lib.hid (hw_v21)
        go_wp2_with fail
        refine (OX.out _).mono ?_
        rintro e wq ⟨rfl, rfl⟩
        go_wp2_with fail
        refine (OY.out _).mono ?_
        rintro e wp ⟨rfl, rfl⟩
        go_wp2
        go_ret
        exact ⟨rfl, by first | exact HW.out | (rw [hD]; exact HW.out)⟩
    · obtain rfl : v = false := by rw [HV.out]; simp [g1]
      have g3 : ¬ (ox : Int) = 1 := by omega
      go_enter Tryz.func4, Tryz.ntmps4
      have P29 : Pg ((w.alloc (.cells #[.int .i64 a, .int .i64 b] 23)).alloc (.cells #[.int .i64 c, .int .i64 d] 23)) := P.below (by first | exact (((Below.refl _ w).alloc (by first | omega | (simp; omega)) (.cells #[.int .i64 a, .int .i64 b] 23)).alloc (by first | omega | (simp; omega)) (.cells #[.int .i64 c, .int .i64 d] 23)) | (rw [hD]; exact (((Below.refl _ w).alloc (by first | omega | (simp; omega)) (.cells #[.int .i64 a, .int .i64 b] 23)).alloc (by first | omega | (simp; omega)) (.cells #[.int .i64 c, .int .i64 d] 23))))
      go_wp2_with fail
      refine (KN.out _ P29).mono ?_
      rintro e v1 ⟨rfl, hb_v1⟩
      have cX_v1 : v1.heap[D]? = some (.cells #[.int .i64 a, .int .i64 b] 23) := (hb_v1.block (D) (Array.getElem?_eq_some_iff.1 (show ((w.alloc (.cells #[.int .i64 a, .int .i64 b] 23)).alloc (.cells #[.int .i64 c, .int .i64 d] 23)).heap[D]? = some (.cells #[.int .i64 a, .int .i64 b] 23) from (heap_old (o := .cells #[.int .i64 c, .int .i64 d] 23) (heap_new (by first | omega | (simp; omega)))))).1).trans (heap_old (o := .cells #[.int .i64 c, .int .i64 d] 23) (heap_new (by first | omega | (simp; omega))))
      have cY_v1 : v1.heap[D + 1]? = some (.cells #[.int .i64 c, .int .i64 d] 23) := (hb_v1.block (D + 1) (Array.getElem?_eq_some_iff.1 (show ((w.alloc (.cells #[.int .i64 a, .int .i64 b] 23)).alloc (.cells #[.int .i64 c, .int .i64 d] 23)).heap[D + 1]? = some (.cells #[.int .i64 c, .int .i64 d] 23) from (heap_new (by first | omega | (simp; omega))))).1).trans (heap_new (by first | omega | (simp; omega)))
      have hw_v1 : Below D w v1 := ((((Below.refl _ w).alloc (by first | omega | (simp; omega)) (.cells #[.int .i64 a, .int .i64 b] 23)).alloc (by first | omega | (simp; omega)) (.cells #[.int .i64 c, .int .i64 d] 23))).trans (hb_v1.mono (by first | omega | (simp; omega)))
      clear hb_v1
      have ld2 : v1.heap[D]? = some (.cells #[.int .i64 a, .int .i64 b] 23) := cX_v1
      have y2_0 := cell2_0 ld2
      have y2_1 := cell2_1 ld2
      clear ld2
      go_wp2_with fail
      refine (CH.out _).mono ?_
      rintro e v3 ⟨rfl, hb_v3⟩
      have hs_v3 := hw_v1.size
      have cX_v3 : v3.heap[D]? = some (.cells #[.int .i64 a, .int .i64 b] 23) := (hb_v3.block (D) (Array.getElem?_eq_some_iff.1 (show v1.heap[D]? = some (.cells #[.int .i64 a, .int .i64 b] 23) from cX_v1)).1).trans cX_v1
      have cY_v3 : v3.heap[D + 1]? = some (.cells #[.int .i64 c, .int .i64 d] 23) := (hb_v3.block (D + 1) (Array.getElem?_eq_some_iff.1 (show v1.heap[D + 1]? = some (.cells #[.int .i64 c, .int .i64 d] 23) from cY_v1)).1).trans cY_v1
      have hw_v3 : Below D w v3 := (hw_v1).trans (hb_v3.mono (by first | omega | (simp; omega)))
      clear cX_v1 cY_v1 hb_v3 y2_0 y2_1 hw_v1 hs_v3
      have ld4 : v3.heap[D + 1]? = some (.cells #[.int .i64 c, .int .i64 d] 23) := cY_v3
      have y4_0 := cell2_0 ld4
      have y4_1 := cell2_1 ld4
      clear ld4
      go_wp2_with fail
      refine (CH2.out _).mono ?_
      rintro e v5 ⟨rfl, hb_v5⟩
      have hs_v5 := hw_v3.size
      have cX_v5 : v5.heap[D]? = some (.cells #[.int .i64 a, .int .i64 b] 23) := (hb_v5.block (D) (Array.getElem?_eq_some_iff.1 (show v3.heap[D]? = some (.cells #[.int .i64 a, .int .i64 b] 23) from cX_v3)).1).trans cX_v3
      have cY_v5 : v5.heap[D + 1]? = some (.cells #[.int .i64 c, .int .i64 d] 23) := (hb_v5.block (D + 1) (Array.getElem?_eq_some_iff.1 (show v3.heap[D + 1]? = some (.cells #[.int .i64 c, .int .i64 d] 23) from cY_v3)).1).trans cY_v3
      have hw_v5 : Below D w v5 := (hw_v3).trans (hb_v5.mono (by first | omega | (simp; omega)))
      clear cX_v3 cY_v3 hb_v5 y4_0 y4_1 hw_v3 hs_v5
      have ld6 : v5.heap[D]? = some (.cells #[.int .i64 a, .int .i64 b] 23) := cX_v5
      have y6_0 := cell2_0 ld6
      have y6_1 := cell2_1 ld6
      clear ld6
      have ld7 : v5.heap[D + 1]? = some (.cells #[.int .i64 c, .int .i64 d] 23) := cY_v5
      have y7_0 := cell2_0 ld7
      have y7_1 := cell2_1 ld7
      clear ld7
      have P30 : Pg v5 := P.below (by first | exact hw_v5 | (rw [hD]; exact hw_v5))
      go_wp2_with fail
      refine (SH.out _ P30.gi).mono ?_
      rintro e v8 ⟨rfl, hb_v8⟩
      have hs_v8 := hw_v5.size
      have cX_v8 : v8.heap[D]? = some (.cells #[.int .i64 a, .int .i64 b] 23) := (hb_v8.block (D) (Array.getElem?_eq_some_iff.1 (show v5.heap[D]? = some (.cells #[.int .i64 a, .int .i64 b] 23) from cX_v5)).1).trans cX_v5
      have cY_v8 : v8.heap[D + 1]? = some (.cells #[.int .i64 c, .int .i64 d] 23) := (hb_v8.block (D + 1) (Array.getElem?_eq_some_iff.1 (show v5.heap[D + 1]? = some (.cells #[.int .i64 c, .int .i64 d] 23) from cY_v5)).1).trans cY_v5
      have hw_v8 : Below D w v8 := (hw_v5).trans (hb_v8.mono (by first | omega | (simp; omega)))
      clear cX_v5 cY_v5 hb_v8 y6_0 y6_1 y7_0 y7_1 hw_v5 hs_v8
      have ld9 : v8.heap[D]? = some (.cells #[.int .i64 a, .int .i64 b] 23) := cX_v8
      have y9_0 := cell2_0 ld9
      have y9_1 := cell2_1 ld9
      clear ld9
      have ld10 : v8.heap[D + 1]? = some (.cells #[.int .i64 c, .int .i64 d] 23) := cY_v8
      have y10_0 := cell2_0 ld10
      have y10_1 := cell2_1 ld10
      clear ld10
      go_wp2_with fail
      refine (EX.out _).mono ?_
      rintro e v11 ⟨rfl, hb_v11⟩
      have hs_v11 := hw_v8.size
      have cX_v11 : v11.heap[D]? = some (.cells #[.int .i64 a, .int .i64 b] 23) := (hb_v11.block (D) (Array.getElem?_eq_some_iff.1 (show v8.heap[D]? = some (.cells #[.int .i64 a, .int .i64 b] 23) from cX_v8)).1).trans cX_v8
      have cY_v11 : v11.heap[D + 1]? = some (.cells #[.int .i64 c, .int .i64 d] 23) := (hb_v11.block (D + 1) (Array.getElem?_eq_some_iff.1 (show v8.heap[D + 1]? = some (.cells #[.int .i64 c, .int .i64 d] 23) from cY_v8)).1).trans cY_v8
      have hw_v11 : Below D w v11 := (hw_v8).trans (hb_v11.mono (by first | omega | (simp; omega)))
      clear cX_v8 cY_v8 hb_v11 y9_0 y9_1 y10_0 y10_1 hw_v8 hs_v11
      have ld12 : v11.heap[D]? = some (.cells #[.int .i64 a, .int .i64 b] 23) := cX_v11
      have y12_0 := cell2_0 ld12
      have y12_1 := cell2_1 ld12
      clear ld12
      have ld13 : v11.heap[D + 1]? = some (.cells #[.int .i64 c, .int .i64 d] 23) := cY_v11
      have y13_0 := cell2_0 ld13
      have y13_1 := cell2_1 ld13
      clear ld13
      go_wp2_with fail
      refine (CM.out _).mono ?_
      rintro e v14 ⟨rfl, hb_v14⟩
      have hs_v14 := hw_v11.size
      have cX_v14 : v14.heap[D]? = some (.cells #[.int .i64 a, .int .i64 b] 23) := (hb_v14.block (D) (Array.getElem?_eq_some_iff.1 (show v11.heap[D]? = some (.cells #[.int .i64 a, .int .i64 b] 23) from cX_v11)).1).trans cX_v11
      have cY_v14 : v14.heap[D + 1]? = some (.cells #[.int .i64 c, .int .i64 d] 23) := (hb_v14.block (D + 1) (Array.getElem?_eq_some_iff.1 (show v11.heap[D + 1]? = some (.cells #[.int .i64 c, .int .i64 d] 23) from cY_v11)).1).trans cY_v11
      have hw_v14 : Below D w v14 := (hw_v11).trans (hb_v14.mono (by first | omega | (simp; omega)))
      clear cX_v11 cY_v11 hb_v14 y12_0 y12_1 y13_0 y13_1 hw_v11 hs_v14
      have ld15 : v14.heap[D]? = some (.cells #[.int .i64 a, .int .i64 b] 23) := cX_v14
      have y15_0 := cell2_0 ld15
      have y15_1 := cell2_1 ld15
      clear ld15
      have ld16 : v14.heap[D + 1]? = some (.cells #[.int .i64 c, .int .i64 d] 23) := cY_v14
      have y16_0 := cell2_0 ld16
      have y16_1 := cell2_1 ld16
      clear ld16
      have eP : c * b = p := HP.out
      have eQ : d * a = q := HQ.out
      go_wp2_with fail
      refine (FF.out _).mono ?_
      rintro e v17 ⟨rfl, hb_v17⟩
      have hs_v17 := hw_v14.size
      have cX_v17 : v17.heap[D]? = some (.cells #[.int .i64 a, .int .i64 b] 23) := (hb_v17.block (D) (Array.getElem?_eq_some_iff.1 (show v14.heap[D]? = some (.cells #[.int .i64 a, .int .i64 b] 23) from cX_v14)).1).trans cX_v14
      have cY_v17 : v17.heap[D + 1]? = some (.cells #[.int .i64 c, .int .i64 d] 23) := (hb_v17.block (D + 1) (Array.getElem?_eq_some_iff.1 (show v14.heap[D + 1]? = some (.cells #[.int .i64 c, .int .i64 d] 23) from cY_v14)).1).trans cY_v14
      have hw_v17 : Below D w v17 := (hw_v14).trans (hb_v17.mono (by first | omega | (simp; omega)))
      clear cX_v14 cY_v14 hb_v17 y15_0 y15_1 y16_0 y16_1 eP eQ hw_v14 hs_v17
      obtain ⟨EQ, hEQ⟩ : ∃ E, v17.heap.size = E := ⟨_, rfl⟩
      have ld18 : (v17.alloc (.cells #[.int .i64 (x : Int), .int .i64 (y : Int)] 23)).heap[EQ]? = some (.cells #[.int .i64 (x : Int), .int .i64 (y : Int)] 23) := (heap_new (by first | omega | (simp; omega)))
      have y18_0 := cell2_0 ld18
      have y18_1 := cell2_1 ld18
      clear ld18
      have ld19 : (v17.alloc (.cells #[.int .i64 (x : Int), .int .i64 (y : Int)] 23)).heap[D]? = some (.cells #[.int .i64 a, .int .i64 b] 23) := (heap_old (o := .cells #[.int .i64 (x : Int), .int .i64 (y : Int)] 23) cX_v17)
      have y19_0 := cell2_0 ld19
      have y19_1 := cell2_1 ld19
      clear ld19
      have ld20 : (v17.alloc (.cells #[.int .i64 (x : Int), .int .i64 (y : Int)] 23)).heap[D + 1]? = some (.cells #[.int .i64 c, .int .i64 d] 23) := (heap_old (o := .cells #[.int .i64 (x : Int), .int .i64 (y : Int)] 23) cY_v17)
      have y20_0 := cell2_0 ld20
      have y20_1 := cell2_1 ld20
      clear ld20
      have P31 : Pg (v17.alloc (.cells #[.int .i64 (x : Int), .int .i64 (y : Int)] 23)) := P.below (by first | exact (hw_v17.alloc (by have := hw_v17.size; first | omega | (simp; omega)) (.cells #[.int .i64 (x : Int), .int .i64 (y : Int)] 23)) | (rw [hD]; exact (hw_v17.alloc (by have := hw_v17.size; first | omega | (simp; omega)) (.cells #[.int .i64 (x : Int), .int .i64 (y : Int)] 23))))
      go_wp2_with fail
      refine (LS.out _ P31.gi).mono ?_
      rintro e v21 ⟨rfl, hb_v21⟩
      have hs_v21 := hw_v17.size
      have cX_v21 : v21.heap[D]? = some (.cells #[.int .i64 a, .int .i64 b] 23) := (hb_v21.block (D) (Array.getElem?_eq_some_iff.1 (show (v17.alloc (.cells #[.int .i64 (x : Int), .int .i64 (y : Int)] 23)).heap[D]? = some (.cells #[.int .i64 a, .int .i64 b] 23) from (heap_old (o := .cells #[.int .i64 (x : Int), .int .i64 (y : Int)] 23) cX_v17))).1).trans (heap_old (o := .cells #[.int .i64 (x : Int), .int .i64 (y : Int)] 23) cX_v17)
      have cY_v21 : v21.heap[D + 1]? = some (.cells #[.int .i64 c, .int .i64 d] 23) := (hb_v21.block (D + 1) (Array.getElem?_eq_some_iff.1 (show (v17.alloc (.cells #[.int .i64 (x : Int), .int .i64 (y : Int)] 23)).heap[D + 1]? = some (.cells #[.int .i64 c, .int .i64 d] 23) from (heap_old (o := .cells #[.int .i64 (x : Int), .int .i64 (y : Int)] 23) cY_v17))).1).trans (heap_old (o := .cells #[.int .i64 (x : Int), .int .i64 (y : Int)] 23) cY_v17)
      have cQ_v21 : v21.heap[EQ]? = some (.cells #[.int .i64 (x : Int), .int .i64 (y : Int)] 23) := (hb_v21.block (EQ) (Array.getElem?_eq_some_iff.1 (show (v17.alloc (.cells #[.int .i64 (x : Int), .int .i64 (y : Int)] 23)).heap[EQ]? = some (.cells #[.int .i64 (x : Int), .int .i64 (y : Int)] 23) from (heap_new (by first | omega | (simp; omega))))).1).trans (heap_new (by first | omega | (simp; omega)))
      have hw_v21 : Below D w v21 := ((hw_v17.alloc (by have := hw_v17.size; first | omega | (simp; omega)) (.cells #[.int .i64 (x : Int), .int .i64 (y : Int)] 23))).trans (hb_v21.mono (by first | omega | (simp; omega)))
      clear cX_v17 cY_v17 hb_v21 y18_0 y18_1 y19_0 y19_1 y20_0 y20_1 hw_v17 hs_v21
      have ld22 : v21.heap[EQ]? = some (.cells #[.int .i64 (x : Int), .int .i64 (y : Int)] 23) := cQ_v21
      have y22_0 := cell2_0 ld22
      have y22_1 := cell2_1 ld22
      clear ld22
      have HW := Lib.hid (hw_v21)
      go_wp2_with fail
      refine (OX.out _).mono ?_
      rintro e wq ⟨rfl, rfl⟩
      go_wp2
      go_ret
      exact ⟨rfl, by first | exact HW.out | (rw [hD]; exact HW.out)⟩

theorem shifts_law (a b c d : Int) (w : World) (P : Pg w) : Calls Tryz.prog 4 #[.agg #[.int .i64 a, .int .i64 b], .agg #[.int .i64 c, .int .i64 d]] w fun e w' => e = .returned (.bool true) ∧ Below w.heap.size w w' := by
  by_cases h1 : pk a b = 0
  · by_cases h2 : pk c d = 0
    · exact shifts_ok a b c d h1 h2 w P
    · exact shifts_bad2 a b c d h1 h2 w P
  · exact shifts_bad1 a b c d h1 w P
end Go.Proofs.YtkoljddejjfbiaaGreatDoor
