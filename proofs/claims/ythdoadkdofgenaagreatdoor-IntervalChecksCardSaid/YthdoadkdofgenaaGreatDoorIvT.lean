/- The walk of IntervalChecks. -/
import Derived.Test.YthdoadkdofgenaaGreatDoorIvMathC
import Derived.Test.YthdoadkdofgenaaGreatDoorIvS
namespace Go.Proofs.YthdoadkdofgenaaGreatDoor
open Go Go.RowKit Go.Shelf

theorem fifth_of (W : World) : Calls Tryz.prog 15 #[.int .i64 (-1), .int .i64 1, .int .i64 0] W fun e w' => e = .returned (.tuple #[.agg #[.int .i64 (-1), .int .i64 1, .int .i64 1, .int .i64 1, .int .i64 0, .int .i64 1], .int .i64 0]) ∧ Below W.heap.size W w' := by
  have h := ivof_any (-1) 1 0 W (by decide) (by decide) (by decide) (by decide) (by decide) (by decide)
  rw [show szN (-1) (-1) 1 0 1 = -1 by kernel_rfl, show szD (-1) (-1) 1 0 1 = 1 by kernel_rfl, show szN 1 (-1) 1 0 1 = 1 by kernel_rfl, show szD 1 (-1) 1 0 1 = 1 by kernel_rfl, show szN 0 (-1) 1 0 1 = 0 by kernel_rfl, show szD 0 (-1) 1 0 1 = 1 by kernel_rfl, show szE (-1) 1 0 1 = 0 by kernel_rfl] at h
  exact h
set_option maxRecDepth 100000 in
set_option maxHeartbeats 8000000 in
theorem checks_walk (x0 x1 x2 x3 x4 x5 : Int) (w : World) (G : Gi w) (N : Nm w) :
    Calls Tryz.prog 3 #[.agg #[.int .i64 x0, .int .i64 x1, .int .i64 x2, .int .i64 x3, .int .i64 x4, .int .i64 x5]] w fun e w' => e = .returned (.bool true) ∧ Below w.heap.size w w' := by
  have KN := Lib.hid (fun W (G : Gi W) (N : Nm W) => lknown_any W G N)
  have RD := Lib.hid (fun W => lread_any x0 x1 x2 x3 x4 x5 W)
  have CK := Lib.hid (fun W => ivcheck_any x0 x1 x2 x3 x4 x5 W)
  have AD := Lib.hid (fun W he => ivadd_e1 x0 x1 x2 x3 x4 x5 (-1) 1 1 1 0 1 W he)
  have SU := Lib.hid (fun W he => ivsub_e2 (-1) 1 1 1 0 1 x0 x1 x2 x3 x4 x5 W (by kernel_rfl) he)
  have SC := Lib.hid (fun W he => ivscale_err x0 x1 x2 x3 x4 x5 1 1 W he)
  have SG := Lib.hid (fun W he => ivsign_err x0 x1 x2 x3 x4 x5 W he)
  have CM := Lib.hid (fun W he => ivcompare_e2 (-1) 1 1 1 0 1 x0 x1 x2 x3 x4 x5 W (by kernel_rfl) he)
  have RE := Lib.hid (fun W he => ivreduce_err x0 x1 x2 x3 x4 x5 W he)
  have CE := Lib.hid (fun W he => ivcents_err x0 x1 x2 x3 x4 x5 W he)
  generalize rdA x0 x1 x2 x3 x4 x5 = ra at *
  generalize rdB x0 x1 x2 x3 x4 x5 = rb at *
  generalize rdC x0 x1 x2 x3 x4 x5 = rc at *
  generalize rdD x0 x1 x2 x3 x4 x5 = rdd at *
  generalize Iv.rdE x0 x1 x2 x3 x4 x5 = re at *
  have hez : ∀ W : World, (binOp .eql 25 (.agg #[.int .i64 0, .int .i64 0, .int .i64 0, .int .i64 0, .int .i64 0, .int .i64 0]) (.agg #[.int .i64 0, .int .i64 0, .int .i64 0, .int .i64 0, .int .i64 0, .int .i64 0])).run Tryz.prog W = .ok (.bool true) W := fun _ => by kernel_rfl
  obtain ⟨D, hD⟩ : ∃ D, w.heap.size = D := ⟨_, rfl⟩
  by_cases he : re = 0
  · subst he
    clear AD SU SC SG CM RE CE
    go_enter Tryz.func3, Tryz.ntmps3
    have G1 : Gi (w.alloc (.cells #[.int .i64 x0, .int .i64 x1, .int .i64 x2, .int .i64 x3, .int .i64 x4, .int .i64 x5] 25)) := G.below (by rw [hD]; exact ((Below.refl _ w).alloc (by first | omega | (simp; omega)) (.cells #[.int .i64 x0, .int .i64 x1, .int .i64 x2, .int .i64 x3, .int .i64 x4, .int .i64 x5] 25)))
    have N1 : Nm (w.alloc (.cells #[.int .i64 x0, .int .i64 x1, .int .i64 x2, .int .i64 x3, .int .i64 x4, .int .i64 x5] 25)) := N.below (by rw [hD]; exact ((Below.refl _ w).alloc (by first | omega | (simp; omega)) (.cells #[.int .i64 x0, .int .i64 x1, .int .i64 x2, .int .i64 x3, .int .i64 x4, .int .i64 x5] 25)))
    go_wp2_with fail
    refine (KN.out _ G1 N1).mono ?_
    rintro e v1 ⟨rfl, hb_v1⟩
    have cS_v1 : v1.heap[D]? = some (.cells #[.int .i64 x0, .int .i64 x1, .int .i64 x2, .int .i64 x3, .int .i64 x4, .int .i64 x5] 25) := (hb_v1.block (D) (Array.getElem?_eq_some_iff.1 (show (w.alloc (.cells #[.int .i64 x0, .int .i64 x1, .int .i64 x2, .int .i64 x3, .int .i64 x4, .int .i64 x5] 25)).heap[D]? = some (.cells #[.int .i64 x0, .int .i64 x1, .int .i64 x2, .int .i64 x3, .int .i64 x4, .int .i64 x5] 25) from (heap_new (by first | omega | (simp; omega))))).1).trans (heap_new (by first | omega | (simp; omega)))
    have hw_v1 : Below D w v1 := (((Below.refl _ w).alloc (by first | omega | (simp; omega)) (.cells #[.int .i64 x0, .int .i64 x1, .int .i64 x2, .int .i64 x3, .int .i64 x4, .int .i64 x5] 25))).trans (hb_v1.mono (by first | omega | (simp; omega)))
    clear hb_v1
    have ld2 : v1.heap[D]? = some (.cells #[.int .i64 x0, .int .i64 x1, .int .i64 x2, .int .i64 x3, .int .i64 x4, .int .i64 x5] 25) := cS_v1
    have y2_0 := cell6_0 ld2
    have y2_1 := cell6_1 ld2
    have y2_2 := cell6_2 ld2
    have y2_3 := cell6_3 ld2
    have y2_4 := cell6_4 ld2
    have y2_5 := cell6_5 ld2
    clear ld2
    go_wp2_with fail
    refine (RD.out _).mono ?_
    rintro e v3 ⟨rfl, hb_v3⟩
    have hs_v3 := hw_v1.size
    have cS_v3 : v3.heap[D]? = some (.cells #[.int .i64 x0, .int .i64 x1, .int .i64 x2, .int .i64 x3, .int .i64 x4, .int .i64 x5] 25) := (hb_v3.block (D) (Array.getElem?_eq_some_iff.1 (show v1.heap[D]? = some (.cells #[.int .i64 x0, .int .i64 x1, .int .i64 x2, .int .i64 x3, .int .i64 x4, .int .i64 x5] 25) from cS_v1)).1).trans cS_v1
    have hw_v3 : Below D w v3 := (hw_v1).trans (hb_v3.mono (by first | omega | (simp; omega)))
    clear cS_v1 hb_v3 y2_0 y2_1 y2_2 y2_3 y2_4 y2_5 hw_v1 hs_v3
    obtain ⟨EO, hEO⟩ : ∃ E, v3.heap.size = E := ⟨_, rfl⟩
    have ld4 : (v3.alloc (.cells #[.int .i64 ra, .int .i64 rb, .int .i64 rc, .int .i64 rdd] 29)).heap[D]? = some (.cells #[.int .i64 x0, .int .i64 x1, .int .i64 x2, .int .i64 x3, .int .i64 x4, .int .i64 x5] 25) := (heap_old (o := .cells #[.int .i64 ra, .int .i64 rb, .int .i64 rc, .int .i64 rdd] 29) cS_v3)
    have y4_0 := cell6_0 ld4
    have y4_1 := cell6_1 ld4
    have y4_2 := cell6_2 ld4
    have y4_3 := cell6_3 ld4
    have y4_4 := cell6_4 ld4
    have y4_5 := cell6_5 ld4
    clear ld4
    go_wp2_with fail
    refine (CK.out _).mono ?_
    rintro e v5 ⟨rfl, hb_v5⟩
    have hs_v5 := hw_v3.size
    have cS_v5 : v5.heap[D]? = some (.cells #[.int .i64 x0, .int .i64 x1, .int .i64 x2, .int .i64 x3, .int .i64 x4, .int .i64 x5] 25) := (hb_v5.block (D) (Array.getElem?_eq_some_iff.1 (show (v3.alloc (.cells #[.int .i64 ra, .int .i64 rb, .int .i64 rc, .int .i64 rdd] 29)).heap[D]? = some (.cells #[.int .i64 x0, .int .i64 x1, .int .i64 x2, .int .i64 x3, .int .i64 x4, .int .i64 x5] 25) from (heap_old (o := .cells #[.int .i64 ra, .int .i64 rb, .int .i64 rc, .int .i64 rdd] 29) cS_v3))).1).trans (heap_old (o := .cells #[.int .i64 ra, .int .i64 rb, .int .i64 rc, .int .i64 rdd] 29) cS_v3)
    have cO_v5 : v5.heap[EO]? = some (.cells #[.int .i64 ra, .int .i64 rb, .int .i64 rc, .int .i64 rdd] 29) := (hb_v5.block (EO) (Array.getElem?_eq_some_iff.1 (show (v3.alloc (.cells #[.int .i64 ra, .int .i64 rb, .int .i64 rc, .int .i64 rdd] 29)).heap[EO]? = some (.cells #[.int .i64 ra, .int .i64 rb, .int .i64 rc, .int .i64 rdd] 29) from (heap_new (by first | omega | (simp; omega))))).1).trans (heap_new (by first | omega | (simp; omega)))
    have hw_v5 : Below D w v5 := ((hw_v3.alloc (by have := hw_v3.size; first | omega | (simp; omega)) (.cells #[.int .i64 ra, .int .i64 rb, .int .i64 rc, .int .i64 rdd] 29))).trans (hb_v5.mono (by first | omega | (simp; omega)))
    clear cS_v3 hb_v5 y4_0 y4_1 y4_2 y4_3 y4_4 y4_5 hw_v3 hs_v5
    have HW := Lib.hid hw_v5
    go_wp2
    go_ret
    exact ⟨rfl, by first | exact HW.out | (rw [hD]; exact HW.out)⟩
  · have hne : (re == 0) = false := by rw [beq_eq_false_iff_ne]; exact he
    go_enter Tryz.func3, Tryz.ntmps3
    have G1 : Gi (w.alloc (.cells #[.int .i64 x0, .int .i64 x1, .int .i64 x2, .int .i64 x3, .int .i64 x4, .int .i64 x5] 25)) := G.below (by rw [hD]; exact ((Below.refl _ w).alloc (by first | omega | (simp; omega)) (.cells #[.int .i64 x0, .int .i64 x1, .int .i64 x2, .int .i64 x3, .int .i64 x4, .int .i64 x5] 25)))
    have N1 : Nm (w.alloc (.cells #[.int .i64 x0, .int .i64 x1, .int .i64 x2, .int .i64 x3, .int .i64 x4, .int .i64 x5] 25)) := N.below (by rw [hD]; exact ((Below.refl _ w).alloc (by first | omega | (simp; omega)) (.cells #[.int .i64 x0, .int .i64 x1, .int .i64 x2, .int .i64 x3, .int .i64 x4, .int .i64 x5] 25)))
    go_wp2_with fail
    refine (KN.out _ G1 N1).mono ?_
    rintro e v1 ⟨rfl, hb_v1⟩
    have cS_v1 : v1.heap[D]? = some (.cells #[.int .i64 x0, .int .i64 x1, .int .i64 x2, .int .i64 x3, .int .i64 x4, .int .i64 x5] 25) := (hb_v1.block (D) (Array.getElem?_eq_some_iff.1 (show (w.alloc (.cells #[.int .i64 x0, .int .i64 x1, .int .i64 x2, .int .i64 x3, .int .i64 x4, .int .i64 x5] 25)).heap[D]? = some (.cells #[.int .i64 x0, .int .i64 x1, .int .i64 x2, .int .i64 x3, .int .i64 x4, .int .i64 x5] 25) from (heap_new (by first | omega | (simp; omega))))).1).trans (heap_new (by first | omega | (simp; omega)))
    have hw_v1 : Below D w v1 := (((Below.refl _ w).alloc (by first | omega | (simp; omega)) (.cells #[.int .i64 x0, .int .i64 x1, .int .i64 x2, .int .i64 x3, .int .i64 x4, .int .i64 x5] 25))).trans (hb_v1.mono (by first | omega | (simp; omega)))
    clear hb_v1
    have ld2 : v1.heap[D]? = some (.cells #[.int .i64 x0, .int .i64 x1, .int .i64 x2, .int .i64 x3, .int .i64 x4, .int .i64 x5] 25) := cS_v1
    have y2_0 := cell6_0 ld2
    have y2_1 := cell6_1 ld2
    have y2_2 := cell6_2 ld2
    have y2_3 := cell6_3 ld2
    have y2_4 := cell6_4 ld2
    have y2_5 := cell6_5 ld2
    clear ld2
    go_wp2_with fail
    refine (RD.out _).mono ?_
    rintro e v3 ⟨rfl, hb_v3⟩
    have hs_v3 := hw_v1.size
    have cS_v3 : v3.heap[D]? = some (.cells #[.int .i64 x0, .int .i64 x1, .int .i64 x2, .int .i64 x3, .int .i64 x4, .int .i64 x5] 25) := (hb_v3.block (D) (Array.getElem?_eq_some_iff.1 (show v1.heap[D]? = some (.cells #[.int .i64 x0, .int .i64 x1, .int .i64 x2, .int .i64 x3, .int .i64 x4, .int .i64 x5] 25) from cS_v1)).1).trans cS_v1
    have hw_v3 : Below D w v3 := (hw_v1).trans (hb_v3.mono (by first | omega | (simp; omega)))
    clear cS_v1 hb_v3 y2_0 y2_1 y2_2 y2_3 y2_4 y2_5 hw_v1 hs_v3
    obtain ⟨EO, hEO⟩ : ∃ E, v3.heap.size = E := ⟨_, rfl⟩
    have ld4 : (v3.alloc (.cells #[.int .i64 ra, .int .i64 rb, .int .i64 rc, .int .i64 rdd] 29)).heap[D]? = some (.cells #[.int .i64 x0, .int .i64 x1, .int .i64 x2, .int .i64 x3, .int .i64 x4, .int .i64 x5] 25) := (heap_old (o := .cells #[.int .i64 ra, .int .i64 rb, .int .i64 rc, .int .i64 rdd] 29) cS_v3)
    have y4_0 := cell6_0 ld4
    have y4_1 := cell6_1 ld4
    have y4_2 := cell6_2 ld4
    have y4_3 := cell6_3 ld4
    have y4_4 := cell6_4 ld4
    have y4_5 := cell6_5 ld4
    clear ld4
    go_wp2_with fail
    refine (CK.out _).mono ?_
    rintro e v5 ⟨rfl, hb_v5⟩
    have hs_v5 := hw_v3.size
    have cS_v5 : v5.heap[D]? = some (.cells #[.int .i64 x0, .int .i64 x1, .int .i64 x2, .int .i64 x3, .int .i64 x4, .int .i64 x5] 25) := (hb_v5.block (D) (Array.getElem?_eq_some_iff.1 (show (v3.alloc (.cells #[.int .i64 ra, .int .i64 rb, .int .i64 rc, .int .i64 rdd] 29)).heap[D]? = some (.cells #[.int .i64 x0, .int .i64 x1, .int .i64 x2, .int .i64 x3, .int .i64 x4, .int .i64 x5] 25) from (heap_old (o := .cells #[.int .i64 ra, .int .i64 rb, .int .i64 rc, .int .i64 rdd] 29) cS_v3))).1).trans (heap_old (o := .cells #[.int .i64 ra, .int .i64 rb, .int .i64 rc, .int .i64 rdd] 29) cS_v3)
    have cO_v5 : v5.heap[EO]? = some (.cells #[.int .i64 ra, .int .i64 rb, .int .i64 rc, .int .i64 rdd] 29) := (hb_v5.block (EO) (Array.getElem?_eq_some_iff.1 (show (v3.alloc (.cells #[.int .i64 ra, .int .i64 rb, .int .i64 rc, .int .i64 rdd] 29)).heap[EO]? = some (.cells #[.int .i64 ra, .int .i64 rb, .int .i64 rc, .int .i64 rdd] 29) from (heap_new (by first | omega | (simp; omega))))).1).trans (heap_new (by first | omega | (simp; omega)))
    have hw_v5 : Below D w v5 := ((hw_v3.alloc (by have := hw_v3.size; first | omega | (simp; omega)) (.cells #[.int .i64 ra, .int .i64 rb, .int .i64 rc, .int .i64 rdd] 29))).trans (hb_v5.mono (by first | omega | (simp; omega)))
    clear cS_v3 hb_v5 y4_0 y4_1 y4_2 y4_3 y4_4 y4_5 hw_v3 hs_v5
    obtain ⟨EZ, hEZ⟩ : ∃ E, v5.heap.size = E := ⟨_, rfl⟩
    go_wp2_with fail
    refine (fifth_of _).mono ?_
    rintro e v6 ⟨rfl, hb_v6⟩
    have hs_v6 := hw_v5.size
    have cS_v6 : v6.heap[D]? = some (.cells #[.int .i64 x0, .int .i64 x1, .int .i64 x2, .int .i64 x3, .int .i64 x4, .int .i64 x5] 25) := (hb_v6.block (D) (Array.getElem?_eq_some_iff.1 (show ((v5.alloc (.cells #[.int .i64 0, .int .i64 0, .int .i64 0, .int .i64 0, .int .i64 0, .int .i64 0] 25)).alloc (.cells #[.int .i64 1, .int .i64 1] 23)).heap[D]? = some (.cells #[.int .i64 x0, .int .i64 x1, .int .i64 x2, .int .i64 x3, .int .i64 x4, .int .i64 x5] 25) from (heap_old (o := .cells #[.int .i64 1, .int .i64 1] 23) (heap_old (o := .cells #[.int .i64 0, .int .i64 0, .int .i64 0, .int .i64 0, .int .i64 0, .int .i64 0] 25) cS_v5)))).1).trans (heap_old (o := .cells #[.int .i64 1, .int .i64 1] 23) (heap_old (o := .cells #[.int .i64 0, .int .i64 0, .int .i64 0, .int .i64 0, .int .i64 0, .int .i64 0] 25) cS_v5))
    have cO_v6 : v6.heap[EO]? = some (.cells #[.int .i64 ra, .int .i64 rb, .int .i64 rc, .int .i64 rdd] 29) := (hb_v6.block (EO) (Array.getElem?_eq_some_iff.1 (show ((v5.alloc (.cells #[.int .i64 0, .int .i64 0, .int .i64 0, .int .i64 0, .int .i64 0, .int .i64 0] 25)).alloc (.cells #[.int .i64 1, .int .i64 1] 23)).heap[EO]? = some (.cells #[.int .i64 ra, .int .i64 rb, .int .i64 rc, .int .i64 rdd] 29) from (heap_old (o := .cells #[.int .i64 1, .int .i64 1] 23) (heap_old (o := .cells #[.int .i64 0, .int .i64 0, .int .i64 0, .int .i64 0, .int .i64 0, .int .i64 0] 25) cO_v5)))).1).trans (heap_old (o := .cells #[.int .i64 1, .int .i64 1] 23) (heap_old (o := .cells #[.int .i64 0, .int .i64 0, .int .i64 0, .int .i64 0, .int .i64 0, .int .i64 0] 25) cO_v5))
    have cZ_v6 : v6.heap[EZ]? = some (.cells #[.int .i64 0, .int .i64 0, .int .i64 0, .int .i64 0, .int .i64 0, .int .i64 0] 25) := (hb_v6.block (EZ) (Array.getElem?_eq_some_iff.1 (show ((v5.alloc (.cells #[.int .i64 0, .int .i64 0, .int .i64 0, .int .i64 0, .int .i64 0, .int .i64 0] 25)).alloc (.cells #[.int .i64 1, .int .i64 1] 23)).heap[EZ]? = some (.cells #[.int .i64 0, .int .i64 0, .int .i64 0, .int .i64 0, .int .i64 0, .int .i64 0] 25) from (heap_old (o := .cells #[.int .i64 1, .int .i64 1] 23) (heap_new (by first | omega | (simp; omega)))))).1).trans (heap_old (o := .cells #[.int .i64 1, .int .i64 1] 23) (heap_new (by first | omega | (simp; omega))))
    have cK_v6 : v6.heap[EZ + 1]? = some (.cells #[.int .i64 1, .int .i64 1] 23) := (hb_v6.block (EZ + 1) (Array.getElem?_eq_some_iff.1 (show ((v5.alloc (.cells #[.int .i64 0, .int .i64 0, .int .i64 0, .int .i64 0, .int .i64 0, .int .i64 0] 25)).alloc (.cells #[.int .i64 1, .int .i64 1] 23)).heap[EZ + 1]? = some (.cells #[.int .i64 1, .int .i64 1] 23) from (heap_new (by first | omega | (simp; omega))))).1).trans (heap_new (by first | omega | (simp; omega)))
    have hw_v6 : Below D w v6 := (((hw_v5.alloc (by have := hw_v5.size; first | omega | (simp; omega)) (.cells #[.int .i64 0, .int .i64 0, .int .i64 0, .int .i64 0, .int .i64 0, .int .i64 0] 25)).alloc (by have := hw_v5.size; first | omega | (simp; omega)) (.cells #[.int .i64 1, .int .i64 1] 23))).trans (hb_v6.mono (by first | omega | (simp; omega)))
    clear cS_v5 cO_v5 hb_v6 hw_v5 hs_v6
    obtain ⟨EF, hEF⟩ : ∃ E, v6.heap.size = E := ⟨_, rfl⟩
    have ld7 : (v6.alloc (.cells #[.int .i64 (-1), .int .i64 1, .int .i64 1, .int .i64 1, .int .i64 0, .int .i64 1] 25)).heap[D]? = some (.cells #[.int .i64 x0, .int .i64 x1, .int .i64 x2, .int .i64 x3, .int .i64 x4, .int .i64 x5] 25) := (heap_old (o := .cells #[.int .i64 (-1), .int .i64 1, .int .i64 1, .int .i64 1, .int .i64 0, .int .i64 1] 25) cS_v6)
    have y7_0 := cell6_0 ld7
    have y7_1 := cell6_1 ld7
    have y7_2 := cell6_2 ld7
    have y7_3 := cell6_3 ld7
    have y7_4 := cell6_4 ld7
    have y7_5 := cell6_5 ld7
    clear ld7
    have ld8 : (v6.alloc (.cells #[.int .i64 (-1), .int .i64 1, .int .i64 1, .int .i64 1, .int .i64 0, .int .i64 1] 25)).heap[EF]? = some (.cells #[.int .i64 (-1), .int .i64 1, .int .i64 1, .int .i64 1, .int .i64 0, .int .i64 1] 25) := (heap_new (by first | omega | (simp; omega)))
    have y8_0 := cell6_0 ld8
    have y8_1 := cell6_1 ld8
    have y8_2 := cell6_2 ld8
    have y8_3 := cell6_3 ld8
    have y8_4 := cell6_4 ld8
    have y8_5 := cell6_5 ld8
    clear ld8
    go_wp2_with fail
    refine (AD.out _ he).mono ?_
    rintro e v9 ⟨rfl, hb_v9⟩
    have hs_v9 := hw_v6.size
    have cS_v9 : v9.heap[D]? = some (.cells #[.int .i64 x0, .int .i64 x1, .int .i64 x2, .int .i64 x3, .int .i64 x4, .int .i64 x5] 25) := (hb_v9.block (D) (Array.getElem?_eq_some_iff.1 (show (v6.alloc (.cells #[.int .i64 (-1), .int .i64 1, .int .i64 1, .int .i64 1, .int .i64 0, .int .i64 1] 25)).heap[D]? = some (.cells #[.int .i64 x0, .int .i64 x1, .int .i64 x2, .int .i64 x3, .int .i64 x4, .int .i64 x5] 25) from (heap_old (o := .cells #[.int .i64 (-1), .int .i64 1, .int .i64 1, .int .i64 1, .int .i64 0, .int .i64 1] 25) cS_v6))).1).trans (heap_old (o := .cells #[.int .i64 (-1), .int .i64 1, .int .i64 1, .int .i64 1, .int .i64 0, .int .i64 1] 25) cS_v6)
    have cO_v9 : v9.heap[EO]? = some (.cells #[.int .i64 ra, .int .i64 rb, .int .i64 rc, .int .i64 rdd] 29) := (hb_v9.block (EO) (Array.getElem?_eq_some_iff.1 (show (v6.alloc (.cells #[.int .i64 (-1), .int .i64 1, .int .i64 1, .int .i64 1, .int .i64 0, .int .i64 1] 25)).heap[EO]? = some (.cells #[.int .i64 ra, .int .i64 rb, .int .i64 rc, .int .i64 rdd] 29) from (heap_old (o := .cells #[.int .i64 (-1), .int .i64 1, .int .i64 1, .int .i64 1, .int .i64 0, .int .i64 1] 25) cO_v6))).1).trans (heap_old (o := .cells #[.int .i64 (-1), .int .i64 1, .int .i64 1, .int .i64 1, .int .i64 0, .int .i64 1] 25) cO_v6)
    have cZ_v9 : v9.heap[EZ]? = some (.cells #[.int .i64 0, .int .i64 0, .int .i64 0, .int .i64 0, .int .i64 0, .int .i64 0] 25) := (hb_v9.block (EZ) (Array.getElem?_eq_some_iff.1 (show (v6.alloc (.cells #[.int .i64 (-1), .int .i64 1, .int .i64 1, .int .i64 1, .int .i64 0, .int .i64 1] 25)).heap[EZ]? = some (.cells #[.int .i64 0, .int .i64 0, .int .i64 0, .int .i64 0, .int .i64 0, .int .i64 0] 25) from (heap_old (o := .cells #[.int .i64 (-1), .int .i64 1, .int .i64 1, .int .i64 1, .int .i64 0, .int .i64 1] 25) cZ_v6))).1).trans (heap_old (o := .cells #[.int .i64 (-1), .int .i64 1, .int .i64 1, .int .i64 1, .int .i64 0, .int .i64 1] 25) cZ_v6)
    have cK_v9 : v9.heap[EZ + 1]? = some (.cells #[.int .i64 1, .int .i64 1] 23) := (hb_v9.block (EZ + 1) (Array.getElem?_eq_some_iff.1 (show (v6.alloc (.cells #[.int .i64 (-1), .int .i64 1, .int .i64 1, .int .i64 1, .int .i64 0, .int .i64 1] 25)).heap[EZ + 1]? = some (.cells #[.int .i64 1, .int .i64 1] 23) from (heap_old (o := .cells #[.int .i64 (-1), .int .i64 1, .int .i64 1, .int .i64 1, .int .i64 0, .int .i64 1] 25) cK_v6))).1).trans (heap_old (o := .cells #[.int .i64 (-1), .int .i64 1, .int .i64 1, .int .i64 1, .int .i64 0, .int .i64 1] 25) cK_v6)
    have cF_v9 : v9.heap[EF]? = some (.cells #[.int .i64 (-1), .int .i64 1, .int .i64 1, .int .i64 1, .int .i64 0, .int .i64 1] 25) := (hb_v9.block (EF) (Array.getElem?_eq_some_iff.1 (show (v6.alloc (.cells #[.int .i64 (-1), .int .i64 1, .int .i64 1, .int .i64 1, .int .i64 0, .int .i64 1] 25)).heap[EF]? = some (.cells #[.int .i64 (-1), .int .i64 1, .int .i64 1, .int .i64 1, .int .i64 0, .int .i64 1] 25) from (heap_new (by first | omega | (simp; omega))))).1).trans (heap_new (by first | omega | (simp; omega)))
    have hw_v9 : Below D w v9 := ((hw_v6.alloc (by have := hw_v6.size; first | omega | (simp; omega)) (.cells #[.int .i64 (-1), .int .i64 1, .int .i64 1, .int .i64 1, .int .i64 0, .int .i64 1] 25))).trans (hb_v9.mono (by first | omega | (simp; omega)))
    clear cS_v6 cO_v6 cZ_v6 cK_v6 hb_v9 y7_0 y7_1 y7_2 y7_3 y7_4 y7_5 y8_0 y8_1 y8_2 y8_3 y8_4 y8_5 hw_v6 hs_v9
    obtain ⟨EA, hEA⟩ : ∃ E, v9.heap.size = E := ⟨_, rfl⟩
    have ld10 : (v9.alloc (.cells #[.int .i64 0, .int .i64 0, .int .i64 0, .int .i64 0, .int .i64 0, .int .i64 0] 25)).heap[EF]? = some (.cells #[.int .i64 (-1), .int .i64 1, .int .i64 1, .int .i64 1, .int .i64 0, .int .i64 1] 25) := (heap_old (o := .cells #[.int .i64 0, .int .i64 0, .int .i64 0, .int .i64 0, .int .i64 0, .int .i64 0] 25) cF_v9)
    have y10_0 := cell6_0 ld10
    have y10_1 := cell6_1 ld10
    have y10_2 := cell6_2 ld10
    have y10_3 := cell6_3 ld10
    have y10_4 := cell6_4 ld10
    have y10_5 := cell6_5 ld10
    clear ld10
    have ld11 : (v9.alloc (.cells #[.int .i64 0, .int .i64 0, .int .i64 0, .int .i64 0, .int .i64 0, .int .i64 0] 25)).heap[D]? = some (.cells #[.int .i64 x0, .int .i64 x1, .int .i64 x2, .int .i64 x3, .int .i64 x4, .int .i64 x5] 25) := (heap_old (o := .cells #[.int .i64 0, .int .i64 0, .int .i64 0, .int .i64 0, .int .i64 0, .int .i64 0] 25) cS_v9)
    have y11_0 := cell6_0 ld11
    have y11_1 := cell6_1 ld11
    have y11_2 := cell6_2 ld11
    have y11_3 := cell6_3 ld11
    have y11_4 := cell6_4 ld11
    have y11_5 := cell6_5 ld11
    clear ld11
    go_wp2_with fail
    refine (SU.out _ he).mono ?_
    rintro e v12 ⟨rfl, hb_v12⟩
    have hs_v12 := hw_v9.size
    have cS_v12 : v12.heap[D]? = some (.cells #[.int .i64 x0, .int .i64 x1, .int .i64 x2, .int .i64 x3, .int .i64 x4, .int .i64 x5] 25) := (hb_v12.block (D) (Array.getElem?_eq_some_iff.1 (show (v9.alloc (.cells #[.int .i64 0, .int .i64 0, .int .i64 0, .int .i64 0, .int .i64 0, .int .i64 0] 25)).heap[D]? = some (.cells #[.int .i64 x0, .int .i64 x1, .int .i64 x2, .int .i64 x3, .int .i64 x4, .int .i64 x5] 25) from (heap_old (o := .cells #[.int .i64 0, .int .i64 0, .int .i64 0, .int .i64 0, .int .i64 0, .int .i64 0] 25) cS_v9))).1).trans (heap_old (o := .cells #[.int .i64 0, .int .i64 0, .int .i64 0, .int .i64 0, .int .i64 0, .int .i64 0] 25) cS_v9)
    have cO_v12 : v12.heap[EO]? = some (.cells #[.int .i64 ra, .int .i64 rb, .int .i64 rc, .int .i64 rdd] 29) := (hb_v12.block (EO) (Array.getElem?_eq_some_iff.1 (show (v9.alloc (.cells #[.int .i64 0, .int .i64 0, .int .i64 0, .int .i64 0, .int .i64 0, .int .i64 0] 25)).heap[EO]? = some (.cells #[.int .i64 ra, .int .i64 rb, .int .i64 rc, .int .i64 rdd] 29) from (heap_old (o := .cells #[.int .i64 0, .int .i64 0, .int .i64 0, .int .i64 0, .int .i64 0, .int .i64 0] 25) cO_v9))).1).trans (heap_old (o := .cells #[.int .i64 0, .int .i64 0, .int .i64 0, .int .i64 0, .int .i64 0, .int .i64 0] 25) cO_v9)
    have cZ_v12 : v12.heap[EZ]? = some (.cells #[.int .i64 0, .int .i64 0, .int .i64 0, .int .i64 0, .int .i64 0, .int .i64 0] 25) := (hb_v12.block (EZ) (Array.getElem?_eq_some_iff.1 (show (v9.alloc (.cells #[.int .i64 0, .int .i64 0, .int .i64 0, .int .i64 0, .int .i64 0, .int .i64 0] 25)).heap[EZ]? = some (.cells #[.int .i64 0, .int .i64 0, .int .i64 0, .int .i64 0, .int .i64 0, .int .i64 0] 25) from (heap_old (o := .cells #[.int .i64 0, .int .i64 0, .int .i64 0, .int .i64 0, .int .i64 0, .int .i64 0] 25) cZ_v9))).1).trans (heap_old (o := .cells #[.int .i64 0, .int .i64 0, .int .i64 0, .int .i64 0, .int .i64 0, .int .i64 0] 25) cZ_v9)
    have cK_v12 : v12.heap[EZ + 1]? = some (.cells #[.int .i64 1, .int .i64 1] 23) := (hb_v12.block (EZ + 1) (Array.getElem?_eq_some_iff.1 (show (v9.alloc (.cells #[.int .i64 0, .int .i64 0, .int .i64 0, .int .i64 0, .int .i64 0, .int .i64 0] 25)).heap[EZ + 1]? = some (.cells #[.int .i64 1, .int .i64 1] 23) from (heap_old (o := .cells #[.int .i64 0, .int .i64 0, .int .i64 0, .int .i64 0, .int .i64 0, .int .i64 0] 25) cK_v9))).1).trans (heap_old (o := .cells #[.int .i64 0, .int .i64 0, .int .i64 0, .int .i64 0, .int .i64 0, .int .i64 0] 25) cK_v9)
    have cF_v12 : v12.heap[EF]? = some (.cells #[.int .i64 (-1), .int .i64 1, .int .i64 1, .int .i64 1, .int .i64 0, .int .i64 1] 25) := (hb_v12.block (EF) (Array.getElem?_eq_some_iff.1 (show (v9.alloc (.cells #[.int .i64 0, .int .i64 0, .int .i64 0, .int .i64 0, .int .i64 0, .int .i64 0] 25)).heap[EF]? = some (.cells #[.int .i64 (-1), .int .i64 1, .int .i64 1, .int .i64 1, .int .i64 0, .int .i64 1] 25) from (heap_old (o := .cells #[.int .i64 0, .int .i64 0, .int .i64 0, .int .i64 0, .int .i64 0, .int .i64 0] 25) cF_v9))).1).trans (heap_old (o := .cells #[.int .i64 0, .int .i64 0, .int .i64 0, .int .i64 0, .int .i64 0, .int .i64 0] 25) cF_v9)
    have cA_v12 : v12.heap[EA]? = some (.cells #[.int .i64 0, .int .i64 0, .int .i64 0, .int .i64 0, .int .i64 0, .int .i64 0] 25) := (hb_v12.block (EA) (Array.getElem?_eq_some_iff.1 (show (v9.alloc (.cells #[.int .i64 0, .int .i64 0, .int .i64 0, .int .i64 0, .int .i64 0, .int .i64 0] 25)).heap[EA]? = some (.cells #[.int .i64 0, .int .i64 0, .int .i64 0, .int .i64 0, .int .i64 0, .int .i64 0] 25) from (heap_new (by first | omega | (simp; omega))))).1).trans (heap_new (by first | omega | (simp; omega)))
    have hw_v12 : Below D w v12 := ((hw_v9.alloc (by have := hw_v9.size; first | omega | (simp; omega)) (.cells #[.int .i64 0, .int .i64 0, .int .i64 0, .int .i64 0, .int .i64 0, .int .i64 0] 25))).trans (hb_v12.mono (by first | omega | (simp; omega)))
    clear cS_v9 cO_v9 cZ_v9 cK_v9 cF_v9 hb_v12 y10_0 y10_1 y10_2 y10_3 y10_4 y10_5 y11_0 y11_1 y11_2 y11_3 y11_4 y11_5 hw_v9 hs_v12
    obtain ⟨EB, hEB⟩ : ∃ E, v12.heap.size = E := ⟨_, rfl⟩
    have ld13 : (v12.alloc (.cells #[.int .i64 0, .int .i64 0, .int .i64 0, .int .i64 0, .int .i64 0, .int .i64 0] 25)).heap[D]? = some (.cells #[.int .i64 x0, .int .i64 x1, .int .i64 x2, .int .i64 x3, .int .i64 x4, .int .i64 x5] 25) := (heap_old (o := .cells #[.int .i64 0, .int .i64 0, .int .i64 0, .int .i64 0, .int .i64 0, .int .i64 0] 25) cS_v12)
    have y13_0 := cell6_0 ld13
    have y13_1 := cell6_1 ld13
    have y13_2 := cell6_2 ld13
    have y13_3 := cell6_3 ld13
    have y13_4 := cell6_4 ld13
    have y13_5 := cell6_5 ld13
    clear ld13
    have ld14 : (v12.alloc (.cells #[.int .i64 0, .int .i64 0, .int .i64 0, .int .i64 0, .int .i64 0, .int .i64 0] 25)).heap[EZ + 1]? = some (.cells #[.int .i64 1, .int .i64 1] 23) := (heap_old (o := .cells #[.int .i64 0, .int .i64 0, .int .i64 0, .int .i64 0, .int .i64 0, .int .i64 0] 25) cK_v12)
    have y14_0 := cell2_0 ld14
    have y14_1 := cell2_1 ld14
    clear ld14
    go_wp2_with fail
    refine (SC.out _ he).mono ?_
    rintro e v15 ⟨rfl, hb_v15⟩
    have hs_v15 := hw_v12.size
    have cS_v15 : v15.heap[D]? = some (.cells #[.int .i64 x0, .int .i64 x1, .int .i64 x2, .int .i64 x3, .int .i64 x4, .int .i64 x5] 25) := (hb_v15.block (D) (Array.getElem?_eq_some_iff.1 (show (v12.alloc (.cells #[.int .i64 0, .int .i64 0, .int .i64 0, .int .i64 0, .int .i64 0, .int .i64 0] 25)).heap[D]? = some (.cells #[.int .i64 x0, .int .i64 x1, .int .i64 x2, .int .i64 x3, .int .i64 x4, .int .i64 x5] 25) from (heap_old (o := .cells #[.int .i64 0, .int .i64 0, .int .i64 0, .int .i64 0, .int .i64 0, .int .i64 0] 25) cS_v12))).1).trans (heap_old (o := .cells #[.int .i64 0, .int .i64 0, .int .i64 0, .int .i64 0, .int .i64 0, .int .i64 0] 25) cS_v12)
    have cO_v15 : v15.heap[EO]? = some (.cells #[.int .i64 ra, .int .i64 rb, .int .i64 rc, .int .i64 rdd] 29) := (hb_v15.block (EO) (Array.getElem?_eq_some_iff.1 (show (v12.alloc (.cells #[.int .i64 0, .int .i64 0, .int .i64 0, .int .i64 0, .int .i64 0, .int .i64 0] 25)).heap[EO]? = some (.cells #[.int .i64 ra, .int .i64 rb, .int .i64 rc, .int .i64 rdd] 29) from (heap_old (o := .cells #[.int .i64 0, .int .i64 0, .int .i64 0, .int .i64 0, .int .i64 0, .int .i64 0] 25) cO_v12))).1).trans (heap_old (o := .cells #[.int .i64 0, .int .i64 0, .int .i64 0, .int .i64 0, .int .i64 0, .int .i64 0] 25) cO_v12)
    have cZ_v15 : v15.heap[EZ]? = some (.cells #[.int .i64 0, .int .i64 0, .int .i64 0, .int .i64 0, .int .i64 0, .int .i64 0] 25) := (hb_v15.block (EZ) (Array.getElem?_eq_some_iff.1 (show (v12.alloc (.cells #[.int .i64 0, .int .i64 0, .int .i64 0, .int .i64 0, .int .i64 0, .int .i64 0] 25)).heap[EZ]? = some (.cells #[.int .i64 0, .int .i64 0, .int .i64 0, .int .i64 0, .int .i64 0, .int .i64 0] 25) from (heap_old (o := .cells #[.int .i64 0, .int .i64 0, .int .i64 0, .int .i64 0, .int .i64 0, .int .i64 0] 25) cZ_v12))).1).trans (heap_old (o := .cells #[.int .i64 0, .int .i64 0, .int .i64 0, .int .i64 0, .int .i64 0, .int .i64 0] 25) cZ_v12)
    have cK_v15 : v15.heap[EZ + 1]? = some (.cells #[.int .i64 1, .int .i64 1] 23) := (hb_v15.block (EZ + 1) (Array.getElem?_eq_some_iff.1 (show (v12.alloc (.cells #[.int .i64 0, .int .i64 0, .int .i64 0, .int .i64 0, .int .i64 0, .int .i64 0] 25)).heap[EZ + 1]? = some (.cells #[.int .i64 1, .int .i64 1] 23) from (heap_old (o := .cells #[.int .i64 0, .int .i64 0, .int .i64 0, .int .i64 0, .int .i64 0, .int .i64 0] 25) cK_v12))).1).trans (heap_old (o := .cells #[.int .i64 0, .int .i64 0, .int .i64 0, .int .i64 0, .int .i64 0, .int .i64 0] 25) cK_v12)
    have cF_v15 : v15.heap[EF]? = some (.cells #[.int .i64 (-1), .int .i64 1, .int .i64 1, .int .i64 1, .int .i64 0, .int .i64 1] 25) := (hb_v15.block (EF) (Array.getElem?_eq_some_iff.1 (show (v12.alloc (.cells #[.int .i64 0, .int .i64 0, .int .i64 0, .int .i64 0, .int .i64 0, .int .i64 0] 25)).heap[EF]? = some (.cells #[.int .i64 (-1), .int .i64 1, .int .i64 1, .int .i64 1, .int .i64 0, .int .i64 1] 25) from (heap_old (o := .cells #[.int .i64 0, .int .i64 0, .int .i64 0, .int .i64 0, .int .i64 0, .int .i64 0] 25) cF_v12))).1).trans (heap_old (o := .cells #[.int .i64 0, .int .i64 0, .int .i64 0, .int .i64 0, .int .i64 0, .int .i64 0] 25) cF_v12)
    have cA_v15 : v15.heap[EA]? = some (.cells #[.int .i64 0, .int .i64 0, .int .i64 0, .int .i64 0, .int .i64 0, .int .i64 0] 25) := (hb_v15.block (EA) (Array.getElem?_eq_some_iff.1 (show (v12.alloc (.cells #[.int .i64 0, .int .i64 0, .int .i64 0, .int .i64 0, .int .i64 0, .int .i64 0] 25)).heap[EA]? = some (.cells #[.int .i64 0, .int .i64 0, .int .i64 0, .int .i64 0, .int .i64 0, .int .i64 0] 25) from (heap_old (o := .cells #[.int .i64 0, .int .i64 0, .int .i64 0, .int .i64 0, .int .i64 0, .int .i64 0] 25) cA_v12))).1).trans (heap_old (o := .cells #[.int .i64 0, .int .i64 0, .int .i64 0, .int .i64 0, .int .i64 0, .int .i64 0] 25) cA_v12)
    have cB_v15 : v15.heap[EB]? = some (.cells #[.int .i64 0, .int .i64 0, .int .i64 0, .int .i64 0, .int .i64 0, .int .i64 0] 25) := (hb_v15.block (EB) (Array.getElem?_eq_some_iff.1 (show (v12.alloc (.cells #[.int .i64 0, .int .i64 0, .int .i64 0, .int .i64 0, .int .i64 0, .int .i64 0] 25)).heap[EB]? = some (.cells #[.int .i64 0, .int .i64 0, .int .i64 0, .int .i64 0, .int .i64 0, .int .i64 0] 25) from (heap_new (by first | omega | (simp; omega))))).1).trans (heap_new (by first | omega | (simp; omega)))
    have hw_v15 : Below D w v15 := ((hw_v12.alloc (by have := hw_v12.size; first | omega | (simp; omega)) (.cells #[.int .i64 0, .int .i64 0, .int .i64 0, .int .i64 0, .int .i64 0, .int .i64 0] 25))).trans (hb_v15.mono (by first | omega | (simp; omega)))
    clear cS_v12 cO_v12 cZ_v12 cK_v12 cF_v12 cA_v12 hb_v15 y13_0 y13_1 y13_2 y13_3 y13_4 y13_5 y14_0 y14_1 hw_v12 hs_v15
    obtain ⟨EC, hEC⟩ : ∃ E, v15.heap.size = E := ⟨_, rfl⟩
    have ld16 : (v15.alloc (.cells #[.int .i64 0, .int .i64 0, .int .i64 0, .int .i64 0, .int .i64 0, .int .i64 0] 25)).heap[D]? = some (.cells #[.int .i64 x0, .int .i64 x1, .int .i64 x2, .int .i64 x3, .int .i64 x4, .int .i64 x5] 25) := (heap_old (o := .cells #[.int .i64 0, .int .i64 0, .int .i64 0, .int .i64 0, .int .i64 0, .int .i64 0] 25) cS_v15)
    have y16_0 := cell6_0 ld16
    have y16_1 := cell6_1 ld16
    have y16_2 := cell6_2 ld16
    have y16_3 := cell6_3 ld16
    have y16_4 := cell6_4 ld16
    have y16_5 := cell6_5 ld16
    clear ld16
    go_wp2_with fail
    refine (SG.out _ he).mono ?_
    rintro e v17 ⟨rfl, hb_v17⟩
    have hs_v17 := hw_v15.size
    have cS_v17 : v17.heap[D]? = some (.cells #[.int .i64 x0, .int .i64 x1, .int .i64 x2, .int .i64 x3, .int .i64 x4, .int .i64 x5] 25) := (hb_v17.block (D) (Array.getElem?_eq_some_iff.1 (show (v15.alloc (.cells #[.int .i64 0, .int .i64 0, .int .i64 0, .int .i64 0, .int .i64 0, .int .i64 0] 25)).heap[D]? = some (.cells #[.int .i64 x0, .int .i64 x1, .int .i64 x2, .int .i64 x3, .int .i64 x4, .int .i64 x5] 25) from (heap_old (o := .cells #[.int .i64 0, .int .i64 0, .int .i64 0, .int .i64 0, .int .i64 0, .int .i64 0] 25) cS_v15))).1).trans (heap_old (o := .cells #[.int .i64 0, .int .i64 0, .int .i64 0, .int .i64 0, .int .i64 0, .int .i64 0] 25) cS_v15)
    have cO_v17 : v17.heap[EO]? = some (.cells #[.int .i64 ra, .int .i64 rb, .int .i64 rc, .int .i64 rdd] 29) := (hb_v17.block (EO) (Array.getElem?_eq_some_iff.1 (show (v15.alloc (.cells #[.int .i64 0, .int .i64 0, .int .i64 0, .int .i64 0, .int .i64 0, .int .i64 0] 25)).heap[EO]? = some (.cells #[.int .i64 ra, .int .i64 rb, .int .i64 rc, .int .i64 rdd] 29) from (heap_old (o := .cells #[.int .i64 0, .int .i64 0, .int .i64 0, .int .i64 0, .int .i64 0, .int .i64 0] 25) cO_v15))).1).trans (heap_old (o := .cells #[.int .i64 0, .int .i64 0, .int .i64 0, .int .i64 0, .int .i64 0, .int .i64 0] 25) cO_v15)
    have cZ_v17 : v17.heap[EZ]? = some (.cells #[.int .i64 0, .int .i64 0, .int .i64 0, .int .i64 0, .int .i64 0, .int .i64 0] 25) := (hb_v17.block (EZ) (Array.getElem?_eq_some_iff.1 (show (v15.alloc (.cells #[.int .i64 0, .int .i64 0, .int .i64 0, .int .i64 0, .int .i64 0, .int .i64 0] 25)).heap[EZ]? = some (.cells #[.int .i64 0, .int .i64 0, .int .i64 0, .int .i64 0, .int .i64 0, .int .i64 0] 25) from (heap_old (o := .cells #[.int .i64 0, .int .i64 0, .int .i64 0, .int .i64 0, .int .i64 0, .int .i64 0] 25) cZ_v15))).1).trans (heap_old (o := .cells #[.int .i64 0, .int .i64 0, .int .i64 0, .int .i64 0, .int .i64 0, .int .i64 0] 25) cZ_v15)
    have cK_v17 : v17.heap[EZ + 1]? = some (.cells #[.int .i64 1, .int .i64 1] 23) := (hb_v17.block (EZ + 1) (Array.getElem?_eq_some_iff.1 (show (v15.alloc (.cells #[.int .i64 0, .int .i64 0, .int .i64 0, .int .i64 0, .int .i64 0, .int .i64 0] 25)).heap[EZ + 1]? = some (.cells #[.int .i64 1, .int .i64 1] 23) from (heap_old (o := .cells #[.int .i64 0, .int .i64 0, .int .i64 0, .int .i64 0, .int .i64 0, .int .i64 0] 25) cK_v15))).1).trans (heap_old (o := .cells #[.int .i64 0, .int .i64 0, .int .i64 0, .int .i64 0, .int .i64 0, .int .i64 0] 25) cK_v15)
    have cF_v17 : v17.heap[EF]? = some (.cells #[.int .i64 (-1), .int .i64 1, .int .i64 1, .int .i64 1, .int .i64 0, .int .i64 1] 25) := (hb_v17.block (EF) (Array.getElem?_eq_some_iff.1 (show (v15.alloc (.cells #[.int .i64 0, .int .i64 0, .int .i64 0, .int .i64 0, .int .i64 0, .int .i64 0] 25)).heap[EF]? = some (.cells #[.int .i64 (-1), .int .i64 1, .int .i64 1, .int .i64 1, .int .i64 0, .int .i64 1] 25) from (heap_old (o := .cells #[.int .i64 0, .int .i64 0, .int .i64 0, .int .i64 0, .int .i64 0, .int .i64 0] 25) cF_v15))).1).trans (heap_old (o := .cells #[.int .i64 0, .int .i64 0, .int .i64 0, .int .i64 0, .int .i64 0, .int .i64 0] 25) cF_v15)
    have cA_v17 : v17.heap[EA]? = some (.cells #[.int .i64 0, .int .i64 0, .int .i64 0, .int .i64 0, .int .i64 0, .int .i64 0] 25) := (hb_v17.block (EA) (Array.getElem?_eq_some_iff.1 (show (v15.alloc (.cells #[.int .i64 0, .int .i64 0, .int .i64 0, .int .i64 0, .int .i64 0, .int .i64 0] 25)).heap[EA]? = some (.cells #[.int .i64 0, .int .i64 0, .int .i64 0, .int .i64 0, .int .i64 0, .int .i64 0] 25) from (heap_old (o := .cells #[.int .i64 0, .int .i64 0, .int .i64 0, .int .i64 0, .int .i64 0, .int .i64 0] 25) cA_v15))).1).trans (heap_old (o := .cells #[.int .i64 0, .int .i64 0, .int .i64 0, .int .i64 0, .int .i64 0, .int .i64 0] 25) cA_v15)
    have cB_v17 : v17.heap[EB]? = some (.cells #[.int .i64 0, .int .i64 0, .int .i64 0, .int .i64 0, .int .i64 0, .int .i64 0] 25) := (hb_v17.block (EB) (Array.getElem?_eq_some_iff.1 (show (v15.alloc (.cells #[.int .i64 0, .int .i64 0, .int .i64 0, .int .i64 0, .int .i64 0, .int .i64 0] 25)).heap[EB]? = some (.cells #[.int .i64 0, .int .i64 0, .int .i64 0, .int .i64 0, .int .i64 0, .int .i64 0] 25) from (heap_old (o := .cells #[.int .i64 0, .int .i64 0, .int .i64 0, .int .i64 0, .int .i64 0, .int .i64 0] 25) cB_v15))).1).trans (heap_old (o := .cells #[.int .i64 0, .int .i64 0, .int .i64 0, .int .i64 0, .int .i64 0, .int .i64 0] 25) cB_v15)
    have cC_v17 : v17.heap[EC]? = some (.cells #[.int .i64 0, .int .i64 0, .int .i64 0, .int .i64 0, .int .i64 0, .int .i64 0] 25) := (hb_v17.block (EC) (Array.getElem?_eq_some_iff.1 (show (v15.alloc (.cells #[.int .i64 0, .int .i64 0, .int .i64 0, .int .i64 0, .int .i64 0, .int .i64 0] 25)).heap[EC]? = some (.cells #[.int .i64 0, .int .i64 0, .int .i64 0, .int .i64 0, .int .i64 0, .int .i64 0] 25) from (heap_new (by first | omega | (simp; omega))))).1).trans (heap_new (by first | omega | (simp; omega)))
    have hw_v17 : Below D w v17 := ((hw_v15.alloc (by have := hw_v15.size; first | omega | (simp; omega)) (.cells #[.int .i64 0, .int .i64 0, .int .i64 0, .int .i64 0, .int .i64 0, .int .i64 0] 25))).trans (hb_v17.mono (by first | omega | (simp; omega)))
    clear cS_v15 cO_v15 cZ_v15 cK_v15 cF_v15 cA_v15 cB_v15 hb_v17 y16_0 y16_1 y16_2 y16_3 y16_4 y16_5 hw_v15 hs_v17
    have ld18 : v17.heap[EF]? = some (.cells #[.int .i64 (-1), .int .i64 1, .int .i64 1, .int .i64 1, .int .i64 0, .int .i64 1] 25) := cF_v17
    have y18_0 := cell6_0 ld18
    have y18_1 := cell6_1 ld18
    have y18_2 := cell6_2 ld18
    have y18_3 := cell6_3 ld18
    have y18_4 := cell6_4 ld18
    have y18_5 := cell6_5 ld18
    clear ld18
    have ld19 : v17.heap[D]? = some (.cells #[.int .i64 x0, .int .i64 x1, .int .i64 x2, .int .i64 x3, .int .i64 x4, .int .i64 x5] 25) := cS_v17
    have y19_0 := cell6_0 ld19
    have y19_1 := cell6_1 ld19
    have y19_2 := cell6_2 ld19
    have y19_3 := cell6_3 ld19
    have y19_4 := cell6_4 ld19
    have y19_5 := cell6_5 ld19
    clear ld19
    go_wp2_with fail
    refine (CM.out _ he).mono ?_
    rintro e v20 ⟨rfl, hb_v20⟩
    have hs_v20 := hw_v17.size
    have cS_v20 : v20.heap[D]? = some (.cells #[.int .i64 x0, .int .i64 x1, .int .i64 x2, .int .i64 x3, .int .i64 x4, .int .i64 x5] 25) := (hb_v20.block (D) (Array.getElem?_eq_some_iff.1 (show v17.heap[D]? = some (.cells #[.int .i64 x0, .int .i64 x1, .int .i64 x2, .int .i64 x3, .int .i64 x4, .int .i64 x5] 25) from cS_v17)).1).trans cS_v17
    have cO_v20 : v20.heap[EO]? = some (.cells #[.int .i64 ra, .int .i64 rb, .int .i64 rc, .int .i64 rdd] 29) := (hb_v20.block (EO) (Array.getElem?_eq_some_iff.1 (show v17.heap[EO]? = some (.cells #[.int .i64 ra, .int .i64 rb, .int .i64 rc, .int .i64 rdd] 29) from cO_v17)).1).trans cO_v17
    have cZ_v20 : v20.heap[EZ]? = some (.cells #[.int .i64 0, .int .i64 0, .int .i64 0, .int .i64 0, .int .i64 0, .int .i64 0] 25) := (hb_v20.block (EZ) (Array.getElem?_eq_some_iff.1 (show v17.heap[EZ]? = some (.cells #[.int .i64 0, .int .i64 0, .int .i64 0, .int .i64 0, .int .i64 0, .int .i64 0] 25) from cZ_v17)).1).trans cZ_v17
    have cK_v20 : v20.heap[EZ + 1]? = some (.cells #[.int .i64 1, .int .i64 1] 23) := (hb_v20.block (EZ + 1) (Array.getElem?_eq_some_iff.1 (show v17.heap[EZ + 1]? = some (.cells #[.int .i64 1, .int .i64 1] 23) from cK_v17)).1).trans cK_v17
    have cF_v20 : v20.heap[EF]? = some (.cells #[.int .i64 (-1), .int .i64 1, .int .i64 1, .int .i64 1, .int .i64 0, .int .i64 1] 25) := (hb_v20.block (EF) (Array.getElem?_eq_some_iff.1 (show v17.heap[EF]? = some (.cells #[.int .i64 (-1), .int .i64 1, .int .i64 1, .int .i64 1, .int .i64 0, .int .i64 1] 25) from cF_v17)).1).trans cF_v17
    have cA_v20 : v20.heap[EA]? = some (.cells #[.int .i64 0, .int .i64 0, .int .i64 0, .int .i64 0, .int .i64 0, .int .i64 0] 25) := (hb_v20.block (EA) (Array.getElem?_eq_some_iff.1 (show v17.heap[EA]? = some (.cells #[.int .i64 0, .int .i64 0, .int .i64 0, .int .i64 0, .int .i64 0, .int .i64 0] 25) from cA_v17)).1).trans cA_v17
    have cB_v20 : v20.heap[EB]? = some (.cells #[.int .i64 0, .int .i64 0, .int .i64 0, .int .i64 0, .int .i64 0, .int .i64 0] 25) := (hb_v20.block (EB) (Array.getElem?_eq_some_iff.1 (show v17.heap[EB]? = some (.cells #[.int .i64 0, .int .i64 0, .int .i64 0, .int .i64 0, .int .i64 0, .int .i64 0] 25) from cB_v17)).1).trans cB_v17
    have cC_v20 : v20.heap[EC]? = some (.cells #[.int .i64 0, .int .i64 0, .int .i64 0, .int .i64 0, .int .i64 0, .int .i64 0] 25) := (hb_v20.block (EC) (Array.getElem?_eq_some_iff.1 (show v17.heap[EC]? = some (.cells #[.int .i64 0, .int .i64 0, .int .i64 0, .int .i64 0, .int .i64 0, .int .i64 0] 25) from cC_v17)).1).trans cC_v17
    have hw_v20 : Below D w v20 := (hw_v17).trans (hb_v20.mono (by first | omega | (simp; omega)))
    clear cS_v17 cO_v17 cZ_v17 cK_v17 cF_v17 cA_v17 cB_v17 cC_v17 hb_v20 y18_0 y18_1 y18_2 y18_3 y18_4 y18_5 y19_0 y19_1 y19_2 y19_3 y19_4 y19_5 hw_v17 hs_v20
    have ld21 : v20.heap[D]? = some (.cells #[.int .i64 x0, .int .i64 x1, .int .i64 x2, .int .i64 x3, .int .i64 x4, .int .i64 x5] 25) := cS_v20
    have y21_0 := cell6_0 ld21
    have y21_1 := cell6_1 ld21
    have y21_2 := cell6_2 ld21
    have y21_3 := cell6_3 ld21
    have y21_4 := cell6_4 ld21
    have y21_5 := cell6_5 ld21
    clear ld21
    go_wp2_with fail
    refine (RE.out _ he).mono ?_
    rintro e v22 ⟨rfl, hb_v22⟩
    have hs_v22 := hw_v20.size
    have cS_v22 : v22.heap[D]? = some (.cells #[.int .i64 x0, .int .i64 x1, .int .i64 x2, .int .i64 x3, .int .i64 x4, .int .i64 x5] 25) := (hb_v22.block (D) (Array.getElem?_eq_some_iff.1 (show v20.heap[D]? = some (.cells #[.int .i64 x0, .int .i64 x1, .int .i64 x2, .int .i64 x3, .int .i64 x4, .int .i64 x5] 25) from cS_v20)).1).trans cS_v20
    have cO_v22 : v22.heap[EO]? = some (.cells #[.int .i64 ra, .int .i64 rb, .int .i64 rc, .int .i64 rdd] 29) := (hb_v22.block (EO) (Array.getElem?_eq_some_iff.1 (show v20.heap[EO]? = some (.cells #[.int .i64 ra, .int .i64 rb, .int .i64 rc, .int .i64 rdd] 29) from cO_v20)).1).trans cO_v20
    have cZ_v22 : v22.heap[EZ]? = some (.cells #[.int .i64 0, .int .i64 0, .int .i64 0, .int .i64 0, .int .i64 0, .int .i64 0] 25) := (hb_v22.block (EZ) (Array.getElem?_eq_some_iff.1 (show v20.heap[EZ]? = some (.cells #[.int .i64 0, .int .i64 0, .int .i64 0, .int .i64 0, .int .i64 0, .int .i64 0] 25) from cZ_v20)).1).trans cZ_v20
    have cK_v22 : v22.heap[EZ + 1]? = some (.cells #[.int .i64 1, .int .i64 1] 23) := (hb_v22.block (EZ + 1) (Array.getElem?_eq_some_iff.1 (show v20.heap[EZ + 1]? = some (.cells #[.int .i64 1, .int .i64 1] 23) from cK_v20)).1).trans cK_v20
    have cF_v22 : v22.heap[EF]? = some (.cells #[.int .i64 (-1), .int .i64 1, .int .i64 1, .int .i64 1, .int .i64 0, .int .i64 1] 25) := (hb_v22.block (EF) (Array.getElem?_eq_some_iff.1 (show v20.heap[EF]? = some (.cells #[.int .i64 (-1), .int .i64 1, .int .i64 1, .int .i64 1, .int .i64 0, .int .i64 1] 25) from cF_v20)).1).trans cF_v20
    have cA_v22 : v22.heap[EA]? = some (.cells #[.int .i64 0, .int .i64 0, .int .i64 0, .int .i64 0, .int .i64 0, .int .i64 0] 25) := (hb_v22.block (EA) (Array.getElem?_eq_some_iff.1 (show v20.heap[EA]? = some (.cells #[.int .i64 0, .int .i64 0, .int .i64 0, .int .i64 0, .int .i64 0, .int .i64 0] 25) from cA_v20)).1).trans cA_v20
    have cB_v22 : v22.heap[EB]? = some (.cells #[.int .i64 0, .int .i64 0, .int .i64 0, .int .i64 0, .int .i64 0, .int .i64 0] 25) := (hb_v22.block (EB) (Array.getElem?_eq_some_iff.1 (show v20.heap[EB]? = some (.cells #[.int .i64 0, .int .i64 0, .int .i64 0, .int .i64 0, .int .i64 0, .int .i64 0] 25) from cB_v20)).1).trans cB_v20
    have cC_v22 : v22.heap[EC]? = some (.cells #[.int .i64 0, .int .i64 0, .int .i64 0, .int .i64 0, .int .i64 0, .int .i64 0] 25) := (hb_v22.block (EC) (Array.getElem?_eq_some_iff.1 (show v20.heap[EC]? = some (.cells #[.int .i64 0, .int .i64 0, .int .i64 0, .int .i64 0, .int .i64 0, .int .i64 0] 25) from cC_v20)).1).trans cC_v20
    have hw_v22 : Below D w v22 := (hw_v20).trans (hb_v22.mono (by first | omega | (simp; omega)))
    clear cS_v20 cO_v20 cZ_v20 cK_v20 cF_v20 cA_v20 cB_v20 cC_v20 hb_v22 y21_0 y21_1 y21_2 y21_3 y21_4 y21_5 hw_v20 hs_v22
    obtain ⟨ER, hER⟩ : ∃ E, v22.heap.size = E := ⟨_, rfl⟩
    have ld23 : (v22.alloc (.cells #[.int .i64 0, .int .i64 0, .int .i64 0, .int .i64 0, .int .i64 0, .int .i64 0] 25)).heap[D]? = some (.cells #[.int .i64 x0, .int .i64 x1, .int .i64 x2, .int .i64 x3, .int .i64 x4, .int .i64 x5] 25) := (heap_old (o := .cells #[.int .i64 0, .int .i64 0, .int .i64 0, .int .i64 0, .int .i64 0, .int .i64 0] 25) cS_v22)
    have y23_0 := cell6_0 ld23
    have y23_1 := cell6_1 ld23
    have y23_2 := cell6_2 ld23
    have y23_3 := cell6_3 ld23
    have y23_4 := cell6_4 ld23
    have y23_5 := cell6_5 ld23
    clear ld23
    go_wp2_with fail
    refine (CE.out _ he).mono ?_
    rintro e v24 ⟨rfl, hb_v24⟩
    have hs_v24 := hw_v22.size
    have cS_v24 : v24.heap[D]? = some (.cells #[.int .i64 x0, .int .i64 x1, .int .i64 x2, .int .i64 x3, .int .i64 x4, .int .i64 x5] 25) := (hb_v24.block (D) (Array.getElem?_eq_some_iff.1 (show (v22.alloc (.cells #[.int .i64 0, .int .i64 0, .int .i64 0, .int .i64 0, .int .i64 0, .int .i64 0] 25)).heap[D]? = some (.cells #[.int .i64 x0, .int .i64 x1, .int .i64 x2, .int .i64 x3, .int .i64 x4, .int .i64 x5] 25) from (heap_old (o := .cells #[.int .i64 0, .int .i64 0, .int .i64 0, .int .i64 0, .int .i64 0, .int .i64 0] 25) cS_v22))).1).trans (heap_old (o := .cells #[.int .i64 0, .int .i64 0, .int .i64 0, .int .i64 0, .int .i64 0, .int .i64 0] 25) cS_v22)
    have cO_v24 : v24.heap[EO]? = some (.cells #[.int .i64 ra, .int .i64 rb, .int .i64 rc, .int .i64 rdd] 29) := (hb_v24.block (EO) (Array.getElem?_eq_some_iff.1 (show (v22.alloc (.cells #[.int .i64 0, .int .i64 0, .int .i64 0, .int .i64 0, .int .i64 0, .int .i64 0] 25)).heap[EO]? = some (.cells #[.int .i64 ra, .int .i64 rb, .int .i64 rc, .int .i64 rdd] 29) from (heap_old (o := .cells #[.int .i64 0, .int .i64 0, .int .i64 0, .int .i64 0, .int .i64 0, .int .i64 0] 25) cO_v22))).1).trans (heap_old (o := .cells #[.int .i64 0, .int .i64 0, .int .i64 0, .int .i64 0, .int .i64 0, .int .i64 0] 25) cO_v22)
    have cZ_v24 : v24.heap[EZ]? = some (.cells #[.int .i64 0, .int .i64 0, .int .i64 0, .int .i64 0, .int .i64 0, .int .i64 0] 25) := (hb_v24.block (EZ) (Array.getElem?_eq_some_iff.1 (show (v22.alloc (.cells #[.int .i64 0, .int .i64 0, .int .i64 0, .int .i64 0, .int .i64 0, .int .i64 0] 25)).heap[EZ]? = some (.cells #[.int .i64 0, .int .i64 0, .int .i64 0, .int .i64 0, .int .i64 0, .int .i64 0] 25) from (heap_old (o := .cells #[.int .i64 0, .int .i64 0, .int .i64 0, .int .i64 0, .int .i64 0, .int .i64 0] 25) cZ_v22))).1).trans (heap_old (o := .cells #[.int .i64 0, .int .i64 0, .int .i64 0, .int .i64 0, .int .i64 0, .int .i64 0] 25) cZ_v22)
    have cK_v24 : v24.heap[EZ + 1]? = some (.cells #[.int .i64 1, .int .i64 1] 23) := (hb_v24.block (EZ + 1) (Array.getElem?_eq_some_iff.1 (show (v22.alloc (.cells #[.int .i64 0, .int .i64 0, .int .i64 0, .int .i64 0, .int .i64 0, .int .i64 0] 25)).heap[EZ + 1]? = some (.cells #[.int .i64 1, .int .i64 1] 23) from (heap_old (o := .cells #[.int .i64 0, .int .i64 0, .int .i64 0, .int .i64 0, .int .i64 0, .int .i64 0] 25) cK_v22))).1).trans (heap_old (o := .cells #[.int .i64 0, .int .i64 0, .int .i64 0, .int .i64 0, .int .i64 0, .int .i64 0] 25) cK_v22)
    have cF_v24 : v24.heap[EF]? = some (.cells #[.int .i64 (-1), .int .i64 1, .int .i64 1, .int .i64 1, .int .i64 0, .int .i64 1] 25) := (hb_v24.block (EF) (Array.getElem?_eq_some_iff.1 (show (v22.alloc (.cells #[.int .i64 0, .int .i64 0, .int .i64 0, .int .i64 0, .int .i64 0, .int .i64 0] 25)).heap[EF]? = some (.cells #[.int .i64 (-1), .int .i64 1, .int .i64 1, .int .i64 1, .int .i64 0, .int .i64 1] 25) from (heap_old (o := .cells #[.int .i64 0, .int .i64 0, .int .i64 0, .int .i64 0, .int .i64 0, .int .i64 0] 25) cF_v22))).1).trans (heap_old (o := .cells #[.int .i64 0, .int .i64 0, .int .i64 0, .int .i64 0, .int .i64 0, .int .i64 0] 25) cF_v22)
    have cA_v24 : v24.heap[EA]? = some (.cells #[.int .i64 0, .int .i64 0, .int .i64 0, .int .i64 0, .int .i64 0, .int .i64 0] 25) := (hb_v24.block (EA) (Array.getElem?_eq_some_iff.1 (show (v22.alloc (.cells #[.int .i64 0, .int .i64 0, .int .i64 0, .int .i64 0, .int .i64 0, .int .i64 0] 25)).heap[EA]? = some (.cells #[.int .i64 0, .int .i64 0, .int .i64 0, .int .i64 0, .int .i64 0, .int .i64 0] 25) from (heap_old (o := .cells #[.int .i64 0, .int .i64 0, .int .i64 0, .int .i64 0, .int .i64 0, .int .i64 0] 25) cA_v22))).1).trans (heap_old (o := .cells #[.int .i64 0, .int .i64 0, .int .i64 0, .int .i64 0, .int .i64 0, .int .i64 0] 25) cA_v22)
    have cB_v24 : v24.heap[EB]? = some (.cells #[.int .i64 0, .int .i64 0, .int .i64 0, .int .i64 0, .int .i64 0, .int .i64 0] 25) := (hb_v24.block (EB) (Array.getElem?_eq_some_iff.1 (show (v22.alloc (.cells #[.int .i64 0, .int .i64 0, .int .i64 0, .int .i64 0, .int .i64 0, .int .i64 0] 25)).heap[EB]? = some (.cells #[.int .i64 0, .int .i64 0, .int .i64 0, .int .i64 0, .int .i64 0, .int .i64 0] 25) from (heap_old (o := .cells #[.int .i64 0, .int .i64 0, .int .i64 0, .int .i64 0, .int .i64 0, .int .i64 0] 25) cB_v22))).1).trans (heap_old (o := .cells #[.int .i64 0, .int .i64 0, .int .i64 0, .int .i64 0, .int .i64 0, .int .i64 0] 25) cB_v22)
    have cC_v24 : v24.heap[EC]? = some (.cells #[.int .i64 0, .int .i64 0, .int .i64 0, .int .i64 0, .int .i64 0, .int .i64 0] 25) := (hb_v24.block (EC) (Array.getElem?_eq_some_iff.1 (show (v22.alloc (.cells #[.int .i64 0, .int .i64 0, .int .i64 0, .int .i64 0, .int .i64 0, .int .i64 0] 25)).heap[EC]? = some (.cells #[.int .i64 0, .int .i64 0, .int .i64 0, .int .i64 0, .int .i64 0, .int .i64 0] 25) from (heap_old (o := .cells #[.int .i64 0, .int .i64 0, .int .i64 0, .int .i64 0, .int .i64 0, .int .i64 0] 25) cC_v22))).1).trans (heap_old (o := .cells #[.int .i64 0, .int .i64 0, .int .i64 0, .int .i64 0, .int .i64 0, .int .i64 0] 25) cC_v22)
    have cR_v24 : v24.heap[ER]? = some (.cells #[.int .i64 0, .int .i64 0, .int .i64 0, .int .i64 0, .int .i64 0, .int .i64 0] 25) := (hb_v24.block (ER) (Array.getElem?_eq_some_iff.1 (show (v22.alloc (.cells #[.int .i64 0, .int .i64 0, .int .i64 0, .int .i64 0, .int .i64 0, .int .i64 0] 25)).heap[ER]? = some (.cells #[.int .i64 0, .int .i64 0, .int .i64 0, .int .i64 0, .int .i64 0, .int .i64 0] 25) from (heap_new (by first | omega | (simp; omega))))).1).trans (heap_new (by first | omega | (simp; omega)))
    have hw_v24 : Below D w v24 := ((hw_v22.alloc (by have := hw_v22.size; first | omega | (simp; omega)) (.cells #[.int .i64 0, .int .i64 0, .int .i64 0, .int .i64 0, .int .i64 0, .int .i64 0] 25))).trans (hb_v24.mono (by first | omega | (simp; omega)))
    clear cS_v22 cO_v22 cZ_v22 cK_v22 cF_v22 cA_v22 cB_v22 cC_v22 hb_v24 y23_0 y23_1 y23_2 y23_3 y23_4 y23_5 hw_v22 hs_v24
    have HW := Lib.hid hw_v24
    have ld25 : v24.heap[EA]? = some (.cells #[.int .i64 0, .int .i64 0, .int .i64 0, .int .i64 0, .int .i64 0, .int .i64 0] 25) := cA_v24
    have y25_0 := cell6_0 ld25
    have y25_1 := cell6_1 ld25
    have y25_2 := cell6_2 ld25
    have y25_3 := cell6_3 ld25
    have y25_4 := cell6_4 ld25
    have y25_5 := cell6_5 ld25
    clear ld25
    have ld26 : v24.heap[EB]? = some (.cells #[.int .i64 0, .int .i64 0, .int .i64 0, .int .i64 0, .int .i64 0, .int .i64 0] 25) := cB_v24
    have y26_0 := cell6_0 ld26
    have y26_1 := cell6_1 ld26
    have y26_2 := cell6_2 ld26
    have y26_3 := cell6_3 ld26
    have y26_4 := cell6_4 ld26
    have y26_5 := cell6_5 ld26
    clear ld26
    have ld27 : v24.heap[EC]? = some (.cells #[.int .i64 0, .int .i64 0, .int .i64 0, .int .i64 0, .int .i64 0, .int .i64 0] 25) := cC_v24
    have y27_0 := cell6_0 ld27
    have y27_1 := cell6_1 ld27
    have y27_2 := cell6_2 ld27
    have y27_3 := cell6_3 ld27
    have y27_4 := cell6_4 ld27
    have y27_5 := cell6_5 ld27
    clear ld27
    have ld28 : v24.heap[ER]? = some (.cells #[.int .i64 0, .int .i64 0, .int .i64 0, .int .i64 0, .int .i64 0, .int .i64 0] 25) := cR_v24
    have y28_0 := cell6_0 ld28
    have y28_1 := cell6_1 ld28
    have y28_2 := cell6_2 ld28
    have y28_3 := cell6_3 ld28
    have y28_4 := cell6_4 ld28
    have y28_5 := cell6_5 ld28
    clear ld28
    have ld29 : v24.heap[EZ]? = some (.cells #[.int .i64 0, .int .i64 0, .int .i64 0, .int .i64 0, .int .i64 0, .int .i64 0] 25) := cZ_v24
    have y29_0 := cell6_0 ld29
    have y29_1 := cell6_1 ld29
    have y29_2 := cell6_2 ld29
    have y29_3 := cell6_3 ld29
    have y29_4 := cell6_4 ld29
    have y29_5 := cell6_5 ld29
    clear ld29
    clear KN RD CK AD SU SC SG CM RE CE
    go_wp2
    go_ret
    exact ⟨rfl, by first | exact HW.out | (rw [hD]; exact HW.out)⟩
end Go.Proofs.YthdoadkdofgenaaGreatDoor
