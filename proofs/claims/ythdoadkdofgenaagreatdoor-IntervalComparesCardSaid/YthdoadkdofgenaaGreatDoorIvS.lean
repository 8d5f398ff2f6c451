/- Contract of the law's known: the examples of the chapter. -/
import Derived.Test.YthdoadkdofgenaaGreatDoorIvQ
import Derived.Test.YthdoadkdofgenaaGreatDoorIvK
namespace Go.Proofs.YthdoadkdofgenaaGreatDoor
open Go Go.RowKit Go.Shelf

theorem kn_ratio (W : World) : Calls Tryz.prog 27 #[.int .i64 81, .int .i64 80] W fun e w' => e = .returned (.tuple #[.agg #[.int .i64 (-4), .int .i64 1, .int .i64 4, .int .i64 1, .int .i64 (-1), .int .i64 1], .int .i64 0]) ∧ Below W.heap.size W w' := by
  have h := ivratio_any 81 80 W (by decide) (by decide) (by decide) (by decide)
  rw [show raN (Iv.e2 81 80) 81 80 = -4 by kernel_rfl, show raD (Iv.e2 81 80) 81 80 = 1 by kernel_rfl, show raN (Iv.e3 81 80) 81 80 = 4 by kernel_rfl, show raD (Iv.e3 81 80) 81 80 = 1 by kernel_rfl, show raN (Iv.e5 81 80) 81 80 = -1 by kernel_rfl, show raD (Iv.e5 81 80) 81 80 = 1 by kernel_rfl, show raE 81 80 = 0 by kernel_rfl] at h
  exact h
theorem kn_of (W : World) : Calls Tryz.prog 15 #[.int .i64 (-4), .int .i64 4, .int .i64 (-1)] W fun e w' => e = .returned (.tuple #[.agg #[.int .i64 (-4), .int .i64 1, .int .i64 4, .int .i64 1, .int .i64 (-1), .int .i64 1], .int .i64 0]) ∧ Below W.heap.size W w' := by
  have h := ivof_any (-4) 4 (-1) W (by decide) (by decide) (by decide) (by decide) (by decide) (by decide)
  rw [show szN (-4) (-4) 4 (-1) 1 = -4 by kernel_rfl, show szD (-4) (-4) 4 (-1) 1 = 1 by kernel_rfl, show szN 4 (-4) 4 (-1) 1 = 4 by kernel_rfl, show szD 4 (-4) 4 (-1) 1 = 1 by kernel_rfl, show szN (-1) (-4) 4 (-1) 1 = -1 by kernel_rfl, show szD (-1) (-4) 4 (-1) 1 = 1 by kernel_rfl, show szE (-4) 4 (-1) 1 = 0 by kernel_rfl] at h
  exact h
theorem kn_named (W : World) (N : Nm W) : Calls Tryz.prog 24 #[.string ⟨#[102, 105, 102, 116, 104]⟩] W fun e w' => e = .returned (.tuple #[.agg #[.int .i64 (-1), .int .i64 1, .int .i64 1, .int .i64 1, .int .i64 0, .int .i64 1], .int .i64 0]) ∧ Below W.heap.size W w' := by
  have h := ivnamed_any ⟨#[102, 105, 102, 116, 104]⟩ W N
  rw [show nmN 0 ⟨#[102, 105, 102, 116, 104]⟩ = -1 by kernel_rfl, show nmD 0 ⟨#[102, 105, 102, 116, 104]⟩ = 1 by kernel_rfl, show nmN 1 ⟨#[102, 105, 102, 116, 104]⟩ = 1 by kernel_rfl, show nmD 1 ⟨#[102, 105, 102, 116, 104]⟩ = 1 by kernel_rfl, show nmN 2 ⟨#[102, 105, 102, 116, 104]⟩ = 0 by kernel_rfl, show nmD 2 ⟨#[102, 105, 102, 116, 104]⟩ = 1 by kernel_rfl, show nmE ⟨#[102, 105, 102, 116, 104]⟩ = 0 by kernel_rfl] at h
  exact h
theorem kn_cents (W : World) (G : Gi W) : Calls Tryz.prog 22 #[.agg #[.int .i64 (-1), .int .i64 1, .int .i64 1, .int .i64 1, .int .i64 0, .int .i64 1]] W fun e w' => e = .returned (.tuple #[.int .i64 70196, .int .i64 0]) ∧ Below W.heap.size W w' := by
  have h := ivcents_ok (-1) 1 1 1 0 1 1 W G (by kernel_rfl) (by kernel_rfl) (by decide) (by decide)
  rw [show Iv.cn (Iv.lg (rdA (-1) 1 1 1 0 1) (rdB (-1) 1 1 1 0 1) (rdC (-1) 1 1 1 0 1)) 1 = 70196 by kernel_rfl] at h
  exact h
theorem kn_compare (W : World) (G : Gi W) : Calls Tryz.prog 20 #[.agg #[.int .i64 (-1), .int .i64 1, .int .i64 1, .int .i64 1, .int .i64 0, .int .i64 1], .agg #[.int .i64 (-4), .int .i64 1, .int .i64 4, .int .i64 1, .int .i64 (-1), .int .i64 1]] W fun e w' => e = .returned (.tuple #[.int .i64 1, .int .i64 0]) ∧ Below W.heap.size W w' := by
  have h := ivcompare_ok (-1) 1 1 1 0 1 (-4) 1 4 1 (-1) 1 1 1 W G (by kernel_rfl) (by kernel_rfl) (by kernel_rfl) (by decide) (by decide) (by kernel_rfl) (by decide) (by decide)
  rw [show sgn (Iv.lg (Iv.cb (rdA (-1) 1 1 1 0 1) (rdA (-4) 1 4 1 (-1) 1) 1 1 (-1)) (Iv.cb (rdB (-1) 1 1 1 0 1) (rdB (-4) 1 4 1 (-1) 1) 1 1 (-1)) (Iv.cb (rdC (-1) 1 1 1 0 1) (rdC (-4) 1 4 1 (-1) 1) 1 1 (-1))) = 1 by kernel_rfl] at h
  exact h
set_option maxRecDepth 10000 in
set_option maxHeartbeats 4000000 in
theorem lknown_any (w : World) (G : Gi w) (N : Nm w) : Calls Tryz.prog 12 #[] w fun e w' => e = .returned (.bool true) ∧ Below w.heap.size w w' := by
  have he : ∀ W : World, (binOp .eql 25 (.agg #[.int .i64 (-4), .int .i64 1, .int .i64 4, .int .i64 1, .int .i64 (-1), .int .i64 1]) (.agg #[.int .i64 (-4), .int .i64 1, .int .i64 4, .int .i64 1, .int .i64 (-1), .int .i64 1])).run Tryz.prog W = .ok (.bool true) W := fun _ => by kernel_rfl
  obtain ⟨D, hD⟩ : ∃ D, w.heap.size = D := ⟨_, rfl⟩
  go_enter Tryz.func12, Tryz.ntmps12
  go_wp2_with fail
  refine (kn_ratio _).mono ?_
  rintro e v1 ⟨rfl, hb_v1⟩
  have hw_v1 : Below D w v1 := ((Below.refl _ w)).trans (hb_v1.mono (by first | omega | (simp; omega)))
  clear hb_v1
  obtain ⟨EA, hEA⟩ : ∃ E, v1.heap.size = E := ⟨_, rfl⟩
  go_wp2_with fail
  refine (kn_of _).mono ?_
  rintro e v2 ⟨rfl, hb_v2⟩
  have hs_v2 := hw_v1.size
  have cA_v2 : v2.heap[EA]? = some (.cells #[.int .i64 (-4), .int .i64 1, .int .i64 4, .int .i64 1, .int .i64 (-1), .int .i64 1] 25) := (hb_v2.block EA (Array.getElem?_eq_some_iff.1 (show (v1.alloc (.cells #[.int .i64 (-4), .int .i64 1, .int .i64 4, .int .i64 1, .int .i64 (-1), .int .i64 1] 25)).heap[EA]? = some (.cells #[.int .i64 (-4), .int .i64 1, .int .i64 4, .int .i64 1, .int .i64 (-1), .int .i64 1] 25) from (heap_new (by first | omega | (simp; omega))))).1).trans (heap_new (by first | omega | (simp; omega)))
  have hw_v2 : Below D w v2 := ((hw_v1.alloc (by have := hw_v1.size; first | omega | (simp; omega)) (.cells #[.int .i64 (-4), .int .i64 1, .int .i64 4, .int .i64 1, .int .i64 (-1), .int .i64 1] 25))).trans (hb_v2.mono (by first | omega | (simp; omega)))
  clear hb_v2 hw_v1 hs_v2
  obtain ⟨EB, hEB⟩ : ∃ E, v2.heap.size = E := ⟨_, rfl⟩
  have N1 : Nm (v2.alloc (.cells #[.int .i64 (-4), .int .i64 1, .int .i64 4, .int .i64 1, .int .i64 (-1), .int .i64 1] 25)) := N.below (by rw [hD]; exact (hw_v2.alloc (by have := hw_v2.size; first | omega | (simp; omega)) (.cells #[.int .i64 (-4), .int .i64 1, .int .i64 4, .int .i64 1, .int .i64 (-1), .int .i64 1] 25)))
  go_wp2_with fail
  refine (kn_named _ N1).mono ?_
  rintro e v3 ⟨rfl, hb_v3⟩
  have hs_v3 := hw_v2.size
  have cA_v3 : v3.heap[EA]? = some (.cells #[.int .i64 (-4), .int .i64 1, .int .i64 4, .int .i64 1, .int .i64 (-1), .int .i64 1] 25) := (hb_v3.block EA (Array.getElem?_eq_some_iff.1 (show (v2.alloc (.cells #[.int .i64 (-4), .int .i64 1, .int .i64 4, .int .i64 1, .int .i64 (-1), .int .i64 1] 25)).heap[EA]? = some (.cells #[.int .i64 (-4), .int .i64 1, .int .i64 4, .int .i64 1, .int .i64 (-1), .int .i64 1] 25) from (heap_old (o := .cells #[.int .i64 (-4), .int .i64 1, .int .i64 4, .int .i64 1, .int .i64 (-1), .int .i64 1] 25) cA_v2))).1).trans (heap_old (o := .cells #[.int .i64 (-4), .int .i64 1, .int .i64 4, .int .i64 1, .int .i64 (-1), .int .i64 1] 25) cA_v2)
  have cB_v3 : v3.heap[EB]? = some (.cells #[.int .i64 (-4), .int .i64 1, .int .i64 4, .int .i64 1, .int .i64 (-1), .int .i64 1] 25) := (hb_v3.block EB (Array.getElem?_eq_some_iff.1 (show (v2.alloc (.cells #[.int .i64 (-4), .int .i64 1, .int .i64 4, .int .i64 1, .int .i64 (-1), .int .i64 1] 25)).heap[EB]? = some (.cells #[.int .i64 (-4), .int .i64 1, .int .i64 4, .int .i64 1, .int .i64 (-1), .int .i64 1] 25) from (heap_new (by first | omega | (simp; omega))))).1).trans (heap_new (by first | omega | (simp; omega)))
  have hw_v3 : Below D w v3 := ((hw_v2.alloc (by have := hw_v2.size; first | omega | (simp; omega)) (.cells #[.int .i64 (-4), .int .i64 1, .int .i64 4, .int .i64 1, .int .i64 (-1), .int .i64 1] 25))).trans (hb_v3.mono (by first | omega | (simp; omega)))
  clear cA_v2 hb_v3 hw_v2 hs_v3
  obtain ⟨EF, hEF⟩ : ∃ E, v3.heap.size = E := ⟨_, rfl⟩
  have G1 : Gi (v3.alloc (.cells #[.int .i64 (-1), .int .i64 1, .int .i64 1, .int .i64 1, .int .i64 0, .int .i64 1] 25)) := G.below (by rw [hD]; exact (hw_v3.alloc (by have := hw_v3.size; first | omega | (simp; omega)) (.cells #[.int .i64 (-1), .int .i64 1, .int .i64 1, .int .i64 1, .int .i64 0, .int .i64 1] 25)))
  have ld4 : (v3.alloc (.cells #[.int .i64 (-1), .int .i64 1, .int .i64 1, .int .i64 1, .int .i64 0, .int .i64 1] 25)).heap[EF]? = some (.cells #[.int .i64 (-1), .int .i64 1, .int .i64 1, .int .i64 1, .int .i64 0, .int .i64 1] 25) := (heap_new (by first | omega | (simp; omega)))
  have y4_0 := cell6_0 ld4
  have y4_1 := cell6_1 ld4
  have y4_2 := cell6_2 ld4
  have y4_3 := cell6_3 ld4
  have y4_4 := cell6_4 ld4
  have y4_5 := cell6_5 ld4
  clear ld4
  go_wp2_with fail
  refine (kn_cents _ G1).mono ?_
  rintro e v5 ⟨rfl, hb_v5⟩
  have hs_v5 := hw_v3.size
  have cA_v5 : v5.heap[EA]? = some (.cells #[.int .i64 (-4), .int .i64 1, .int .i64 4, .int .i64 1, .int .i64 (-1), .int .i64 1] 25) := (hb_v5.block EA (Array.getElem?_eq_some_iff.1 (show (v3.alloc (.cells #[.int .i64 (-1), .int .i64 1, .int .i64 1, .int .i64 1, .int .i64 0, .int .i64 1] 25)).heap[EA]? = some (.cells #[.int .i64 (-4), .int .i64 1, .int .i64 4, .int .i64 1, .int .i64 (-1), .int .i64 1] 25) from (heap_old (o := .cells #[.int .i64 (-1), .int .i64 1, .int .i64 1, .int .i64 1, .int .i64 0, .int .i64 1] 25) cA_v3))).1).trans (heap_old (o := .cells #[.int .i64 (-1), .int .i64 1, .int .i64 1, .int .i64 1, .int .i64 0, .int .i64 1] 25) cA_v3)
  have cB_v5 : v5.heap[EB]? = some (.cells #[.int .i64 (-4), .int .i64 1, .int .i64 4, .int .i64 1, .int .i64 (-1), .int .i64 1] 25) := (hb_v5.block EB (Array.getElem?_eq_some_iff.1 (show (v3.alloc (.cells #[.int .i64 (-1), .int .i64 1, .int .i64 1, .int .i64 1, .int .i64 0, .int .i64 1] 25)).heap[EB]? = some (.cells #[.int .i64 (-4), .int .i64 1, .int .i64 4, .int .i64 1, .int .i64 (-1), .int .i64 1] 25) from (heap_old (o := .cells #[.int .i64 (-1), .int .i64 1, .int .i64 1, .int .i64 1, .int .i64 0, .int .i64 1] 25) cB_v3))).1).trans (heap_old (o := .cells #[.int .i64 (-1), .int .i64 1, .int .i64 1, .int .i64 1, .int .i64 0, .int .i64 1] 25) cB_v3)
  have cF_v5 : v5.heap[EF]? = some (.cells #[.int .i64 (-1), .int .i64 1, .int .i64 1, .int .i64 1, .int .i64 0, .int .i64 1] 25) := (hb_v5.block EF (Array.getElem?_eq_some_iff.1 (show (v3.alloc (.cells #[.int .i64 (-1), .int .i64 1, .int .i64 1, .int .i64 1, .int .i64 0, .int .i64 1] 25)).heap[EF]? = some (.cells #[.int .i64 (-1), .int .i64 1, .int .i64 1, .int .i64 1, .int .i64 0, .int .i64 1] 25) from (heap_new (by first | omega | (simp; omega))))).1).trans (heap_new (by first | omega | (simp; omega)))
  have hw_v5 : Below D w v5 := ((hw_v3.alloc (by have := hw_v3.size; first | omega | (simp; omega)) (.cells #[.int .i64 (-1), .int .i64 1, .int .i64 1, .int .i64 1, .int .i64 0, .int .i64 1] 25))).trans (hb_v5.mono (by first | omega | (simp; omega)))
  clear cA_v3 cB_v3 hb_v5 y4_0 y4_1 y4_2 y4_3 y4_4 y4_5 hw_v3 hs_v5
  have G2 : Gi v5 := G.below (by rw [hD]; exact hw_v5)
  have ld6 : v5.heap[EF]? = some (.cells #[.int .i64 (-1), .int .i64 1, .int .i64 1, .int .i64 1, .int .i64 0, .int .i64 1] 25) := cF_v5
  have y6_0 := cell6_0 ld6
  have y6_1 := cell6_1 ld6
  have y6_2 := cell6_2 ld6
  have y6_3 := cell6_3 ld6
  have y6_4 := cell6_4 ld6
  have y6_5 := cell6_5 ld6
  clear ld6
  have ld7 : v5.heap[EA]? = some (.cells #[.int .i64 (-4), .int .i64 1, .int .i64 4, .int .i64 1, .int .i64 (-1), .int .i64 1] 25) := cA_v5
  have y7_0 := cell6_0 ld7
  have y7_1 := cell6_1 ld7
  have y7_2 := cell6_2 ld7
  have y7_3 := cell6_3 ld7
  have y7_4 := cell6_4 ld7
  have y7_5 := cell6_5 ld7
  clear ld7
  go_wp2_with fail
  refine (kn_compare _ G2).mono ?_
  rintro e v8 ⟨rfl, hb_v8⟩
  have hs_v8 := hw_v5.size
  have cA_v8 : v8.heap[EA]? = some (.cells #[.int .i64 (-4), .int .i64 1, .int .i64 4, .int .i64 1, .int .i64 (-1), .int .i64 1] 25) := (hb_v8.block EA (Array.getElem?_eq_some_iff.1 (show v5.heap[EA]? = some (.cells #[.int .i64 (-4), .int .i64 1, .int .i64 4, .int .i64 1, .int .i64 (-1), .int .i64 1] 25) from cA_v5)).1).trans cA_v5
  have cB_v8 : v8.heap[EB]? = some (.cells #[.int .i64 (-4), .int .i64 1, .int .i64 4, .int .i64 1, .int .i64 (-1), .int .i64 1] 25) := (hb_v8.block EB (Array.getElem?_eq_some_iff.1 (show v5.heap[EB]? = some (.cells #[.int .i64 (-4), .int .i64 1, .int .i64 4, .int .i64 1, .int .i64 (-1), .int .i64 1] 25) from cB_v5)).1).trans cB_v5
  have cF_v8 : v8.heap[EF]? = some (.cells #[.int .i64 (-1), .int .i64 1, .int .i64 1, .int .i64 1, .int .i64 0, .int .i64 1] 25) := (hb_v8.block EF (Array.getElem?_eq_some_iff.1 (show v5.heap[EF]? = some (.cells #[.int .i64 (-1), .int .i64 1, .int .i64 1, .int .i64 1, .int .i64 0, .int .i64 1] 25) from cF_v5)).1).trans cF_v5
  have hw_v8 : Below D w v8 := (hw_v5).trans (hb_v8.mono (by first | omega | (simp; omega)))
  clear cA_v5 cB_v5 cF_v5 hb_v8 y6_0 y6_1 y6_2 y6_3 y6_4 y6_5 y7_0 y7_1 y7_2 y7_3 y7_4 y7_5 hw_v5 hs_v8
  have HW := Lib.hid hw_v8
  have ld9 : v8.heap[EA]? = some (.cells #[.int .i64 (-4), .int .i64 1, .int .i64 4, .int .i64 1, .int .i64 (-1), .int .i64 1] 25) := cA_v8
  have y9_0 := cell6_0 ld9
  have y9_1 := cell6_1 ld9
  have y9_2 := cell6_2 ld9
  have y9_3 := cell6_3 ld9
  have y9_4 := cell6_4 ld9
  have y9_5 := cell6_5 ld9
  clear ld9
  have ld10 : v8.heap[EB]? = some (.cells #[.int .i64 (-4), .int .i64 1, .int .i64 4, .int .i64 1, .int .i64 (-1), .int .i64 1] 25) := cB_v8
  have y10_0 := cell6_0 ld10
  have y10_1 := cell6_1 ld10
  have y10_2 := cell6_2 ld10
  have y10_3 := cell6_3 ld10
  have y10_4 := cell6_4 ld10
  have y10_5 := cell6_5 ld10
  clear ld10
  go_wp2
  go_ret
  exact ⟨rfl, by first | exact HW.out | (rw [hD]; exact HW.out)⟩
end Go.Proofs.YthdoadkdofgenaaGreatDoor
