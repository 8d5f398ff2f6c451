/- Contract of the reference's Named. -/
import Derived.Test.YthdoadkdofgenaaGreatDoorIvDa
import Derived.Test.YthdoadkdofgenaaGreatDoorIvS
import Derived.Test.YthdoadkdofgenaaGreatDoorIvMathC
import Derived.Laws.StructEq
namespace Go.Proofs.YthdoadkdofgenaaGreatDoor
open Go Go.RowKit Go.Shelf

theorem rrat0 (W : World) : Calls Tryz.prog 28 #[.int .i64 1, .int .i64 1] W fun e w' => e = .returned (.tuple #[.agg #[.int .i64 0, .int .i64 0, .int .i64 0, .int .i64 1], .bool true]) ∧ Below W.heap.size W w' := by
  have h := rratio_any 1 1 W (by decide) (by decide) (by decide) (by decide)
  rw [show Iv.e2 1 1 = 0 by kernel_rfl, show Iv.e3 1 1 = 0 by kernel_rfl, show Iv.e5 1 1 = 0 by kernel_rfl, show decide (Iv.rest 1 = Iv.rest 1) = true by kernel_rfl] at h
  exact h
set_option maxRecDepth 10000 in
set_option maxHeartbeats 1000000 in
theorem rnamed_0 (s : ByteArray) (w : World)  (g0 : (s.toList == [117, 110, 105, 115, 111, 110]) = true) :
    Calls Tryz.prog 25 #[.string s] w fun e w' => e = .returned (.tuple #[.agg #[.int .i64 0, .int .i64 0, .int .i64 0, .int .i64 1], .bool true]) ∧ Below w.heap.size w w' := by
  have RR := Lib.hid rrat0
  obtain ⟨D, hD⟩ : ∃ D, w.heap.size = D := ⟨_, rfl⟩
  go_enter Tryz.func25, Tryz.ntmps25
  go_wp2_with fail
  refine (RR.out _).mono ?_
  rintro e w1 ⟨rfl, hb1⟩
  have h1 : w1.heap[D]? = some (.cells #[.int .i64 0, .int .i64 0, .int .i64 0, .int .i64 0] 29) := (hb1.block D (by simp [hD])).trans (heap_new hD.symm)
  have hw1 : Below D w w1 := ((Below.refl _ w).alloc (by omega) _).trans (hb1.mono (by simp; omega))
  have r0 := cell4_0 h1
  have f0 := free4_0 h1
  have r1 := cell4_1 h1
  have f1 := free4_1 h1
  have r2 := cell4_2 h1
  have f2 := free4_2 h1
  have r3 := cell4_3 h1
  have f3 := free4_3 h1
  obtain ⟨U, hU⟩ : ∃ U, ((((w1.setCell ⟨D, 0, none⟩ (.int .i64 0)).setCell ⟨D, 1, none⟩ (.int .i64 0)).setCell ⟨D, 2, none⟩ (.int .i64 0)).setCell ⟨D, 3, none⟩ (.int .i64 1)) = U := ⟨_, rfl⟩
  have HW := Lib.hid (show Below D w U by rw [← hU]; exact ((((hw1.setCell (p := ⟨D, 0, none⟩) (show D ≤ D by omega) (.int .i64 0)).setCell (p := ⟨D, 1, none⟩) (show D ≤ D by omega) (.int .i64 0)).setCell (p := ⟨D, 2, none⟩) (show D ≤ D by omega) (.int .i64 0)).setCell (p := ⟨D, 3, none⟩) (show D ≤ D by omega) (.int .i64 1)))
  have hE : U.heap[D]? = some (.cells #[.int .i64 0, .int .i64 0, .int .i64 0, .int .i64 1] 29) := by rw [← hU]; exact (set4_3 (x := .int .i64 1) (set4_2 (x := .int .i64 0) (set4_1 (x := .int .i64 0) (set4_0 (x := .int .i64 0) h1))))
  have HU := Lib.hid hU
  have z0 := cell4_0 hE
  have z1 := cell4_1 hE
  have z2 := cell4_2 hE
  have z3 := cell4_3 hE
  clear hE hU h1 hw1 hb1
  go_wp2
  rw [HU.out]
  refine bodyPost_ret (v := .tuple #[.agg #[.int .i64 0, .int .i64 0, .int .i64 0, .int .i64 1], .bool true]) (by simp [results, Tryz.results25, go_sem, z0, z1, z2, z3]) rfl ⟨rfl, by first | exact HW.out | (rw [hD]; exact HW.out)⟩
theorem rrat1 (W : World) : Calls Tryz.prog 28 #[.int .i64 2, .int .i64 1] W fun e w' => e = .returned (.tuple #[.agg #[.int .i64 1, .int .i64 0, .int .i64 0, .int .i64 1], .bool true]) ∧ Below W.heap.size W w' := by
  have h := rratio_any 2 1 W (by decide) (by decide) (by decide) (by decide)
  rw [show Iv.e2 2 1 = 1 by kernel_rfl, show Iv.e3 2 1 = 0 by kernel_rfl, show Iv.e5 2 1 = 0 by kernel_rfl, show decide (Iv.rest 2 = Iv.rest 1) = true by kernel_rfl] at h
  exact h
set_option maxRecDepth 10000 in
set_option maxHeartbeats 1000000 in
theorem rnamed_1 (s : ByteArray) (w : World) (g0 : (s.toList == [117, 110, 105, 115, 111, 110]) = false) (g1 : (s.toList == [111, 99, 116, 97, 118, 101]) = true) :
    Calls Tryz.prog 25 #[.string s] w fun e w' => e = .returned (.tuple #[.agg #[.int .i64 1, .int .i64 0, .int .i64 0, .int .i64 1], .bool true]) ∧ Below w.heap.size w w' := by
  have RR := Lib.hid rrat1
  obtain ⟨D, hD⟩ : ∃ D, w.heap.size = D := ⟨_, rfl⟩
  go_enter Tryz.func25, Tryz.ntmps25
  go_wp2_with fail
  refine (RR.out _).mono ?_
  rintro e w1 ⟨rfl, hb1⟩
  have h1 : w1.heap[D]? = some (.cells #[.int .i64 0, .int .i64 0, .int .i64 0, .int .i64 0] 29) := (hb1.block D (by simp [hD])).trans (heap_new hD.symm)
  have hw1 : Below D w w1 := ((Below.refl _ w).alloc (by omega) _).trans (hb1.mono (by simp; omega))
  have r0 := cell4_0 h1
  have f0 := free4_0 h1
  have r1 := cell4_1 h1
  have f1 := free4_1 h1
  have r2 := cell4_2 h1
  have f2 := free4_2 h1
  have r3 := cell4_3 h1
  have f3 := free4_3 h1
  obtain ⟨U, hU⟩ : ∃ U, ((((w1.setCell ⟨D, 0, none⟩ (.int .i64 1)).setCell ⟨D, 1, none⟩ (.int .i64 0)).setCell ⟨D, 2, none⟩ (.int .i64 0)).setCell ⟨D, 3, none⟩ (.int .i64 1)) = U := ⟨_, rfl⟩
  have HW := Lib.hid (show Below D w U by rw [← hU]; exact ((((hw1.setCell (p := ⟨D, 0, none⟩) (show D ≤ D by omega) (.int .i64 1)).setCell (p := ⟨D, 1, none⟩) (show D ≤ D by omega) (.int .i64 0)).setCell (p := ⟨D, 2, none⟩) (show D ≤ D by omega) (.int .i64 0)).setCell (p := ⟨D, 3, none⟩) (show D ≤ D by omega) (.int .i64 1)))
  have hE : U.heap[D]? = some (.cells #[.int .i64 1, .int .i64 0, .int .i64 0, .int .i64 1] 29) := by rw [← hU]; exact (set4_3 (x := .int .i64 1) (set4_2 (x := .int .i64 0) (set4_1 (x := .int .i64 0) (set4_0 (x := .int .i64 1) h1))))
  have HU := Lib.hid hU
  have z0 := cell4_0 hE
  have z1 := cell4_1 hE
  have z2 := cell4_2 hE
  have z3 := cell4_3 hE
  clear hE hU h1 hw1 hb1
  go_wp2
  rw [HU.out]
  refine bodyPost_ret (v := .tuple #[.agg #[.int .i64 1, .int .i64 0, .int .i64 0, .int .i64 1], .bool true]) (by simp [results, Tryz.results25, go_sem, z0, z1, z2, z3]) rfl ⟨rfl, by first | exact HW.out | (rw [hD]; exact HW.out)⟩
theorem rrat2 (W : World) : Calls Tryz.prog 28 #[.int .i64 3, .int .i64 2] W fun e w' => e = .returned (.tuple #[.agg #[.int .i64 (-1), .int .i64 1, .int .i64 0, .int .i64 1], .bool true]) ∧ Below W.heap.size W w' := by
  have h := rratio_any 3 2 W (by decide) (by decide) (by decide) (by decide)
  rw [show Iv.e2 3 2 = -1 by kernel_rfl, show Iv.e3 3 2 = 1 by kernel_rfl, show Iv.e5 3 2 = 0 by kernel_rfl, show decide (Iv.rest 3 = Iv.rest 2) = true by kernel_rfl] at h
  exact h
set_option maxRecDepth 10000 in
set_option maxHeartbeats 1000000 in
theorem rnamed_2 (s : ByteArray) (w : World) (g0 : (s.toList == [117, 110, 105, 115, 111, 110]) = false) (g1 : (s.toList == [111, 99, 116, 97, 118, 101]) = false) (g2 : (s.toList == [102, 105, 102, 116, 104]) = true) :
    Calls Tryz.prog 25 #[.string s] w fun e w' => e = .returned (.tuple #[.agg #[.int .i64 (-1), .int .i64 1, .int .i64 0, .int .i64 1], .bool true]) ∧ Below w.heap.size w w' := by
  have RR := Lib.hid rrat2
  obtain ⟨D, hD⟩ : ∃ D, w.heap.size = D := ⟨_, rfl⟩
  go_enter Tryz.func25, Tryz.ntmps25
  go_wp2_with fail
  refine (RR.out _).mono ?_
  rintro e w1 ⟨rfl, hb1⟩
  have h1 : w1.heap[D]? = some (.cells #[.int .i64 0, .int .i64 0, .int .i64 0, .int .i64 0] 29) := (hb1.block D (by simp [hD])).trans (heap_new hD.symm)
  have hw1 : Below D w w1 := ((Below.refl _ w).alloc (by omega) _).trans (hb1.mono (by simp; omega))
  have r0 := cell4_0 h1
  have f0 := free4_0 h1
  have r1 := cell4_1 h1
  have f1 := free4_1 h1
  have r2 := cell4_2 h1
  have f2 := free4_2 h1
  have r3 := cell4_3 h1
  have f3 := free4_3 h1
  obtain ⟨U, hU⟩ : ∃ U, ((((w1.setCell ⟨D, 0, none⟩ (.int .i64 (-1))).setCell ⟨D, 1, none⟩ (.int .i64 1)).setCell ⟨D, 2, none⟩ (.int .i64 0)).setCell ⟨D, 3, none⟩ (.int .i64 1)) = U := ⟨_, rfl⟩
  have HW := Lib.hid (show Below D w U by rw [← hU]; exact ((((hw1.setCell (p := ⟨D, 0, none⟩) (show D ≤ D by omega) (.int .i64 (-1))).setCell (p := ⟨D, 1, none⟩) (show D ≤ D by omega) (.int .i64 1)).setCell (p := ⟨D, 2, none⟩) (show D ≤ D by omega) (.int .i64 0)).setCell (p := ⟨D, 3, none⟩) (show D ≤ D by omega) (.int .i64 1)))
  have hE : U.heap[D]? = some (.cells #[.int .i64 (-1), .int .i64 1, .int .i64 0, .int .i64 1] 29) := by rw [← hU]; exact (set4_3 (x := .int .i64 1) (set4_2 (x := .int .i64 0) (set4_1 (x := .int .i64 1) (set4_0 (x := .int .i64 (-1)) h1))))
  have HU := Lib.hid hU
  have z0 := cell4_0 hE
  have z1 := cell4_1 hE
  have z2 := cell4_2 hE
  have z3 := cell4_3 hE
  clear hE hU h1 hw1 hb1
  go_wp2
  rw [HU.out]
  refine bodyPost_ret (v := .tuple #[.agg #[.int .i64 (-1), .int .i64 1, .int .i64 0, .int .i64 1], .bool true]) (by simp [results, Tryz.results25, go_sem, z0, z1, z2, z3]) rfl ⟨rfl, by first | exact HW.out | (rw [hD]; exact HW.out)⟩
theorem rrat3 (W : World) : Calls Tryz.prog 28 #[.int .i64 4, .int .i64 3] W fun e w' => e = .returned (.tuple #[.agg #[.int .i64 2, .int .i64 (-1), .int .i64 0, .int .i64 1], .bool true]) ∧ Below W.heap.size W w' := by
  have h := rratio_any 4 3 W (by decide) (by decide) (by decide) (by decide)
  rw [show Iv.e2 4 3 = 2 by kernel_rfl, show Iv.e3 4 3 = -1 by kernel_rfl, show Iv.e5 4 3 = 0 by kernel_rfl, show decide (Iv.rest 4 = Iv.rest 3) = true by kernel_rfl] at h
  exact h
set_option maxRecDepth 10000 in
set_option maxHeartbeats 1000000 in
theorem rnamed_3 (s : ByteArray) (w : World) (g0 : (s.toList == [117, 110, 105, 115, 111, 110]) = false) (g1 : (s.toList == [111, 99, 116, 97, 118, 101]) = false) (g2 : (s.toList == [102, 105, 102, 116, 104]) = false) (g3 : (s.toList == [102, 111, 117, 114, 116, 104]) = true) :
    Calls Tryz.prog 25 #[.string s] w fun e w' => e = .returned (.tuple #[.agg #[.int .i64 2, .int .i64 (-1), .int .i64 0, .int .i64 1], .bool true]) ∧ Below w.heap.size w w' := by
  have RR := Lib.hid rrat3
  obtain ⟨D, hD⟩ : ∃ D, w.heap.size = D := ⟨_, rfl⟩
  go_enter Tryz.func25, Tryz.ntmps25
  go_wp2_with fail
  refine (RR.out _).mono ?_
  rintro e w1 ⟨rfl, hb1⟩
  have h1 : w1.heap[D]? = some (.cells #[.int .i64 0, .int .i64 0, .int .i64 0, .int .i64 0] 29) := (hb1.block D (by simp [hD])).trans (heap_new hD.symm)
  have hw1 : Below D w w1 := ((Below.refl _ w).alloc (by omega) _).trans (hb1.mono (by simp; omega))
  have r0 := cell4_0 h1
  have f0 := free4_0 h1
  have r1 := cell4_1 h1
  have f1 := free4_1 h1
  have r2 := cell4_2 h1
  have f2 := free4_2 h1
  have r3 := cell4_3 h1
  have f3 := free4_3 h1
  obtain ⟨U, hU⟩ : ∃ U, ((((w1.setCell ⟨D, 0, none⟩ (.int .i64 2)).setCell ⟨D, 1, none⟩ (.int .i64 (-1))).setCell ⟨D, 2, none⟩ (.int .i64 0)).setCell ⟨D, 3, none⟩ (.int .i64 1)) = U := ⟨_, rfl⟩
  have HW := Lib.hid (show Below D w U by rw [← hU]; exact ((((hw1.setCell (p := ⟨D, 0, none⟩) (show D ≤ D by omega) (.int .i64 2)).setCell (p := ⟨D, 1, none⟩) (show D ≤ D by omega) (.int .i64 (-1))).setCell (p := ⟨D, 2, none⟩) (show D ≤ D by omega) (.int .i64 0)).setCell (p := ⟨D, 3, none⟩) (show D ≤ D by omega) (.int .i64 1)))
  have hE : U.heap[D]? = some (.cells #[.int .i64 2, .int .i64 (-1), .int .i64 0, .int .i64 1] 29) := by rw [← hU]; exact (set4_3 (x := .int .i64 1) (set4_2 (x := .int .i64 0) (set4_1 (x := .int .i64 (-1)) (set4_0 (x := .int .i64 2) h1))))
  have HU := Lib.hid hU
  have z0 := cell4_0 hE
  have z1 := cell4_1 hE
  have z2 := cell4_2 hE
  have z3 := cell4_3 hE
  clear hE hU h1 hw1 hb1
  go_wp2
  rw [HU.out]
  refine bodyPost_ret (v := .tuple #[.agg #[.int .i64 2, .int .i64 (-1), .int .i64 0, .int .i64 1], .bool true]) (by simp [results, Tryz.results25, go_sem, z0, z1, z2, z3]) rfl ⟨rfl, by first | exact HW.out | (rw [hD]; exact HW.out)⟩
theorem rrat4 (W : World) : Calls Tryz.prog 28 #[.int .i64 5, .int .i64 4] W fun e w' => e = .returned (.tuple #[.agg #[.int .i64 (-2), .int .i64 0, .int .i64 1, .int .i64 1], .bool true]) ∧ Below W.heap.size W w' := by
  have h := rratio_any 5 4 W (by decide) (by decide) (by decide) (by decide)
  rw [show Iv.e2 5 4 = -2 by kernel_rfl, show Iv.e3 5 4 = 0 by kernel_rfl, show Iv.e5 5 4 = 1 by kernel_rfl, show decide (Iv.rest 5 = Iv.rest 4) = true by kernel_rfl] at h
  exact h
set_option maxRecDepth 10000 in
set_option maxHeartbeats 1000000 in
theorem rnamed_4 (s : ByteArray) (w : World) (g0 : (s.toList == [117, 110, 105, 115, 111, 110]) = false) (g1 : (s.toList == [111, 99, 116, 97, 118, 101]) = false) (g2 : (s.toList == [102, 105, 102, 116, 104]) = false) (g3 : (s.toList == [102, 111, 117, 114, 116, 104]) = false) (g4 : (s.toList == [116, 104, 105, 114, 100]) = true) :
    Calls Tryz.prog 25 #[.string s] w fun e w' => e = .returned (.tuple #[.agg #[.int .i64 (-2), .int .i64 0, .int .i64 1, .int .i64 1], .bool true]) ∧ Below w.heap.size w w' := by
  have RR := Lib.hid rrat4
  obtain ⟨D, hD⟩ : ∃ D, w.heap.size = D := ⟨_, rfl⟩
  go_enter Tryz.func25, Tryz.ntmps25
  go_wp2_with fail
  refine (RR.out _).mono ?_
  rintro e w1 ⟨rfl, hb1⟩
  have h1 : w1.heap[D]? = some (.cells #[.int .i64 0, .int .i64 0, .int .i64 0, .int .i64 0] 29) := (hb1.block D (by simp [hD])).trans (heap_new hD.symm)
  have hw1 : Below D w w1 := ((Below.refl _ w).alloc (by omega) _).trans (hb1.mono (by simp; omega))
  have r0 := cell4_0 h1
  have f0 := free4_0 h1
  have r1 := cell4_1 h1
  have f1 := free4_1 h1
  have r2 := cell4_2 h1
  have f2 := free4_2 h1
  have r3 := cell4_3 h1
  have f3 := free4_3 h1
  obtain ⟨U, hU⟩ : ∃ U, ((((w1.setCell ⟨D, 0, none⟩ (.int .i64 (-2))).setCell ⟨D, 1, none⟩ (.int .i64 0)).setCell ⟨D, 2, none⟩ (.int .i64 1)).setCell ⟨D, 3, none⟩ (.int .i64 1)) = U := ⟨_, rfl⟩
  have HW := Lib.hid (show Below D w U by rw [← hU]; exact ((((hw1.setCell (p := ⟨D, 0, none⟩) (show D ≤ D by omega) (.int .i64 (-2))).setCell (p := ⟨D, 1, none⟩) (show D ≤ D by omega) (.int .i64 0)).setCell (p := ⟨D, 2, none⟩) (show D ≤ D by omega) (.int .i64 1)).setCell (p := ⟨D, 3, none⟩) (show D ≤ D by omega) (.int .i64 1)))
  have hE : U.heap[D]? = some (.cells #[.int .i64 (-2), .int .i64 0, .int .i64 1, .int .i64 1] 29) := by rw [← hU]; exact (set4_3 (x := .int .i64 1) (set4_2 (x := .int .i64 1) (set4_1 (x := .int .i64 0) (set4_0 (x := .int .i64 (-2)) h1))))
  have HU := Lib.hid hU
  have z0 := cell4_0 hE
  have z1 := cell4_1 hE
  have z2 := cell4_2 hE
  have z3 := cell4_3 hE
  clear hE hU h1 hw1 hb1
  go_wp2
  rw [HU.out]
  refine bodyPost_ret (v := .tuple #[.agg #[.int .i64 (-2), .int .i64 0, .int .i64 1, .int .i64 1], .bool true]) (by simp [results, Tryz.results25, go_sem, z0, z1, z2, z3]) rfl ⟨rfl, by first | exact HW.out | (rw [hD]; exact HW.out)⟩
theorem rrat5 (W : World) : Calls Tryz.prog 28 #[.int .i64 6, .int .i64 5] W fun e w' => e = .returned (.tuple #[.agg #[.int .i64 1, .int .i64 1, .int .i64 (-1), .int .i64 1], .bool true]) ∧ Below W.heap.size W w' := by
  have h := rratio_any 6 5 W (by decide) (by decide) (by decide) (by decide)
  rw [show Iv.e2 6 5 = 1 by kernel_rfl, show Iv.e3 6 5 = 1 by kernel_rfl, show Iv.e5 6 5 = -1 by kernel_rfl, show decide (Iv.rest 6 = Iv.rest 5) = true by kernel_rfl] at h
  exact h
set_option maxRecDepth 10000 in
set_option maxHeartbeats 1000000 in
theorem rnamed_5 (s : ByteArray) (w : World) (g0 : (s.toList == [117, 110, 105, 115, 111, 110]) = false) (g1 : (s.toList == [111, 99, 116, 97, 118, 101]) = false) (g2 : (s.toList == [102, 105, 102, 116, 104]) = false) (g3 : (s.toList == [102, 111, 117, 114, 116, 104]) = false) (g4 : (s.toList == [116, 104, 105, 114, 100]) = false) (g5 : (s.toList == [109, 105, 110, 111, 114]) = true) :
    Calls Tryz.prog 25 #[.string s] w fun e w' => e = .returned (.tuple #[.agg #[.int .i64 1, .int .i64 1, .int .i64 (-1), .int .i64 1], .bool true]) ∧ Below w.heap.size w w' := by
  have RR := Lib.hid rrat5
  obtain ⟨D, hD⟩ : ∃ D, w.heap.size = D := ⟨_, rfl⟩
  go_enter Tryz.func25, Tryz.ntmps25
  go_wp2_with fail
  refine (RR.out _).mono ?_
  rintro e w1 ⟨rfl, hb1⟩
  have h1 : w1.heap[D]? = some (.cells #[.int .i64 0, .int .i64 0, .int .i64 0, .int .i64 0] 29) := (hb1.block D (by simp [hD])).trans (heap_new hD.symm)
  have hw1 : Below D w w1 := ((Below.refl _ w).alloc (by omega) _).trans (hb1.mono (by simp; omega))
  have r0 := cell4_0 h1
  have f0 := free4_0 h1
  have r1 := cell4_1 h1
  have f1 := free4_1 h1
  have r2 := cell4_2 h1
  have f2 := free4_2 h1
  have r3 := cell4_3 h1
  have f3 := free4_3 h1
  obtain ⟨U, hU⟩ : ∃ U, ((((w1.setCell ⟨D, 0, none⟩ (.int .i64 1)).setCell ⟨D, 1, none⟩ (.int .i64 1)).setCell ⟨D, 2, none⟩ (.int .i64 (-1))).setCell ⟨D, 3, none⟩ (.int .i64 1)) = U := ⟨_, rfl⟩
  have HW := Lib.hid (show Below D w U by rw [← hU]; exact ((((hw1.setCell (p := ⟨D, 0, none⟩) (show D ≤ D by omega) (.int .i64 1)).setCell (p := ⟨D, 1, none⟩) (show D ≤ D by omega) (.int .i64 1)).setCell (p := ⟨D, 2, none⟩) (show D ≤ D by omega) (.int .i64 (-1))).setCell (p := ⟨D, 3, none⟩) (show D ≤ D by omega) (.int .i64 1)))
  have hE : U.heap[D]? = some (.cells #[.int .i64 1, .int .i64 1, .int .i64 (-1), .int .i64 1] 29) := by rw [← hU]; exact (set4_3 (x := .int .i64 1) (set4_2 (x := .int .i64 (-1)) (set4_1 (x := .int .i64 1) (set4_0 (x := .int .i64 1) h1))))
  have HU := Lib.hid hU
  have z0 := cell4_0 hE
  have z1 := cell4_1 hE
  have z2 := cell4_2 hE
  have z3 := cell4_3 hE
  clear hE hU h1 hw1 hb1
  go_wp2
  rw [HU.out]
  refine bodyPost_ret (v := .tuple #[.agg #[.int .i64 1, .int .i64 1, .int .i64 (-1), .int .i64 1], .bool true]) (by simp [results, Tryz.results25, go_sem, z0, z1, z2, z3]) rfl ⟨rfl, by first | exact HW.out | (rw [hD]; exact HW.out)⟩
theorem rrat6 (W : World) : Calls Tryz.prog 28 #[.int .i64 9, .int .i64 8] W fun e w' => e = .returned (.tuple #[.agg #[.int .i64 (-3), .int .i64 2, .int .i64 0, .int .i64 1], .bool true]) ∧ Below W.heap.size W w' := by
  have h := rratio_any 9 8 W (by decide) (by decide) (by decide) (by decide)
  rw [show Iv.e2 9 8 = -3 by kernel_rfl, show Iv.e3 9 8 = 2 by kernel_rfl, show Iv.e5 9 8 = 0 by kernel_rfl, show decide (Iv.rest 9 = Iv.rest 8) = true by kernel_rfl] at h
  exact h
set_option maxRecDepth 10000 in
set_option maxHeartbeats 1000000 in
theorem rnamed_6 (s : ByteArray) (w : World) (g0 : (s.toList == [117, 110, 105, 115, 111, 110]) = false) (g1 : (s.toList == [111, 99, 116, 97, 118, 101]) = false) (g2 : (s.toList == [102, 105, 102, 116, 104]) = false) (g3 : (s.toList == [102, 111, 117, 114, 116, 104]) = false) (g4 : (s.toList == [116, 104, 105, 114, 100]) = false) (g5 : (s.toList == [109, 105, 110, 111, 114]) = false) (g6 : (s.toList == [116, 111, 110, 101]) = true) :
    Calls Tryz.prog 25 #[.string s] w fun e w' => e = .returned (.tuple #[.agg #[.int .i64 (-3), .int .i64 2, .int .i64 0, .int .i64 1], .bool true]) ∧ Below w.heap.size w w' := by
  have RR := Lib.hid rrat6
  obtain ⟨D, hD⟩ : ∃ D, w.heap.size = D := ⟨_, rfl⟩
  go_enter Tryz.func25, Tryz.ntmps25
  go_wp2_with fail
  refine (RR.out _).mono ?_
  rintro e w1 ⟨rfl, hb1⟩
  have h1 : w1.heap[D]? = some (.cells #[.int .i64 0, .int .i64 0, .int .i64 0, .int .i64 0] 29) := (hb1.block D (by simp [hD])).trans (heap_new hD.symm)
  have hw1 : Below D w w1 := ((Below.refl _ w).alloc (by omega) _).trans (hb1.mono (by simp; omega))
  have r0 := cell4_0 h1
  have f0 := free4_0 h1
  have r1 := cell4_1 h1
  have f1 := free4_1 h1
  have r2 := cell4_2 h1
  have f2 := free4_2 h1
  have r3 := cell4_3 h1
  have f3 := free4_3 h1
  obtain ⟨U, hU⟩ : ∃ U, ((((w1.setCell ⟨D, 0, none⟩ (.int .i64 (-3))).setCell ⟨D, 1, none⟩ (.int .i64 2)).setCell ⟨D, 2, none⟩ (.int .i64 0)).setCell ⟨D, 3, none⟩ (.int .i64 1)) = U := ⟨_, rfl⟩
  have HW := Lib.hid (show Below D w U by rw [← hU]; exact ((((hw1.setCell (p := ⟨D, 0, none⟩) (show D ≤ D by omega) (.int .i64 (-3))).setCell (p := ⟨D, 1, none⟩) (show D ≤ D by omega) (.int .i64 2)).setCell (p := ⟨D, 2, none⟩) (show D ≤ D by omega) (.int .i64 0)).setCell (p := ⟨D, 3, none⟩) (show D ≤ D by omega) (.int .i64 1)))
  have hE : U.heap[D]? = some (.cells #[.int .i64 (-3), .int .i64 2, .int .i64 0, .int .i64 1] 29) := by rw [← hU]; exact (set4_3 (x := .int .i64 1) (set4_2 (x := .int .i64 0) (set4_1 (x := .int .i64 2) (set4_0 (x := .int .i64 (-3)) h1))))
  have HU := Lib.hid hU
  have z0 := cell4_0 hE
  have z1 := cell4_1 hE
  have z2 := cell4_2 hE
  have z3 := cell4_3 hE
  clear hE hU h1 hw1 hb1
  go_wp2
  rw [HU.out]
  refine bodyPost_ret (v := .tuple #[.agg #[.int .i64 (-3), .int .i64 2, .int .i64 0, .int .i64 1], .bool true]) (by simp [results, Tryz.results25, go_sem, z0, z1, z2, z3]) rfl ⟨rfl, by first | exact HW.out | (rw [hD]; exact HW.out)⟩
theorem rrat7 (W : World) : Calls Tryz.prog 28 #[.int .i64 81, .int .i64 80] W fun e w' => e = .returned (.tuple #[.agg #[.int .i64 (-4), .int .i64 4, .int .i64 (-1), .int .i64 1], .bool true]) ∧ Below W.heap.size W w' := by
  have h := rratio_any 81 80 W (by decide) (by decide) (by decide) (by decide)
  rw [show Iv.e2 81 80 = -4 by kernel_rfl, show Iv.e3 81 80 = 4 by kernel_rfl, show Iv.e5 81 80 = -1 by kernel_rfl, show decide (Iv.rest 81 = Iv.rest 80) = true by kernel_rfl] at h
  exact h
set_option maxRecDepth 10000 in
set_option maxHeartbeats 1000000 in
theorem rnamed_7 (s : ByteArray) (w : World) (g0 : (s.toList == [117, 110, 105, 115, 111, 110]) = false) (g1 : (s.toList == [111, 99, 116, 97, 118, 101]) = false) (g2 : (s.toList == [102, 105, 102, 116, 104]) = false) (g3 : (s.toList == [102, 111, 117, 114, 116, 104]) = false) (g4 : (s.toList == [116, 104, 105, 114, 100]) = false) (g5 : (s.toList == [109, 105, 110, 111, 114]) = false) (g6 : (s.toList == [116, 111, 110, 101]) = false) (g7 : (s.toList == [115, 121, 110, 116, 111, 110, 105, 99]) = true) :
    Calls Tryz.prog 25 #[.string s] w fun e w' => e = .returned (.tuple #[.agg #[.int .i64 (-4), .int .i64 4, .int .i64 (-1), .int .i64 1], .bool true]) ∧ Below w.heap.size w w' := by
  have RR := Lib.hid rrat7
  obtain ⟨D, hD⟩ : ∃ D, w.heap.size = D := ⟨_, rfl⟩
  go_enter Tryz.func25, Tryz.ntmps25
  go_wp2_with fail
  refine (RR.out _).mono ?_
  rintro e w1 ⟨rfl, hb1⟩
  have h1 : w1.heap[D]? = some (.cells #[.int .i64 0, .int .i64 0, .int .i64 0, .int .i64 0] 29) := (hb1.block D (by simp [hD])).trans (heap_new hD.symm)
  have hw1 : Below D w w1 := ((Below.refl _ w).alloc (by omega) _).trans (hb1.mono (by simp; omega))
  have r0 := cell4_0 h1
  have f0 := free4_0 h1
  have r1 := cell4_1 h1
  have f1 := free4_1 h1
  have r2 := cell4_2 h1
  have f2 := free4_2 h1
  have r3 := cell4_3 h1
  have f3 := free4_3 h1
  obtain ⟨U, hU⟩ : ∃ U, ((((w1.setCell ⟨D, 0, none⟩ (.int .i64 (-4))).setCell ⟨D, 1, none⟩ (.int .i64 4)).setCell ⟨D, 2, none⟩ (.int .i64 (-1))).setCell ⟨D, 3, none⟩ (.int .i64 1)) = U := ⟨_, rfl⟩
  have HW := Lib.hid (show Below D w U by rw [← hU]; exact ((((hw1.setCell (p := ⟨D, 0, none⟩) (show D ≤ D by omega) (.int .i64 (-4))).setCell (p := ⟨D, 1, none⟩) (show D ≤ D by omega) (.int .i64 4)).setCell (p := ⟨D, 2, none⟩) (show D ≤ D by omega) (.int .i64 (-1))).setCell (p := ⟨D, 3, none⟩) (show D ≤ D by omega) (.int .i64 1)))
  have hE : U.heap[D]? = some (.cells #[.int .i64 (-4), .int .i64 4, .int .i64 (-1), .int .i64 1] 29) := by rw [← hU]; exact (set4_3 (x := .int .i64 1) (set4_2 (x := .int .i64 (-1)) (set4_1 (x := .int .i64 4) (set4_0 (x := .int .i64 (-4)) h1))))
  have HU := Lib.hid hU
  have z0 := cell4_0 hE
  have z1 := cell4_1 hE
  have z2 := cell4_2 hE
  have z3 := cell4_3 hE
  clear hE hU h1 hw1 hb1
  go_wp2
  rw [HU.out]
  refine bodyPost_ret (v := .tuple #[.agg #[.int .i64 (-4), .int .i64 4, .int .i64 (-1), .int .i64 1], .bool true]) (by simp [results, Tryz.results25, go_sem, z0, z1, z2, z3]) rfl ⟨rfl, by first | exact HW.out | (rw [hD]; exact HW.out)⟩
theorem rrat8 (W : World) : Calls Tryz.prog 28 #[.int .i64 531441, .int .i64 524288] W fun e w' => e = .returned (.tuple #[.agg #[.int .i64 (-19), .int .i64 12, .int .i64 0, .int .i64 1], .bool true]) ∧ Below W.heap.size W w' := by
  have h := rratio_any 531441 524288 W (by decide) (by decide) (by decide) (by decide)
  rw [show Iv.e2 531441 524288 = -19 by kernel_rfl, show Iv.e3 531441 524288 = 12 by kernel_rfl, show Iv.e5 531441 524288 = 0 by kernel_rfl, show decide (Iv.rest 531441 = Iv.rest 524288) = true by kernel_rfl] at h
  exact h
set_option maxRecDepth 10000 in
set_option maxHeartbeats 1000000 in
theorem rnamed_8 (s : ByteArray) (w : World) (g0 : (s.toList == [117, 110, 105, 115, 111, 110]) = false) (g1 : (s.toList == [111, 99, 116, 97, 118, 101]) = false) (g2 : (s.toList == [102, 105, 102, 116, 104]) = false) (g3 : (s.toList == [102, 111, 117, 114, 116, 104]) = false) (g4 : (s.toList == [116, 104, 105, 114, 100]) = false) (g5 : (s.toList == [109, 105, 110, 111, 114]) = false) (g6 : (s.toList == [116, 111, 110, 101]) = false) (g7 : (s.toList == [115, 121, 110, 116, 111, 110, 105, 99]) = false) (g8 : (s.toList == [112, 121, 116, 104, 97, 103, 111, 114, 101, 97, 110]) = true) :
    Calls Tryz.prog 25 #[.string s] w fun e w' => e = .returned (.tuple #[.agg #[.int .i64 (-19), .int .i64 12, .int .i64 0, .int .i64 1], .bool true]) ∧ Below w.heap.size w w' := by
  have RR := Lib.hid rrat8
  obtain ⟨D, hD⟩ : ∃ D, w.heap.size = D := ⟨_, rfl⟩
  go_enter Tryz.func25, Tryz.ntmps25
  go_wp2_with fail
  refine (RR.out _).mono ?_
  rintro e w1 ⟨rfl, hb1⟩
  have h1 : w1.heap[D]? = some (.cells #[.int .i64 0, .int .i64 0, .int .i64 0, .int .i64 0] 29) := (hb1.block D (by simp [hD])).trans (heap_new hD.symm)
  have hw1 : Below D w w1 := ((Below.refl _ w).alloc (by omega) _).trans (hb1.mono (by simp; omega))
  have r0 := cell4_0 h1
  have f0 := free4_0 h1
  have r1 := cell4_1 h1
  have f1 := free4_1 h1
  have r2 := cell4_2 h1
  have f2 := free4_2 h1
  have r3 := cell4_3 h1
  have f3 := free4_3 h1
  obtain ⟨U, hU⟩ : ∃ U, ((((w1.setCell ⟨D, 0, none⟩ (.int .i64 (-19))).setCell ⟨D, 1, none⟩ (.int .i64 12)).setCell ⟨D, 2, none⟩ (.int .i64 0)).setCell ⟨D, 3, none⟩ (.int .i64 1)) = U := ⟨_, rfl⟩
  have HW := Lib.hid (show Below D w U by rw [← hU]; exact ((((hw1.setCell (p := ⟨D, 0, none⟩) (show D ≤ D by omega) (.int .i64 (-19))).setCell (p := ⟨D, 1, none⟩) (show D ≤ D by omega) (.int .i64 12)).setCell (p := ⟨D, 2, none⟩) (show D ≤ D by omega) (.int .i64 0)).setCell (p := ⟨D, 3, none⟩) (show D ≤ D by omega) (.int .i64 1)))
  have hE : U.heap[D]? = some (.cells #[.int .i64 (-19), .int .i64 12, .int .i64 0, .int .i64 1] 29) := by rw [← hU]; exact (set4_3 (x := .int .i64 1) (set4_2 (x := .int .i64 0) (set4_1 (x := .int .i64 12) (set4_0 (x := .int .i64 (-19)) h1))))
  have HU := Lib.hid hU
  have z0 := cell4_0 hE
  have z1 := cell4_1 hE
  have z2 := cell4_2 hE
  have z3 := cell4_3 hE
  clear hE hU h1 hw1 hb1
  go_wp2
  rw [HU.out]
  refine bodyPost_ret (v := .tuple #[.agg #[.int .i64 (-19), .int .i64 12, .int .i64 0, .int .i64 1], .bool true]) (by simp [results, Tryz.results25, go_sem, z0, z1, z2, z3]) rfl ⟨rfl, by first | exact HW.out | (rw [hD]; exact HW.out)⟩
theorem rrat9 (W : World) : Calls Tryz.prog 28 #[.int .i64 32805, .int .i64 32768] W fun e w' => e = .returned (.tuple #[.agg #[.int .i64 (-15), .int .i64 8, .int .i64 1, .int .i64 1], .bool true]) ∧ Below W.heap.size W w' := by
  have h := rratio_any 32805 32768 W (by decide) (by decide) (by decide) (by decide)
  rw [show Iv.e2 32805 32768 = -15 by kernel_rfl, show Iv.e3 32805 32768 = 8 by kernel_rfl, show Iv.e5 32805 32768 = 1 by kernel_rfl, show decide (Iv.rest 32805 = Iv.rest 32768) = true by kernel_rfl] at h
  exact h
set_option maxRecDepth 10000 in
set_option maxHeartbeats 1000000 in
theorem rnamed_9 (s : ByteArray) (w : World) (g0 : (s.toList == [117, 110, 105, 115, 111, 110]) = false) (g1 : (s.toList == [111, 99, 116, 97, 118, 101]) = false) (g2 : (s.toList == [102, 105, 102, 116, 104]) = false) (g3 : (s.toList == [102, 111, 117, 114, 116, 104]) = false) (g4 : (s.toList == [116, 104, 105, 114, 100]) = false) (g5 : (s.toList == [109, 105, 110, 111, 114]) = false) (g6 : (s.toList == [116, 111, 110, 101]) = false) (g7 : (s.toList == [115, 121, 110, 116, 111, 110, 105, 99]) = false) (g8 : (s.toList == [112, 121, 116, 104, 97, 103, 111, 114, 101, 97, 110]) = false) (g9 : (s.toList == [115, 99, 104, 105, 115, 109, 97]) = true) :
    Calls Tryz.prog 25 #[.string s] w fun e w' => e = .returned (.tuple #[.agg #[.int .i64 (-15), .int .i64 8, .int .i64 1, .int .i64 1], .bool true]) ∧ Below w.heap.size w w' := by
  have RR := Lib.hid rrat9
  obtain ⟨D, hD⟩ : ∃ D, w.heap.size = D := ⟨_, rfl⟩
  go_enter Tryz.func25, Tryz.ntmps25
  go_wp2_with fail
  refine (RR.out _).mono ?_
  rintro e w1 ⟨rfl, hb1⟩
  have h1 : w1.heap[D]? = some (.cells #[.int .i64 0, .int .i64 0, .int .i64 0, .int .i64 0] 29) := (hb1.block D (by simp [hD])).trans (heap_new hD.symm)
  have hw1 : Below D w w1 := ((Below.refl _ w).alloc (by omega) _).trans (hb1.mono (by simp; omega))
  have r0 := cell4_0 h1
  have f0 := free4_0 h1
  have r1 := cell4_1 h1
  have f1 := free4_1 h1
  have r2 := cell4_2 h1
  have f2 := free4_2 h1
  have r3 := cell4_3 h1
  have f3 := free4_3 h1
  obtain ⟨U, hU⟩ : ∃ U, ((((w1.setCell ⟨D, 0, none⟩ (.int .i64 (-15))).setCell ⟨D, 1, none⟩ (.int .i64 8)).setCell ⟨D, 2, none⟩ (.int .i64 1)).setCell ⟨D, 3, none⟩ (.int .i64 1)) = U := ⟨_, rfl⟩
  have HW := Lib.hid (show Below D w U by rw [← hU]; exact ((((hw1.setCell (p := ⟨D, 0, none⟩) (show D ≤ D by omega) (.int .i64 (-15))).setCell (p := ⟨D, 1, none⟩) (show D ≤ D by omega) (.int .i64 8)).setCell (p := ⟨D, 2, none⟩) (show D ≤ D by omega) (.int .i64 1)).setCell (p := ⟨D, 3, none⟩) (show D ≤ D by omega) (.int .i64 1)))
  have hE : U.heap[D]? = some (.cells #[.int .i64 (-15), .int .i64 8, .int .i64 1, .int .i64 1] 29) := by rw [← hU]; exact (set4_3 (x := .int .i64 1) (set4_2 (x := .int .i64 1) (set4_1 (x := .int .i64 8) (set4_0 (x := .int .i64 (-15)) h1))))
  have HU := Lib.hid hU
  have z0 := cell4_0 hE
  have z1 := cell4_1 hE
  have z2 := cell4_2 hE
  have z3 := cell4_3 hE
  clear hE hU h1 hw1 hb1
  go_wp2
  rw [HU.out]
  refine bodyPost_ret (v := .tuple #[.agg #[.int .i64 (-15), .int .i64 8, .int .i64 1, .int .i64 1], .bool true]) (by simp [results, Tryz.results25, go_sem, z0, z1, z2, z3]) rfl ⟨rfl, by first | exact HW.out | (rw [hD]; exact HW.out)⟩
theorem rrat10 (W : World) : Calls Tryz.prog 28 #[.int .i64 128, .int .i64 125] W fun e w' => e = .returned (.tuple #[.agg #[.int .i64 7, .int .i64 0, .int .i64 (-3), .int .i64 1], .bool true]) ∧ Below W.heap.size W w' := by
  have h := rratio_any 128 125 W (by decide) (by decide) (by decide) (by decide)
  rw [show Iv.e2 128 125 = 7 by kernel_rfl, show Iv.e3 128 125 = 0 by kernel_rfl, show Iv.e5 128 125 = -3 by kernel_rfl, show decide (Iv.rest 128 = Iv.rest 125) = true by kernel_rfl] at h
  exact h
set_option maxRecDepth 10000 in
set_option maxHeartbeats 1000000 in
theorem rnamed_10 (s : ByteArray) (w : World) (g0 : (s.toList == [117, 110, 105, 115, 111, 110]) = false) (g1 : (s.toList == [111, 99, 116, 97, 118, 101]) = false) (g2 : (s.toList == [102, 105, 102, 116, 104]) = false) (g3 : (s.toList == [102, 111, 117, 114, 116, 104]) = false) (g4 : (s.toList == [116, 104, 105, 114, 100]) = false) (g5 : (s.toList == [109, 105, 110, 111, 114]) = false) (g6 : (s.toList == [116, 111, 110, 101]) = false) (g7 : (s.toList == [115, 121, 110, 116, 111, 110, 105, 99]) = false) (g8 : (s.toList == [112, 121, 116, 104, 97, 103, 111, 114, 101, 97, 110]) = false) (g9 : (s.toList == [115, 99, 104, 105, 115, 109, 97]) = false) (g10 : (s.toList == [100, 105, 101, 115, 105, 115]) = true) :
    Calls Tryz.prog 25 #[.string s] w fun e w' => e = .returned (.tuple #[.agg #[.int .i64 7, .int .i64 0, .int .i64 (-3), .int .i64 1], .bool true]) ∧ Below w.heap.size w w' := by
  have RR := Lib.hid rrat10
  obtain ⟨D, hD⟩ : ∃ D, w.heap.size = D := ⟨_, rfl⟩
  go_enter Tryz.func25, Tryz.ntmps25
  go_wp2_with fail
  refine (RR.out _).mono ?_
  rintro e w1 ⟨rfl, hb1⟩
  have h1 : w1.heap[D]? = some (.cells #[.int .i64 0, .int .i64 0, .int .i64 0, .int .i64 0] 29) := (hb1.block D (by simp [hD])).trans (heap_new hD.symm)
  have hw1 : Below D w w1 := ((Below.refl _ w).alloc (by omega) _).trans (hb1.mono (by simp; omega))
  have r0 := cell4_0 h1
  have f0 := free4_0 h1
  have r1 := cell4_1 h1
  have f1 := free4_1 h1
  have r2 := cell4_2 h1
  have f2 := free4_2 h1
  have r3 := cell4_3 h1
  have f3 := free4_3 h1
  obtain ⟨U, hU⟩ : ∃ U, ((((w1.setCell ⟨D, 0, none⟩ (.int .i64 7)).setCell ⟨D, 1, none⟩ (.int .i64 0)).setCell ⟨D, 2, none⟩ (.int .i64 (-3))).setCell ⟨D, 3, none⟩ (.int .i64 1)) = U := ⟨_, rfl⟩
  have HW := Lib.hid (show Below D w U by rw [← hU]; exact ((((hw1.setCell (p := ⟨D, 0, none⟩) (show D ≤ D by omega) (.int .i64 7)).setCell (p := ⟨D, 1, none⟩) (show D ≤ D by omega) (.int .i64 0)).setCell (p := ⟨D, 2, none⟩) (show D ≤ D by omega) (.int .i64 (-3))).setCell (p := ⟨D, 3, none⟩) (show D ≤ D by omega) (.int .i64 1)))
  have hE : U.heap[D]? = some (.cells #[.int .i64 7, .int .i64 0, .int .i64 (-3), .int .i64 1] 29) := by rw [← hU]; exact (set4_3 (x := .int .i64 1) (set4_2 (x := .int .i64 (-3)) (set4_1 (x := .int .i64 0) (set4_0 (x := .int .i64 7) h1))))
  have HU := Lib.hid hU
  have z0 := cell4_0 hE
  have z1 := cell4_1 hE
  have z2 := cell4_2 hE
  have z3 := cell4_3 hE
  clear hE hU h1 hw1 hb1
  go_wp2
  rw [HU.out]
  refine bodyPost_ret (v := .tuple #[.agg #[.int .i64 7, .int .i64 0, .int .i64 (-3), .int .i64 1], .bool true]) (by simp [results, Tryz.results25, go_sem, z0, z1, z2, z3]) rfl ⟨rfl, by first | exact HW.out | (rw [hD]; exact HW.out)⟩
set_option maxRecDepth 10000 in
set_option maxHeartbeats 1000000 in
theorem rnamed_no (s : ByteArray) (w : World) (g0 : (s.toList == [117, 110, 105, 115, 111, 110]) = false) (g1 : (s.toList == [111, 99, 116, 97, 118, 101]) = false) (g2 : (s.toList == [102, 105, 102, 116, 104]) = false) (g3 : (s.toList == [102, 111, 117, 114, 116, 104]) = false) (g4 : (s.toList == [116, 104, 105, 114, 100]) = false) (g5 : (s.toList == [109, 105, 110, 111, 114]) = false) (g6 : (s.toList == [116, 111, 110, 101]) = false) (g7 : (s.toList == [115, 121, 110, 116, 111, 110, 105, 99]) = false) (g8 : (s.toList == [112, 121, 116, 104, 97, 103, 111, 114, 101, 97, 110]) = false) (g9 : (s.toList == [115, 99, 104, 105, 115, 109, 97]) = false) (g10 : (s.toList == [100, 105, 101, 115, 105, 115]) = false) :
    Calls Tryz.prog 25 #[.string s] w fun e w' => e = .returned (.tuple #[.agg #[.int .i64 0, .int .i64 0, .int .i64 0, .int .i64 0], .bool false]) ∧ Below w.heap.size w w' := by
  obtain ⟨D, hD⟩ : ∃ D, w.heap.size = D := ⟨_, rfl⟩
  have h1 : (w.alloc (.cells #[.int .i64 0, .int .i64 0, .int .i64 0, .int .i64 0] 29)).heap[D]? = some (.cells #[.int .i64 0, .int .i64 0, .int .i64 0, .int .i64 0] 29) := heap_new hD.symm
  have hw1 : Below D w (w.alloc (.cells #[.int .i64 0, .int .i64 0, .int .i64 0, .int .i64 0] 29)) := (Below.refl _ w).alloc (by omega) _
  have z0 := cell4_0 h1
  have z1 := cell4_1 h1
  have z2 := cell4_2 h1
  have z3 := cell4_3 h1
  go_enter Tryz.func25, Tryz.ntmps25
  go_wp2
  refine bodyPost_ret (v := .tuple #[.agg #[.int .i64 0, .int .i64 0, .int .i64 0, .int .i64 0], .bool false]) (by simp [results, Tryz.results25, go_sem, z0, z1, z2, z3]) rfl ⟨rfl, by first | exact hw1 | (rw [hD]; exact hw1)⟩
theorem tl_ne {s : ByteArray} {l : List UInt8} (h : ¬ l = s.data.toList) : (s.toList == l) = false := by rw [Lib.toList_data, beq_eq_false_iff_ne]; exact fun e => h e.symm
theorem tl_eq {s : ByteArray} {l : List UInt8} (h : l = s.data.toList) : (s.toList == l) = true := by rw [Lib.toList_data, beq_iff_eq]; exact h.symm
/-- Named answers by the first name. -/
theorem rnamed_any (s : ByteArray) (w : World) :
    (nmF s = none ∧ Calls Tryz.prog 25 #[.string s] w fun e w' => e = .returned (.tuple #[.agg #[.int .i64 0, .int .i64 0, .int .i64 0, .int .i64 0], .bool false]) ∧ Below w.heap.size w w') ∨
    ∃ t x y z, nmF s = some (t, x, y, z) ∧ (-100 ≤ x ∧ x ≤ 100 ∧ -100 ≤ y ∧ y ≤ 100 ∧ -100 ≤ z ∧ z ≤ 100) ∧ Calls Tryz.prog 25 #[.string s] w fun e w' => e = .returned (.tuple #[.agg #[.int .i64 x, .int .i64 y, .int .i64 z, .int .i64 1], .bool true]) ∧ Below w.heap.size w w' := by
  have key : ∀ (t : ByteArray) (q : Int × Int × Int) (R : List (ByteArray × Int × Int × Int)), (((t, q) :: R).find? (fun r => decide (r.1.data.toList = s.data.toList))) = if t.data.toList = s.data.toList then some (t, q) else R.find? (fun r => decide (r.1.data.toList = s.data.toList)) := fun t q R => by
    rw [List.find?_cons]
    by_cases h : t.data.toList = s.data.toList
    · simp [h]
    · simp [h]
  unfold nmF NL
  simp only [key]
  by_cases f0 : [117, 110, 105, 115, 111, 110] = s.data.toList
  · right
    refine ⟨_, 0, 0, 0, if_pos f0, by decide, rnamed_0 s w  (tl_eq f0)⟩
  rw [if_neg (show ¬ (ByteArray.mk #[117, 110, 105, 115, 111, 110]).data.toList = s.data.toList from f0)]
  by_cases f1 : [111, 99, 116, 97, 118, 101] = s.data.toList
  · right
    refine ⟨_, 1, 0, 0, if_pos f1, by decide, rnamed_1 s w (tl_ne f0) (tl_eq f1)⟩
  rw [if_neg (show ¬ (ByteArray.mk #[111, 99, 116, 97, 118, 101]).data.toList = s.data.toList from f1)]
  by_cases f2 : [102, 105, 102, 116, 104] = s.data.toList
  · right
    refine ⟨_, (-1), 1, 0, if_pos f2, by decide, rnamed_2 s w (tl_ne f0) (tl_ne f1) (tl_eq f2)⟩
  rw [if_neg (show ¬ (ByteArray.mk #[102, 105, 102, 116, 104]).data.toList = s.data.toList from f2)]
  by_cases f3 : [102, 111, 117, 114, 116, 104] = s.data.toList
  · right
    refine ⟨_, 2, (-1), 0, if_pos f3, by decide, rnamed_3 s w (tl_ne f0) (tl_ne f1) (tl_ne f2) (tl_eq f3)⟩
  rw [if_neg (show ¬ (ByteArray.mk #[102, 111, 117, 114, 116, 104]).data.toList = s.data.toList from f3)]
  by_cases f4 : [116, 104, 105, 114, 100] = s.data.toList
  · right
    refine ⟨_, (-2), 0, 1, if_pos f4, by decide, rnamed_4 s w (tl_ne f0) (tl_ne f1) (tl_ne f2) (tl_ne f3) (tl_eq f4)⟩
  rw [if_neg (show ¬ (ByteArray.mk #[116, 104, 105, 114, 100]).data.toList = s.data.toList from f4)]
  by_cases f5 : [109, 105, 110, 111, 114] = s.data.toList
  · right
    refine ⟨_, 1, 1, (-1), if_pos f5, by decide, rnamed_5 s w (tl_ne f0) (tl_ne f1) (tl_ne f2) (tl_ne f3) (tl_ne f4) (tl_eq f5)⟩
  rw [if_neg (show ¬ (ByteArray.mk #[109, 105, 110, 111, 114]).data.toList = s.data.toList from f5)]
  by_cases f6 : [116, 111, 110, 101] = s.data.toList
  · right
    refine ⟨_, (-3), 2, 0, if_pos f6, by decide, rnamed_6 s w (tl_ne f0) (tl_ne f1) (tl_ne f2) (tl_ne f3) (tl_ne f4) (tl_ne f5) (tl_eq f6)⟩
  rw [if_neg (show ¬ (ByteArray.mk #[116, 111, 110, 101]).data.toList = s.data.toList from f6)]
  by_cases f7 : [115, 121, 110, 116, 111, 110, 105, 99] = s.data.toList
  · right
    refine ⟨_, (-4), 4, (-1), if_pos f7, by decide, rnamed_7 s w (tl_ne f0) (tl_ne f1) (tl_ne f2) (tl_ne f3) (tl_ne f4) (tl_ne f5) (tl_ne f6) (tl_eq f7)⟩
  rw [if_neg (show ¬ (ByteArray.mk #[115, 121, 110, 116, 111, 110, 105, 99]).data.toList = s.data.toList from f7)]
  by_cases f8 : [112, 121, 116, 104, 97, 103, 111, 114, 101, 97, 110] = s.data.toList
  · right
    refine ⟨_, (-19), 12, 0, if_pos f8, by decide, rnamed_8 s w (tl_ne f0) (tl_ne f1) (tl_ne f2) (tl_ne f3) (tl_ne f4) (tl_ne f5) (tl_ne f6) (tl_ne f7) (tl_eq f8)⟩
  rw [if_neg (show ¬ (ByteArray.mk #[112, 121, 116, 104, 97, 103, 111, 114, 101, 97, 110]).data.toList = s.data.toList from f8)]
  by_cases f9 : [115, 99, 104, 105, 115, 109, 97] = s.data.toList
  · right
    refine ⟨_, (-15), 8, 1, if_pos f9, by decide, rnamed_9 s w (tl_ne f0) (tl_ne f1) (tl_ne f2) (tl_ne f3) (tl_ne f4) (tl_ne f5) (tl_ne f6) (tl_ne f7) (tl_ne f8) (tl_eq f9)⟩
  rw [if_neg (show ¬ (ByteArray.mk #[115, 99, 104, 105, 115, 109, 97]).data.toList = s.data.toList from f9)]
  by_cases f10 : [100, 105, 101, 115, 105, 115] = s.data.toList
  · right
    refine ⟨_, 7, 0, (-3), if_pos f10, by decide, rnamed_10 s w (tl_ne f0) (tl_ne f1) (tl_ne f2) (tl_ne f3) (tl_ne f4) (tl_ne f5) (tl_ne f6) (tl_ne f7) (tl_ne f8) (tl_ne f9) (tl_eq f10)⟩
  rw [if_neg (show ¬ (ByteArray.mk #[100, 105, 101, 115, 105, 115]).data.toList = s.data.toList from f10)]
  left
  exact ⟨rfl, rnamed_no s w (tl_ne f0) (tl_ne f1) (tl_ne f2) (tl_ne f3) (tl_ne f4) (tl_ne f5) (tl_ne f6) (tl_ne f7) (tl_ne f8) (tl_ne f9) (tl_ne f10)⟩
end Go.Proofs.YthdoadkdofgenaaGreatDoor
/- Sizes that are small, for IntervalMakes. -/
namespace Go.Proofs.YthdoadkdofgenaaGreatDoor
open Go Go.RowKit Go.Shelf

theorem eq_size (a b c d e f : Int) : ∀ W : World, (binOp .eql 25 (.agg #[.int .i64 a, .int .i64 b, .int .i64 c, .int .i64 d, .int .i64 e, .int .i64 f]) (.agg #[.int .i64 a, .int .i64 b, .int .i64 c, .int .i64 d, .int .i64 e, .int .i64 f])).run Tryz.prog W = .ok (.bool true) W := by
  intro W
  simp [go_sem]
theorem sz_ok {a b c : Int} {D : Nat} (h : Iv.okB a b c D = true) (x : Int) : szN x a b c D = FracMath.qn x D ∧ szD x a b c D = FracMath.qd x D ∧ szE a b c D = 0 := by
  unfold szN szD szE
  rw [h]
  exact ⟨rfl, rfl, rfl⟩
theorem ok_small {a b c : Int} {D : Nat} (ha : -6000 ≤ a ∧ a ≤ 6000) (hb : -6000 ≤ b ∧ b ≤ 6000) (hc : -6000 ≤ c ∧ c ≤ 6000) (hD : D ≤ 240) : Iv.okB a b c D = true := by
  apply Iv.ok_of_in
  unfold Iv.inB
  simp only [decide_eq_true_eq]
  omega
end Go.Proofs.YthdoadkdofgenaaGreatDoor
