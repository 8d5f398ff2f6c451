/- Contract of the reference's Add. -/
import Derived.Test.YthdoadkdofgenaaGreatDoorIvM
import Derived.BigRegion
namespace Go.Proofs.YthdoadkdofgenaaGreatDoor
open Go Go.RowKit Go.Shelf

theorem below_drew {D : Nat} {w W : World} (h : Below D w W) : Below D w W.drew := ⟨h.os, h.tape, h.output, h.size, h.block⟩
theorem mulb {x y X Y : Int} (h1 : -X ≤ x) (h2 : x ≤ X) (h3 : -Y ≤ y) (h4 : y ≤ Y) : -(X * Y) ≤ x * y ∧ x * y ≤ X * Y := by
  have a : x.natAbs ≤ X.toNat := by omega
  have b : y.natAbs ≤ Y.toNat := by omega
  have c := Nat.mul_le_mul a b
  rw [← Int.natAbs_mul] at c
  have d : ((X.toNat * Y.toNat : Nat) : Int) = X * Y := by
    rw [Int.natCast_mul, Int.toNat_of_nonneg (by omega), Int.toNat_of_nonneg (by omega)]
  generalize x * y = z at *
  generalize X * Y = Z at *
  omega

set_option maxRecDepth 10000 in
set_option maxHeartbeats 4000000 in
theorem radd_any (a0 a1 a2 ad b0 b1 b2 bd k : Int) (w : World) (ha0 : -10000000 ≤ a0 ∧ a0 ≤ 10000000) (ha1 : -10000000 ≤ a1 ∧ a1 ≤ 10000000) (ha2 : -10000000 ≤ a2 ∧ a2 ≤ 10000000) (hb0 : -10000000 ≤ b0 ∧ b0 ≤ 10000000) (hb1 : -10000000 ≤ b1 ∧ b1 ≤ 10000000) (hb2 : -10000000 ≤ b2 ∧ b2 ≤ 10000000) (had : 0 ≤ ad ∧ ad ≤ 1000000) (hbd : 0 ≤ bd ∧ bd ≤ 1000000) (hk : -1 ≤ k ∧ k ≤ 1) :
    Calls Tryz.prog 29 #[.agg #[.int .i64 a0, .int .i64 a1, .int .i64 a2, .int .i64 ad], .agg #[.int .i64 b0, .int .i64 b1, .int .i64 b2, .int .i64 bd], .int .i64 k] w fun e w' => e = .returned (.agg #[.int .i64 (a0 * bd + k * b0 * ad), .int .i64 (a1 * bd + k * b1 * ad), .int .i64 (a2 * bd + k * b2 * ad), .int .i64 (ad * bd)]) ∧ Below w.heap.size w w' := by
  have m0 := mulb (X := 10000000) (Y := 1000000) ha0.1 ha0.2 (by omega) hbd.2
  have q0 := mulb (X := 1) (Y := 10000000) hk.1 hk.2 hb0.1 hb0.2
  obtain ⟨x0, ex0⟩ : ∃ x, a0 * bd = x := ⟨_, rfl⟩
  obtain ⟨z0, ez0⟩ : ∃ x, k * b0 = x := ⟨_, rfl⟩
  rw [ex0] at m0
  rw [ez0] at q0
  have r0 := mulb (x := z0) (y := ad) (X := 10000000) (Y := 1000000) (by omega) (by omega) (by omega) had.2
  obtain ⟨y0, ey0⟩ : ∃ x, z0 * ad = x := ⟨_, rfl⟩
  rw [ey0] at r0
  rw [ex0, ez0, ey0]
  obtain ⟨s0, es0⟩ : ∃ s, x0 + y0 = s := ⟨_, rfl⟩
  rw [es0]
  have m1 := mulb (X := 10000000) (Y := 1000000) ha1.1 ha1.2 (by omega) hbd.2
  have q1 := mulb (X := 1) (Y := 10000000) hk.1 hk.2 hb1.1 hb1.2
  obtain ⟨x1, ex1⟩ : ∃ x, a1 * bd = x := ⟨_, rfl⟩
  obtain ⟨z1, ez1⟩ : ∃ x, k * b1 = x := ⟨_, rfl⟩
  rw [ex1] at m1
  rw [ez1] at q1
  have r1 := mulb (x := z1) (y := ad) (X := 10000000) (Y := 1000000) (by omega) (by omega) (by omega) had.2
  obtain ⟨y1, ey1⟩ : ∃ x, z1 * ad = x := ⟨_, rfl⟩
  rw [ey1] at r1
  rw [ex1, ez1, ey1]
  obtain ⟨s1, es1⟩ : ∃ s, x1 + y1 = s := ⟨_, rfl⟩
  rw [es1]
  have m2 := mulb (X := 10000000) (Y := 1000000) ha2.1 ha2.2 (by omega) hbd.2
  have q2 := mulb (X := 1) (Y := 10000000) hk.1 hk.2 hb2.1 hb2.2
  obtain ⟨x2, ex2⟩ : ∃ x, a2 * bd = x := ⟨_, rfl⟩
  obtain ⟨z2, ez2⟩ : ∃ x, k * b2 = x := ⟨_, rfl⟩
  rw [ex2] at m2
  rw [ez2] at q2
  have r2 := mulb (x := z2) (y := ad) (X := 10000000) (Y := 1000000) (by omega) (by omega) (by omega) had.2
  obtain ⟨y2, ey2⟩ : ∃ x, z2 * ad = x := ⟨_, rfl⟩
  rw [ey2] at r2
  rw [ex2, ez2, ey2]
  obtain ⟨s2, es2⟩ : ∃ s, x2 + y2 = s := ⟨_, rfl⟩
  rw [es2]
  have dm := mulb (x := ad) (y := bd) (X := 1000000) (Y := 1000000) (by omega) had.2 (by omega) hbd.2
  obtain ⟨dd, edd⟩ : ∃ s, ad * bd = s := ⟨_, rfl⟩
  rw [edd] at dm ⊢
  clear had hbd hk ha0 ha1 ha2 hb0 hb1 hb2
  obtain ⟨D, hD⟩ : ∃ D, w.heap.size = D := ⟨_, rfl⟩
  go_enter Tryz.func29, Tryz.ntmps29
  go_wp2_with fail
  obtain ⟨V, hV⟩ : ∃ V, ((((w.alloc (.cells #[.int .i64 a0, .int .i64 a1, .int .i64 a2, .int .i64 ad] 29)).alloc (.cells #[.int .i64 b0, .int .i64 b1, .int .i64 b2, .int .i64 bd] 29)).alloc (.cells #[.int .i64 0, .int .i64 0, .int .i64 0, .int .i64 0] 29)).alloc (.cells #[.int .i64 0, .int .i64 0, .int .i64 0, .int .i64 dd] 29)) = V := ⟨_, rfl⟩
  have hwV : Below D w V := by rw [← hV]; exact ((((Below.refl _ w).alloc (by omega) _).alloc (by simp; omega) _).alloc (by simp; omega) _).alloc (by simp; omega) _
  have h0V : V.heap[D]? = some (.cells #[.int .i64 a0, .int .i64 a1, .int .i64 a2, .int .i64 ad] 29) := by rw [← hV]; exact heap_old (heap_old (heap_old (heap_new hD.symm)))
  have h1V : V.heap[D + 1]? = some (.cells #[.int .i64 b0, .int .i64 b1, .int .i64 b2, .int .i64 bd] 29) := by rw [← hV]; exact heap_old (heap_old (heap_new (by simp [hD])))
  have h2V : V.heap[D + 1 + 1]? = some (.cells #[.int .i64 0, .int .i64 0, .int .i64 0, .int .i64 0] 29) := by rw [← hV]; exact heap_old (heap_new (by simp [hD]))
  have h3V : V.heap[D + 1 + 1 + 1]? = some (.cells #[.int .i64 0, .int .i64 0, .int .i64 0, .int .i64 dd] 29) := by rw [← hV]; exact heap_new (by simp [hD])
  rw [hV]
  clear hV
  go_loopw [8] (fun i wr => ((i = .int .i64 0 ∧ wr.heap[D + 1 + 1 + 1]? = some (.cells #[.int .i64 0, .int .i64 0, .int .i64 0, .int .i64 dd] 29)) ∨ (i = .int .i64 1 ∧ wr.heap[D + 1 + 1 + 1]? = some (.cells #[.int .i64 s0, .int .i64 0, .int .i64 0, .int .i64 dd] 29)) ∨ (i = .int .i64 2 ∧ wr.heap[D + 1 + 1 + 1]? = some (.cells #[.int .i64 s0, .int .i64 s1, .int .i64 0, .int .i64 dd] 29)) ∨ (i = .int .i64 3 ∧ wr.heap[D + 1 + 1 + 1]? = some (.cells #[.int .i64 s0, .int .i64 s1, .int .i64 s2, .int .i64 dd] 29))) ∧ Below D w wr ∧ wr.heap[D]? = some (.cells #[.int .i64 a0, .int .i64 a1, .int .i64 a2, .int .i64 ad] 29) ∧ wr.heap[D + 1]? = some (.cells #[.int .i64 b0, .int .i64 b1, .int .i64 b2, .int .i64 bd] 29) ∧ wr.heap[D + 1 + 1]? = some (.cells #[.int .i64 0, .int .i64 0, .int .i64 0, .int .i64 0] 29)) (fun i _ => 3 - (intOf i).toNat)
  case atStart => exact ⟨.inl ⟨rfl, h3V⟩, hwV, h0V, h1V, h2V⟩
  case round =>
    obtain ⟨hk, hw, h0, h1, h2⟩ := hrel
    clear hwV h0V h1V h2V h3V
    rcases hk with ⟨rfl, h3⟩ | ⟨rfl, h3⟩ | ⟨rfl, h3⟩ | ⟨rfl, h3⟩
    · have a_ := cell4_0 h0
      have b_ := cell4_0 h1
      have ad_ := cell4_3 h0
      have bd_ := cell4_3 h1
      have f_ := free4_0 h3
      have c_ := cell4_0 h3
      have HW := Lib.hid (hw.setCell (p := ⟨D + 1 + 1 + 1, 0, none⟩) (show D ≤ D + 1 + 1 + 1 by omega) (.int .i64 s0))
      have H0 := Lib.hid ((set_other (b := D + 1 + 1 + 1) (o := 0) (x := .int .i64 s0) (show D ≠ D + 1 + 1 + 1 by omega)).trans h0)
      have H1 := Lib.hid ((set_other (b := D + 1 + 1 + 1) (o := 0) (x := .int .i64 s0) (show D + 1 ≠ D + 1 + 1 + 1 by omega)).trans h1)
      have H2 := Lib.hid ((set_other (b := D + 1 + 1 + 1) (o := 0) (x := .int .i64 s0) (show D + 1 + 1 ≠ D + 1 + 1 + 1 by omega)).trans h2)
      have H3 := Lib.hid (set4_0 (x := .int .i64 s0) h3)
      clear hw h0 h1 h2 h3
      go_wp2
      go_region
      go_wp2
      exact ⟨⟨.inr (.inl ⟨rfl, H3.out⟩), below_drew HW.out, H0.out, H1.out, H2.out⟩, by decide⟩
    · have a_ := cell4_1 h0
      have b_ := cell4_1 h1
      have ad_ := cell4_3 h0
      have bd_ := cell4_3 h1
      have f_ := free4_1 h3
      have c_ := cell4_1 h3
      have HW := Lib.hid (hw.setCell (p := ⟨D + 1 + 1 + 1, 1, none⟩) (show D ≤ D + 1 + 1 + 1 by omega) (.int .i64 s1))
      have H0 := Lib.hid ((set_other (b := D + 1 + 1 + 1) (o := 1) (x := .int .i64 s1) (show D ≠ D + 1 + 1 + 1 by omega)).trans h0)
      have H1 := Lib.hid ((set_other (b := D + 1 + 1 + 1) (o := 1) (x := .int .i64 s1) (show D + 1 ≠ D + 1 + 1 + 1 by omega)).trans h1)
      have H2 := Lib.hid ((set_other (b := D + 1 + 1 + 1) (o := 1) (x := .int .i64 s1) (show D + 1 + 1 ≠ D + 1 + 1 + 1 by omega)).trans h2)
      have H3 := Lib.hid (set4_1 (x := .int .i64 s1) h3)
      clear hw h0 h1 h2 h3
      go_wp2
      go_region
      go_wp2
      exact ⟨⟨.inr (.inr (.inl ⟨rfl, H3.out⟩)), below_drew HW.out, H0.out, H1.out, H2.out⟩, by decide⟩
    · have a_ := cell4_2 h0
      have b_ := cell4_2 h1
      have ad_ := cell4_3 h0
      have bd_ := cell4_3 h1
      have f_ := free4_2 h3
      have c_ := cell4_2 h3
      have HW := Lib.hid (hw.setCell (p := ⟨D + 1 + 1 + 1, 2, none⟩) (show D ≤ D + 1 + 1 + 1 by omega) (.int .i64 s2))
      have H0 := Lib.hid ((set_other (b := D + 1 + 1 + 1) (o := 2) (x := .int .i64 s2) (show D ≠ D + 1 + 1 + 1 by omega)).trans h0)
      have H1 := Lib.hid ((set_other (b := D + 1 + 1 + 1) (o := 2) (x := .int .i64 s2) (show D + 1 ≠ D + 1 + 1 + 1 by omega)).trans h1)
      have H2 := Lib.hid ((set_other (b := D + 1 + 1 + 1) (o := 2) (x := .int .i64 s2) (show D + 1 + 1 ≠ D + 1 + 1 + 1 by omega)).trans h2)
      have H3 := Lib.hid (set4_2 (x := .int .i64 s2) h3)
      clear hw h0 h1 h2 h3
      go_wp2
      go_region
      go_wp2
      exact ⟨⟨.inr (.inr (.inr (⟨rfl, H3.out⟩))), below_drew HW.out, H0.out, H1.out, H2.out⟩, by decide⟩
    · have k0 := cell4_0 h3
      have k1 := cell4_1 h3
      have k2 := cell4_2 h3
      have k3 := cell4_3 h3
      have r0 := cell4_0 h2
      have f0 := free4_0 h2
      have r1 := cell4_1 h2
      have f1 := free4_1 h2
      have r2 := cell4_2 h2
      have f2 := free4_2 h2
      have r3 := cell4_3 h2
      have f3 := free4_3 h2
      obtain ⟨U, hU⟩ : ∃ U, ((((wr.setCell ⟨D + 1 + 1, 0, none⟩ (.int .i64 s0)).setCell ⟨D + 1 + 1, 1, none⟩ (.int .i64 s1)).setCell ⟨D + 1 + 1, 2, none⟩ (.int .i64 s2)).setCell ⟨D + 1 + 1, 3, none⟩ (.int .i64 dd)) = U := ⟨_, rfl⟩
      have HW := Lib.hid (show Below D w U by rw [← hU]; exact ((((hw.setCell (p := ⟨D + 1 + 1, 0, none⟩) (show D ≤ D + 1 + 1 by omega) (.int .i64 s0)).setCell (p := ⟨D + 1 + 1, 1, none⟩) (show D ≤ D + 1 + 1 by omega) (.int .i64 s1)).setCell (p := ⟨D + 1 + 1, 2, none⟩) (show D ≤ D + 1 + 1 by omega) (.int .i64 s2)).setCell (p := ⟨D + 1 + 1, 3, none⟩) (show D ≤ D + 1 + 1 by omega) (.int .i64 dd)))
      have hE : U.heap[D + 1 + 1]? = some (.cells #[.int .i64 s0, .int .i64 s1, .int .i64 s2, .int .i64 dd] 29) := by rw [← hU]; exact (set4_3 (x := .int .i64 dd) (set4_2 (x := .int .i64 s2) (set4_1 (x := .int .i64 s1) (set4_0 (x := .int .i64 s0) h2))))
      have HU := Lib.hid hU
      have z0 := cell4_0 hE
      have z1 := cell4_1 hE
      have z2 := cell4_2 hE
      have z3 := cell4_3 hE
      clear hE hU h0 h1 h2 h3 hw
      go_wp2
      rw [HU.out]
      refine bodyPost_ret (v := .agg #[.int .i64 s0, .int .i64 s1, .int .i64 s2, .int .i64 dd]) (by simp [results, Tryz.results29, go_sem, z0, z1, z2, z3]) rfl ⟨rfl, by first | exact HW.out | (rw [hD]; exact HW.out)⟩
end Go.Proofs.YthdoadkdofgenaaGreatDoor
