/- The contract of the reference's Read. -/
import Derived.Test.YthdoadkdofgenaaGreatDoorIvM
namespace Go.Proofs.YthdoadkdofgenaaGreatDoor
open Go Go.RowKit Go.Shelf

theorem rd_bad (n2 d2 n3 d3 n5 d5 : Int) (h : (FracMath.rightB n2 d2 && FracMath.rightB n3 d3 && FracMath.rightB n5 d5) = false) : rdA n2 d2 n3 d3 n5 d5 = 0 ∧ rdB n2 d2 n3 d3 n5 d5 = 0 ∧ rdC n2 d2 n3 d3 n5 d5 = 0 ∧ rdD n2 d2 n3 d3 n5 d5 = 0 ∧ Iv.rdE n2 d2 n3 d3 n5 d5 = 2 := by
  have e : Iv.rdE n2 d2 n3 d3 n5 d5 = 2 := by unfold Iv.rdE; rw [h, if_neg (by decide)]
  unfold rdA rdB rdC rdD
  rw [e]
  exact ⟨if_neg (by decide), if_neg (by decide), if_neg (by decide), if_neg (by decide), rfl⟩
theorem rd_lim (n2 d2 n3 d3 n5 d5 : Int) (h : (FracMath.rightB n2 d2 && FracMath.rightB n3 d3 && FracMath.rightB n5 d5) = true) (hi : Iv.inB (Iv.up n2 d2 (Iv.D3 d2 d3 d5)) (Iv.up n3 d3 (Iv.D3 d2 d3 d5)) (Iv.up n5 d5 (Iv.D3 d2 d3 d5)) (Iv.D3 d2 d3 d5) = false) : rdA n2 d2 n3 d3 n5 d5 = 0 ∧ rdB n2 d2 n3 d3 n5 d5 = 0 ∧ rdC n2 d2 n3 d3 n5 d5 = 0 ∧ rdD n2 d2 n3 d3 n5 d5 = 0 ∧ Iv.rdE n2 d2 n3 d3 n5 d5 = 4 := by
  have e : Iv.rdE n2 d2 n3 d3 n5 d5 = 4 := by unfold Iv.rdE; rw [h, if_pos rfl, hi, if_neg (by decide)]
  unfold rdA rdB rdC rdD
  rw [e]
  exact ⟨if_neg (by decide), if_neg (by decide), if_neg (by decide), if_neg (by decide), rfl⟩
theorem rd_good (n2 d2 n3 d3 n5 d5 : Int) (h : (FracMath.rightB n2 d2 && FracMath.rightB n3 d3 && FracMath.rightB n5 d5) = true) (hi : Iv.inB (Iv.up n2 d2 (Iv.D3 d2 d3 d5)) (Iv.up n3 d3 (Iv.D3 d2 d3 d5)) (Iv.up n5 d5 (Iv.D3 d2 d3 d5)) (Iv.D3 d2 d3 d5) = true) : rdA n2 d2 n3 d3 n5 d5 = Iv.up n2 d2 (Iv.D3 d2 d3 d5) ∧ rdB n2 d2 n3 d3 n5 d5 = Iv.up n3 d3 (Iv.D3 d2 d3 d5) ∧ rdC n2 d2 n3 d3 n5 d5 = Iv.up n5 d5 (Iv.D3 d2 d3 d5) ∧ rdD n2 d2 n3 d3 n5 d5 = (Iv.D3 d2 d3 d5 : Nat) ∧ Iv.rdE n2 d2 n3 d3 n5 d5 = 0 := by
  have e : Iv.rdE n2 d2 n3 d3 n5 d5 = 0 := by unfold Iv.rdE; rw [h, if_pos rfl, hi, if_pos rfl]
  unfold rdA rdB rdC rdD
  rw [e]
  exact ⟨if_pos rfl, if_pos rfl, if_pos rfl, if_pos rfl, rfl⟩
theorem lcm_step {d e : Nat} (hd : 0 < d) : ((d : Int).tdiv ((Nat.gcd d e : Nat) : Int)) * (e : Int) = ((Nat.lcm d e : Nat) : Int) := by
  have hg0 : 0 < Nat.gcd d e := Nat.gcd_pos_of_pos_left _ hd
  rw [← Int.ofNat_tdiv, ← Int.natCast_mul]
  congr 1
  unfold Nat.lcm
  obtain ⟨k, hk⟩ := Nat.gcd_dvd_left d e
  have e1 : d / Nat.gcd d e = k := by conv => lhs; lhs; rw [hk]
                                      exact Nat.mul_div_cancel_left _ hg0
  rw [e1]
  conv => rhs; lhs; lhs; rw [hk]
  rw [Nat.mul_assoc, Nat.mul_div_cancel_left _ hg0]
def reI (D E o o1 vo : Nat) (i n L d q u : Int) : Nat → Value → World → Prop
  | 0, v, _ => v = .int .i64 i
  | 1, v, _ => v = .int .i64 i
  | 2, v, _ => v = .pointer (some ⟨D, o, none⟩)
  | 3, v, _ => v = .pointer (some ⟨D, o, none⟩)
  | 4, v, _ => v = .int .i64 n
  | 5, v, _ => v = .int .i64 L
  | 6, v, _ => v = .int .i64 i
  | 7, v, _ => v = .pointer (some ⟨D, o, none⟩)
  | 8, v, _ => v = .pointer (some ⟨D, o1, none⟩)
  | 9, v, _ => v = .int .i64 d
  | 10, v, _ => v = .int .i64 q
  | 11, v, _ => v = .int .i64 u
  | 12, v, _ => v = .pointer (some ⟨E, 0, none⟩)
  | 13, v, _ => v = .pointer (some ⟨E, vo, none⟩)
  | _, _, _ => True
theorem reI_up (D E o o1 vo : Nat) (i n L d q u : Int) : ∀ (j : Nat) (v : Value) (A B : World), Below A.heap.size A B → reI D E o o1 vo i n L d q u j v A → reI D E o o1 vo i n L d q u j v B
  | 0, _, _, _, _, h => h
  | 1, _, _, _, _, h => h
  | 2, _, _, _, _, h => h
  | 3, _, _, _, _, h => h
  | 4, _, _, _, _, h => h
  | 5, _, _, _, _, h => h
  | 6, _, _, _, _, h => h
  | 7, _, _, _, _, h => h
  | 8, _, _, _, _, h => h
  | 9, _, _, _, _, h => h
  | 10, _, _, _, _, h => h
  | 11, _, _, _, _, h => h
  | 12, _, _, _, _, h => h
  | 13, _, _, _, _, h => h
  | _ + 14, _, _, _, _, _ => trivial

set_option maxRecDepth 10000 in
set_option maxHeartbeats 8000000 in
theorem rread_any (n2 d2 n3 d3 n5 d5 : Int) (w : World) :
    Calls Tryz.prog 32 #[.agg #[.int .i64 n2, .int .i64 d2, .int .i64 n3, .int .i64 d3, .int .i64 n5, .int .i64 d5]] w fun e w' => e = .returned (.tuple #[.agg #[.int .i64 (rdA n2 d2 n3 d3 n5 d5), .int .i64 (rdB n2 d2 n3 d3 n5 d5), .int .i64 (rdC n2 d2 n3 d3 n5 d5), .int .i64 (rdD n2 d2 n3 d3 n5 d5)], .int .i64 (Iv.rdE n2 d2 n3 d3 n5 d5)]) ∧ Below w.heap.size w w' := by
  have HBAD := Lib.hid (rd_bad n2 d2 n3 d3 n5 d5)
  have HLIM := Lib.hid (rd_lim n2 d2 n3 d3 n5 d5)
  have HGOOD := Lib.hid (rd_good n2 d2 n3 d3 n5 d5)
  generalize rdA n2 d2 n3 d3 n5 d5 = RA at *
  generalize rdB n2 d2 n3 d3 n5 d5 = RB at *
  generalize rdC n2 d2 n3 d3 n5 d5 = RC at *
  generalize rdD n2 d2 n3 d3 n5 d5 = RD at *
  generalize Iv.rdE n2 d2 n3 d3 n5 d5 = RE at *
  have K0 := Lib.hid (fun W => rright_any n2 d2 W)
  have K1 := Lib.hid (fun W => rright_any n3 d3 W)
  have K2 := Lib.hid (fun W => rright_any n5 d5 W)
  obtain ⟨D, hD⟩ : ∃ D, w.heap.size = D := ⟨_, rfl⟩
  go_enter Tryz.func32, Tryz.ntmps32
  go_wp2_with fail
  obtain ⟨V, hV⟩ : ∃ V, ((w.alloc (.cells #[.int .i64 n2, .int .i64 d2, .int .i64 n3, .int .i64 d3, .int .i64 n5, .int .i64 d5] 56)).alloc (.cells #[.int .i64 0, .int .i64 0, .int .i64 0, .int .i64 0] 29)) = V := ⟨_, rfl⟩
  have hwV : Below D w V := by rw [← hV]; exact ((Below.refl _ w).alloc (by omega) _).alloc (by simp; omega) _
  have h0V : V.heap[D]? = some (.cells #[.int .i64 n2, .int .i64 d2, .int .i64 n3, .int .i64 d3, .int .i64 n5, .int .i64 d5] 56) := by rw [← hV]; exact heap_old (heap_new hD.symm)
  have h1V : V.heap[D + 1]? = some (.cells #[.int .i64 0, .int .i64 0, .int .i64 0, .int .i64 0] 29) := by rw [← hV]; exact heap_new (by simp [hD])
  rw [hV]
  clear hV
  go_loopw [4] (fun i wr => ((i = .int .i64 0) ∨ (i = .int .i64 1 ∧ FracMath.rightB n2 d2 = true) ∨ (i = .int .i64 2 ∧ FracMath.rightB n2 d2 = true ∧ FracMath.rightB n3 d3 = true) ∨ (i = .int .i64 3 ∧ FracMath.rightB n2 d2 = true ∧ FracMath.rightB n3 d3 = true ∧ FracMath.rightB n5 d5 = true)) ∧ Below D w wr ∧ wr.heap[D]? = some (.cells #[.int .i64 n2, .int .i64 d2, .int .i64 n3, .int .i64 d3, .int .i64 n5, .int .i64 d5] 56) ∧ wr.heap[D + 1]? = some (.cells #[.int .i64 0, .int .i64 0, .int .i64 0, .int .i64 0] 29)) (fun i _ => 3 - (intOf i).toNat)
  case atStart => exact ⟨.inl rfl, hwV, h0V, h1V⟩
  case round =>
    obtain ⟨hk, hw, h0, h1⟩ := hrel
    clear hwV h0V h1V
    have hDw := hw.size
    have hDn := (Array.getElem?_eq_some_iff.1 h1).1
    rcases hk with rfl | ⟨rfl, r2⟩ | ⟨rfl, r2, r3⟩ | ⟨rfl, r2, r3, r5⟩
    · have KK := K0.out
      have a0 := cell6_0 h0
      have a1 := cell6_1 h0
      cases c0 : FracMath.rightB n2 d2 with
      | false =>
        obtain ⟨e1, e2, e3, e4, e5⟩ := HBAD.out (by rw [c0]; rfl)
        subst e1 e2 e3 e4 e5
        rw [c0] at KK
        have KH := Lib.hid KK
        clear KK c0
        go_wp2_with fail
        refine (KH.out _).mono ?_
        rintro e w5 ⟨rfl, hb5⟩
        have g1 := (hb5.block (D + 1) hDn).trans h1
        have hw5 := hw.trans (hb5.mono (by omega))
        have r0 := cell4_0 g1
        have f0 := free4_0 g1
        have r1 := cell4_1 g1
        have f1 := free4_1 g1
        have r2 := cell4_2 g1
        have f2 := free4_2 g1
        have r3 := cell4_3 g1
        have f3 := free4_3 g1
        obtain ⟨U, hU⟩ : ∃ U, ((((w5.setCell ⟨D + 1, 0, none⟩ (.int .i64 0)).setCell ⟨D + 1, 1, none⟩ (.int .i64 0)).setCell ⟨D + 1, 2, none⟩ (.int .i64 0)).setCell ⟨D + 1, 3, none⟩ (.int .i64 0)) = U := ⟨_, rfl⟩
        have HW := Lib.hid (show Below D w U by rw [← hU]; exact ((((hw5.setCell (p := ⟨D + 1, 0, none⟩) (show D ≤ D + 1 by omega) (.int .i64 0)).setCell (p := ⟨D + 1, 1, none⟩) (show D ≤ D + 1 by omega) (.int .i64 0)).setCell (p := ⟨D + 1, 2, none⟩) (show D ≤ D + 1 by omega) (.int .i64 0)).setCell (p := ⟨D + 1, 3, none⟩) (show D ≤ D + 1 by omega) (.int .i64 0)))
        have hE : U.heap[D + 1]? = some (.cells #[.int .i64 0, .int .i64 0, .int .i64 0, .int .i64 0] 29) := by rw [← hU]; exact (set4_3 (x := .int .i64 0) (set4_2 (x := .int .i64 0) (set4_1 (x := .int .i64 0) (set4_0 (x := .int .i64 0) g1))))
        have HU := Lib.hid hU
        have z0 := cell4_0 hE
        have z1 := cell4_1 hE
        have z2 := cell4_2 hE
        have z3 := cell4_3 hE
        clear hE hU g1 hw5 hb5 h0 h1 hw a0 a1
        go_wp2
        rw [HU.out]
        refine bodyPost_ret (v := .tuple #[.agg #[.int .i64 0, .int .i64 0, .int .i64 0, .int .i64 0], .int .i64 2]) (by simp [results, Tryz.results32, go_sem, z0, z1, z2, z3]) rfl ⟨rfl, by first | exact HW.out | (rw [hD]; exact HW.out)⟩
      | true =>
        have r2 : FracMath.rightB n2 d2 = true := c0
        rw [c0] at KK
        have KH := Lib.hid KK
        clear KK c0
        go_wp2_with fail
        refine (KH.out _).mono ?_
        rintro e w5 ⟨rfl, hb5⟩
        have G0 := Lib.hid ((hb5.block D (by omega)).trans h0)
        have G1 := Lib.hid ((hb5.block (D + 1) hDn).trans h1)
        have HW := Lib.hid (hw.trans (hb5.mono (by omega)))
        clear h0 h1 hw hb5 a0 a1
        go_wp2
        exact ⟨⟨.inr (.inl ⟨rfl, (by first | assumption | trivial)⟩), HW.out, G0.out, G1.out⟩, by decide⟩
    · have KK := K1.out
      have a0 := cell6_2 h0
      have a1 := cell6_3 h0
      cases c0 : FracMath.rightB n3 d3 with
      | false =>
        obtain ⟨e1, e2, e3, e4, e5⟩ := HBAD.out (by rw [r2, c0]; rfl)
        subst e1 e2 e3 e4 e5
        rw [c0] at KK
        have KH := Lib.hid KK
        clear KK c0
        go_wp2_with fail
        refine (KH.out _).mono ?_
        rintro e w5 ⟨rfl, hb5⟩
        have g1 := (hb5.block (D + 1) hDn).trans h1
        have hw5 := hw.trans (hb5.mono (by omega))
        have r0 := cell4_0 g1
        have f0 := free4_0 g1
        have r1 := cell4_1 g1
        have f1 := free4_1 g1
        have r2 := cell4_2 g1
        have f2 := free4_2 g1
        have r3 := cell4_3 g1
        have f3 := free4_3 g1
        obtain ⟨U, hU⟩ : ∃ U, ((((w5.setCell ⟨D + 1, 0, none⟩ (.int .i64 0)).setCell ⟨D + 1, 1, none⟩ (.int .i64 0)).setCell ⟨D + 1, 2, none⟩ (.int .i64 0)).setCell ⟨D + 1, 3, none⟩ (.int .i64 0)) = U := ⟨_, rfl⟩
        have HW := Lib.hid (show Below D w U by rw [← hU]; exact ((((hw5.setCell (p := ⟨D + 1, 0, none⟩) (show D ≤ D + 1 by omega) (.int .i64 0)).setCell (p := ⟨D + 1, 1, none⟩) (show D ≤ D + 1 by omega) (.int .i64 0)).setCell (p := ⟨D + 1, 2, none⟩) (show D ≤ D + 1 by omega) (.int .i64 0)).setCell (p := ⟨D + 1, 3, none⟩) (show D ≤ D + 1 by omega) (.int .i64 0)))
        have hE : U.heap[D + 1]? = some (.cells #[.int .i64 0, .int .i64 0, .int .i64 0, .int .i64 0] 29) := by rw [← hU]; exact (set4_3 (x := .int .i64 0) (set4_2 (x := .int .i64 0) (set4_1 (x := .int .i64 0) (set4_0 (x := .int .i64 0) g1))))
        have HU := Lib.hid hU
        have z0 := cell4_0 hE
        have z1 := cell4_1 hE
        have z2 := cell4_2 hE
        have z3 := cell4_3 hE
        clear hE hU g1 hw5 hb5 h0 h1 hw a0 a1
        go_wp2
        rw [HU.out]
        refine bodyPost_ret (v := .tuple #[.agg #[.int .i64 0, .int .i64 0, .int .i64 0, .int .i64 0], .int .i64 2]) (by simp [results, Tryz.results32, go_sem, z0, z1, z2, z3]) rfl ⟨rfl, by first | exact HW.out | (rw [hD]; exact HW.out)⟩
      | true =>
        have r3 : FracMath.rightB n3 d3 = true := c0
        rw [c0] at KK
        have KH := Lib.hid KK
        clear KK c0
        go_wp2_with fail
        refine (KH.out _).mono ?_
        rintro e w5 ⟨rfl, hb5⟩
        have G0 := Lib.hid ((hb5.block D (by omega)).trans h0)
        have G1 := Lib.hid ((hb5.block (D + 1) hDn).trans h1)
        have HW := Lib.hid (hw.trans (hb5.mono (by omega)))
        clear h0 h1 hw hb5 a0 a1
        go_wp2
        exact ⟨⟨.inr (.inr (.inl ⟨rfl, (by first | assumption | trivial), (by first | assumption | trivial)⟩)), HW.out, G0.out, G1.out⟩, by decide⟩
    · have KK := K2.out
      have a0 := cell6_4 h0
      have a1 := cell6_5 h0
      cases c0 : FracMath.rightB n5 d5 with
      | false =>
        obtain ⟨e1, e2, e3, e4, e5⟩ := HBAD.out (by rw [r2, r3, c0]; rfl)
        subst e1 e2 e3 e4 e5
        rw [c0] at KK
        have KH := Lib.hid KK
        clear KK c0
        go_wp2_with fail
        refine (KH.out _).mono ?_
        rintro e w5 ⟨rfl, hb5⟩
        have g1 := (hb5.block (D + 1) hDn).trans h1
        have hw5 := hw.trans (hb5.mono (by omega))
        have r0 := cell4_0 g1
        have f0 := free4_0 g1
        have r1 := cell4_1 g1
        have f1 := free4_1 g1
        have r2 := cell4_2 g1
        have f2 := free4_2 g1
        have r3 := cell4_3 g1
        have f3 := free4_3 g1
        obtain ⟨U, hU⟩ : ∃ U, ((((w5.setCell ⟨D + 1, 0, none⟩ (.int .i64 0)).setCell ⟨D + 1, 1, none⟩ (.int .i64 0)).setCell ⟨D + 1, 2, none⟩ (.int .i64 0)).setCell ⟨D + 1, 3, none⟩ (.int .i64 0)) = U := ⟨_, rfl⟩
        have HW := Lib.hid (show Below D w U by rw [← hU]; exact ((((hw5.setCell (p := ⟨D + 1, 0, none⟩) (show D ≤ D + 1 by omega) (.int .i64 0)).setCell (p := ⟨D + 1, 1, none⟩) (show D ≤ D + 1 by omega) (.int .i64 0)).setCell (p := ⟨D + 1, 2, none⟩) (show D ≤ D + 1 by omega) (.int .i64 0)).setCell (p := ⟨D + 1, 3, none⟩) (show D ≤ D + 1 by omega) (.int .i64 0)))
        have hE : U.heap[D + 1]? = some (.cells #[.int .i64 0, .int .i64 0, .int .i64 0, .int .i64 0] 29) := by rw [← hU]; exact (set4_3 (x := .int .i64 0) (set4_2 (x := .int .i64 0) (set4_1 (x := .int .i64 0) (set4_0 (x := .int .i64 0) g1))))
        have HU := Lib.hid hU
        have z0 := cell4_0 hE
        have z1 := cell4_1 hE
        have z2 := cell4_2 hE
        have z3 := cell4_3 hE
        clear hE hU g1 hw5 hb5 h0 h1 hw a0 a1
        go_wp2
        rw [HU.out]
        refine bodyPost_ret (v := .tuple #[.agg #[.int .i64 0, .int .i64 0, .int .i64 0, .int .i64 0], .int .i64 2]) (by simp [results, Tryz.results32, go_sem, z0, z1, z2, z3]) rfl ⟨rfl, by first | exact HW.out | (rw [hD]; exact HW.out)⟩
      | true =>
        have r5 : FracMath.rightB n5 d5 = true := c0
        rw [c0] at KK
        have KH := Lib.hid KK
        clear KK c0
        go_wp2_with fail
        refine (KH.out _).mono ?_
        rintro e w5 ⟨rfl, hb5⟩
        have G0 := Lib.hid ((hb5.block D (by omega)).trans h0)
        have G1 := Lib.hid ((hb5.block (D + 1) hDn).trans h1)
        have HW := Lib.hid (hw.trans (hb5.mono (by omega)))
        clear h0 h1 hw hb5 a0 a1
        go_wp2
        exact ⟨⟨.inr (.inr (.inr ⟨rfl, (by first | assumption | trivial), (by first | assumption | trivial), (by first | assumption | trivial)⟩)), HW.out, G0.out, G1.out⟩, by decide⟩
    · have hall : (FracMath.rightB n2 d2 && FracMath.rightB n3 d3 && FracMath.rightB n5 d5) = true := by rw [r2, r3, r5]; rfl
      have HL := Lib.hid (HLIM.out hall)
      have HGD := Lib.hid (HGOOD.out hall)
      obtain ⟨b21, b22, b23, b24, _⟩ := FracMath.right_of r2
      obtain ⟨b31, b32, b33, b34, _⟩ := FracMath.right_of r3
      obtain ⟨b51, b52, b53, b54, _⟩ := FracMath.right_of r5
      have s0 := lcm_step (d := 1) (e := d2.natAbs) (by decide)
      have s1 := lcm_step (d := d2.natAbs) (e := d3.natAbs) (by omega)
      have hp0 : 0 < Nat.lcm d2.natAbs d3.natAbs := Nat.lcm_pos (by omega) (by omega)
      have s2 := lcm_step (d := Nat.lcm d2.natAbs d3.natAbs) (e := d5.natAbs) hp0
      have e2 : ((d2.natAbs : Nat) : Int) = d2 := by omega
      have e3 : ((d3.natAbs : Nat) : Int) = d3 := by omega
      have e5 : ((d5.natAbs : Nat) : Int) = d5 := by omega
      rw [Nat.lcm_one_left] at s0
      rw [e2] at s0 s1
      rw [e3] at s1
      rw [e5] at s2
      have q0 := Lib.hid (fun W => rdivisor_any 1 d2 W (by omega) (by omega) (by omega) (by omega))
      have q1 := Lib.hid (fun W => rdivisor_any d2 d3 W (by omega) (by omega) (by omega) (by omega))
      have hl2 : Nat.lcm d2.natAbs d3.natAbs ≤ d2.natAbs * d3.natAbs := Nat.div_le_self _ _
      have hl2b : d2.natAbs * d3.natAbs ≤ 1000000 * 1000000 := Nat.mul_le_mul (by omega) (by omega)
      have q2 := Lib.hid (fun W => rdivisor_any (Nat.lcm d2.natAbs d3.natAbs : Nat) d5 W (by omega) (by omega) (by omega) (by omega))
      have ED : ((Nat.lcm (Nat.lcm d2.natAbs d3.natAbs) d5.natAbs : Nat) : Int) = (Iv.D3 d2 d3 d5 : Nat) := rfl
      rw [ED] at s2
      have dA : d2.natAbs ≤ Iv.D3 d2 d3 d5 := Nat.le_of_dvd (Iv.D3_pos (by omega) (by omega) (by omega)) (Iv.D3_a d2 d3 d5)
      have dB : Nat.lcm d2.natAbs d3.natAbs ≤ Iv.D3 d2 d3 d5 := Nat.le_of_dvd (Iv.D3_pos (by omega) (by omega) (by omega)) (Nat.dvd_lcm_left _ _)
      have dP := Iv.D3_pos (d := d2) (e := d3) (f := d5) (by omega) (by omega) (by omega)
      have c2 : d2 ≤ 240 → ((Nat.lcm d2.natAbs d3.natAbs : Nat) : Int) ≤ 240000000 := fun h => by
        have : d2.natAbs * d3.natAbs ≤ 240 * 1000000 := Nat.mul_le_mul (by omega) (by omega)
        omega
      have c3 : ((Nat.lcm d2.natAbs d3.natAbs : Nat) : Int) ≤ 240 → ((Iv.D3 d2 d3 d5 : Nat) : Int) ≤ 240000000 := fun h => by
        have h1 : Nat.lcm d2.natAbs d3.natAbs * d5.natAbs ≤ 240 * 1000000 := Nat.mul_le_mul (by omega) (by omega)
        have h2 : Iv.D3 d2 d3 d5 ≤ Nat.lcm d2.natAbs d3.natAbs * d5.natAbs := Nat.div_le_self _ _
        omega
      have m2 := up_mul (n := n2) (D := Iv.D3 d2 d3 d5) b23
      have m3 := up_mul (n := n3) (D := Iv.D3 d2 d3 d5) b33
      have m5 := up_mul (n := n5) (D := Iv.D3 d2 d3 d5) b53
      have bb : ∀ n d : Int, -1000000 ≤ n → n ≤ 1000000 → ((Iv.D3 d2 d3 d5 : Nat) : Int) ≤ 240 → -240000000 ≤ Iv.up n d (Iv.D3 d2 d3 d5) ∧ Iv.up n d (Iv.D3 d2 d3 d5) ≤ 240000000 := fun n d h1 h2 h3 => by
        have h4 : Iv.D3 d2 d3 d5 / d.natAbs ≤ 240 := Nat.le_trans (Nat.div_le_self _ _) (by omega)
        have := up_bd (n := n) (d := d) ⟨h1, h2⟩ h4
        omega
      have bb2 := bb n2 d2 b21 b22
      have bb3 := bb n3 d3 b31 b32
      have bb5 := bb n5 d5 b51 b52
      have hM1 : ((d2.natAbs : Nat) : Int) ≤ ((Iv.D3 d2 d3 d5 : Nat) : Int) := by omega
      have hM2 : ((Nat.lcm d2.natAbs d3.natAbs : Nat) : Int) ≤ ((Iv.D3 d2 d3 d5 : Nat) : Int) := by omega
      have hM0 : 0 < ((Nat.lcm d2.natAbs d3.natAbs : Nat) : Int) := by omega
      have hM3 : 0 < ((Iv.D3 d2 d3 d5 : Nat) : Int) := by omega
      rw [e2] at hM1
      have g0p : 0 < ((Nat.gcd 1 d2.natAbs : Nat) : Int) := by have : 0 < Nat.gcd 1 d2.natAbs := Nat.gcd_pos_of_pos_left _ (by decide); omega
      have g1p : 0 < ((Nat.gcd d2.natAbs d3.natAbs : Nat) : Int) := by have : 0 < Nat.gcd d2.natAbs d3.natAbs := Nat.gcd_pos_of_pos_left _ (by omega); omega
      have g2p : 0 < ((Nat.gcd (Nat.lcm d2.natAbs d3.natAbs) d5.natAbs : Nat) : Int) := by have : 0 < Nat.gcd (Nat.lcm d2.natAbs d3.natAbs) d5.natAbs := Nat.gcd_pos_of_pos_left _ hp0; omega
      have Q0 := q0.out
      have Q1 := q1.out
      have Q2 := q2.out
      rw [show Int.gcd 1 d2 = Nat.gcd 1 d2.natAbs from rfl] at Q0
      rw [show Int.gcd d2 d3 = Nat.gcd d2.natAbs d3.natAbs from rfl] at Q1
      rw [show Int.gcd ((Nat.lcm d2.natAbs d3.natAbs : Nat) : Int) d5 = Nat.gcd (Nat.lcm d2.natAbs d3.natAbs) d5.natAbs from rfl] at Q2
      have Z0 := Lib.hid Q0
      have Z1 := Lib.hid Q1
      have Z2 := Lib.hid Q2
      clear Q0 Q1 Q2 q0 q1 q2 hl2 hl2b ED dA dB dP bb e2 e3 e5 hp0 HBAD HLIM HGOOD K0 K1 K2 r2 r3 r5 hall
      generalize Iv.up n2 d2 (Iv.D3 d2 d3 d5) = v2 at *
      generalize Iv.up n3 d3 (Iv.D3 d2 d3 d5) = v3 at *
      generalize Iv.up n5 d5 (Iv.D3 d2 d3 d5) = v5 at *
      generalize ((Iv.D3 d2 d3 d5 : Nat) : Int) = L3 at *
      generalize ((Nat.gcd (Nat.lcm d2.natAbs d3.natAbs) d5.natAbs : Nat) : Int) = g2 at *
      generalize ((Nat.lcm d2.natAbs d3.natAbs : Nat) : Int) = L2 at *
      generalize ((Nat.gcd d2.natAbs d3.natAbs : Nat) : Int) = g1 at *
      generalize ((Nat.gcd 1 d2.natAbs : Nat) : Int) = g0 at *
      rw [show ((1 : Nat) : Int) = 1 from rfl] at s0
      have hp0 := tdiv_le_self' (L := 1) (d := g0) (by omega)
      obtain ⟨p0, ep0⟩ : ∃ p, (1 : Int).tdiv g0 = p := ⟨_, rfl⟩
      rw [ep0] at hp0 s0
      have gz0 : ¬ g0 = 0 := by omega
      have gm0 : ¬ g0 = -1 := by omega
      have hp1 := tdiv_le_self' (L := d2) (d := g1) (by omega)
      obtain ⟨p1, ep1⟩ : ∃ p, (d2 : Int).tdiv g1 = p := ⟨_, rfl⟩
      rw [ep1] at hp1 s1
      have gz1 : ¬ g1 = 0 := by omega
      have gm1 : ¬ g1 = -1 := by omega
      have hp2 := tdiv_le_self' (L := L2) (d := g2) (by omega)
      obtain ⟨p2, ep2⟩ : ∃ p, (L2 : Int).tdiv g2 = p := ⟨_, rfl⟩
      rw [ep2] at hp2 s2
      have gz2 : ¬ g2 = 0 := by omega
      have gm2 : ¬ g2 = -1 := by omega
      clear g0p g1p g2p
      have H0 := h0
      have H1 := h1
      clear h0 h1
      go_wp2_with fail
      go_loopw [5, 6] (fun d i wr => ((i = .int .i64 0 ∧ d = .int .i64 1) ∨ (i = .int .i64 1 ∧ d = .int .i64 d2 ∧ d2 ≤ 240) ∨ (i = .int .i64 2 ∧ d = .int .i64 L2 ∧ d2 ≤ 240 ∧ L2 ≤ 240) ∨ (i = .int .i64 3 ∧ d = .int .i64 L3 ∧ L3 ≤ 240)) ∧ Below D w wr ∧ wr.heap[D]? = some (.cells #[.int .i64 n2, .int .i64 d2, .int .i64 n3, .int .i64 d3, .int .i64 n5, .int .i64 d5] 56) ∧ wr.heap[D + 1]? = some (.cells #[.int .i64 0, .int .i64 0, .int .i64 0, .int .i64 0] 29)) (fun _ i _ => 3 - (intOf i).toNat)
      case atStart => exact ⟨.inl ⟨rfl, rfl⟩, hw, H0, H1⟩
      case round =>
        clear hw H0 H1
        obtain ⟨hk, hw, h0, h1⟩ := hrel
        have hDw := hw.size
        have hDn := (Array.getElem?_eq_some_iff.1 h1).1
        rcases hk with ⟨rfl, rfl⟩ | ⟨rfl, rfl, k1⟩ | ⟨rfl, rfl, k1, k2⟩ | ⟨rfl, rfl, k3⟩
        · have wp := wrap_in (q := p0) (by omega) (by omega)
          have hLb : d2 ≤ 240000000 := by omega
          have wL := wrap_in (q := d2) (by omega) (by omega)
          have a1 := cell6_1 h0
          by_cases hc : 240 < d2
          · obtain ⟨e1, e2, e3, e4, e5⟩ := HL.out (by unfold Iv.inB; simp only [decide_eq_false_iff_not]; omega)
            subst e1 e2 e3 e4 e5
            have r0 := cell4_0 h1
            have f0 := free4_0 h1
            have r1 := cell4_1 h1
            have f1 := free4_1 h1
            have r2 := cell4_2 h1
            have f2 := free4_2 h1
            have r3 := cell4_3 h1
            have f3 := free4_3 h1
            have HWm := Lib.hid (fun m => show Below D w (((((wr.drewN m).setCell ⟨D + 1, 0, none⟩ (.int .i64 0)).setCell ⟨D + 1, 1, none⟩ (.int .i64 0)).setCell ⟨D + 1, 2, none⟩ (.int .i64 0)).setCell ⟨D + 1, 3, none⟩ (.int .i64 0)) from (((((hw.trans ((drew_below' wr m).mono (by omega))).setCell (p := ⟨D + 1, 0, none⟩) (show D ≤ D + 1 by omega) (.int .i64 0)).setCell (p := ⟨D + 1, 1, none⟩) (show D ≤ D + 1 by omega) (.int .i64 0)).setCell (p := ⟨D + 1, 2, none⟩) (show D ≤ D + 1 by omega) (.int .i64 0)).setCell (p := ⟨D + 1, 3, none⟩) (show D ≤ D + 1 by omega) (.int .i64 0)))
            have HEm := Lib.hid (fun m => show (((((wr.drewN m).setCell ⟨D + 1, 0, none⟩ (.int .i64 0)).setCell ⟨D + 1, 1, none⟩ (.int .i64 0)).setCell ⟨D + 1, 2, none⟩ (.int .i64 0)).setCell ⟨D + 1, 3, none⟩ (.int .i64 0)).heap[D + 1]? = some (.cells #[.int .i64 0, .int .i64 0, .int .i64 0, .int .i64 0] 29) from (set4_3 (x := .int .i64 0) (set4_2 (x := .int .i64 0) (set4_1 (x := .int .i64 0) (set4_0 (x := .int .i64 0) (show (wr.drewN m).heap[D + 1]? = _ from h1))))))
            clear h0 h1 hw
            go_wp2_with (go_quiet (first | (go_at_call 54; exact Calls.quiet_of (Z0.out _)) | fail))
            have hE := HEm.out nq
            have z0 := cell4_0 hE
            have z1 := cell4_1 hE
            have z2 := cell4_2 hE
            have z3 := cell4_3 hE
            refine bodyPost_ret (v := .tuple #[.agg #[.int .i64 0, .int .i64 0, .int .i64 0, .int .i64 0], .int .i64 4]) (by simp [results, Tryz.results32, go_sem, z0, z1, z2, z3]) rfl ⟨rfl, by first | exact HWm.out nq | (rw [hD]; exact HWm.out nq)⟩
          · go_wp2_with (go_quiet (first | (go_at_call 54; exact Calls.quiet_of (Z0.out _)) | fail))
            exact ⟨⟨.inr (.inl ⟨rfl, rfl, by omega⟩), hw.trans ((drew_below' wr _).mono (by omega)), h0, h1⟩, by decide⟩
        · have wp := wrap_in (q := p1) (by omega) (by omega)
          have hLb : L2 ≤ 240000000 := by have := c2 k1; omega
          have wL := wrap_in (q := L2) (by omega) (by omega)
          have a1 := cell6_3 h0
          by_cases hc : 240 < L2
          · obtain ⟨e1, e2, e3, e4, e5⟩ := HL.out (by unfold Iv.inB; simp only [decide_eq_false_iff_not]; omega)
            subst e1 e2 e3 e4 e5
            have r0 := cell4_0 h1
            have f0 := free4_0 h1
            have r1 := cell4_1 h1
            have f1 := free4_1 h1
            have r2 := cell4_2 h1
            have f2 := free4_2 h1
            have r3 := cell4_3 h1
            have f3 := free4_3 h1
            have HWm := Lib.hid (fun m => show Below D w (((((wr.drewN m).setCell ⟨D + 1, 0, none⟩ (.int .i64 0)).setCell ⟨D + 1, 1, none⟩ (.int .i64 0)).setCell ⟨D + 1, 2, none⟩ (.int .i64 0)).setCell ⟨D + 1, 3, none⟩ (.int .i64 0)) from (((((hw.trans ((drew_below' wr m).mono (by omega))).setCell (p := ⟨D + 1, 0, none⟩) (show D ≤ D + 1 by omega) (.int .i64 0)).setCell (p := ⟨D + 1, 1, none⟩) (show D ≤ D + 1 by omega) (.int .i64 0)).setCell (p := ⟨D + 1, 2, none⟩) (show D ≤ D + 1 by omega) (.int .i64 0)).setCell (p := ⟨D + 1, 3, none⟩) (show D ≤ D + 1 by omega) (.int .i64 0)))
            have HEm := Lib.hid (fun m => show (((((wr.drewN m).setCell ⟨D + 1, 0, none⟩ (.int .i64 0)).setCell ⟨D + 1, 1, none⟩ (.int .i64 0)).setCell ⟨D + 1, 2, none⟩ (.int .i64 0)).setCell ⟨D + 1, 3, none⟩ (.int .i64 0)).heap[D + 1]? = some (.cells #[.int .i64 0, .int .i64 0, .int .i64 0, .int .i64 0] 29) from (set4_3 (x := .int .i64 0) (set4_2 (x := .int .i64 0) (set4_1 (x := .int .i64 0) (set4_0 (x := .int .i64 0) (show (wr.drewN m).heap[D + 1]? = _ from h1))))))
            clear h0 h1 hw
            go_wp2_with (go_quiet (first | (go_at_call 54; exact Calls.quiet_of (Z1.out _)) | fail))
            have hE := HEm.out nq
            have z0 := cell4_0 hE
            have z1 := cell4_1 hE
            have z2 := cell4_2 hE
            have z3 := cell4_3 hE
            refine bodyPost_ret (v := .tuple #[.agg #[.int .i64 0, .int .i64 0, .int .i64 0, .int .i64 0], .int .i64 4]) (by simp [results, Tryz.results32, go_sem, z0, z1, z2, z3]) rfl ⟨rfl, by first | exact HWm.out nq | (rw [hD]; exact HWm.out nq)⟩
          · go_wp2_with (go_quiet (first | (go_at_call 54; exact Calls.quiet_of (Z1.out _)) | fail))
            exact ⟨⟨.inr (.inr (.inl ⟨rfl, rfl, by omega, by omega⟩)), hw.trans ((drew_below' wr _).mono (by omega)), h0, h1⟩, by decide⟩
        · have wp := wrap_in (q := p2) (by omega) (by omega)
          have hLb : L3 ≤ 240000000 := by have := c3 k2; omega
          have wL := wrap_in (q := L3) (by omega) (by omega)
          have a1 := cell6_5 h0
          by_cases hc : 240 < L3
          · obtain ⟨e1, e2, e3, e4, e5⟩ := HL.out (by unfold Iv.inB; simp only [decide_eq_false_iff_not]; omega)
            subst e1 e2 e3 e4 e5
            have r0 := cell4_0 h1
            have f0 := free4_0 h1
            have r1 := cell4_1 h1
            have f1 := free4_1 h1
            have r2 := cell4_2 h1
            have f2 := free4_2 h1
            have r3 := cell4_3 h1
            have f3 := free4_3 h1
            have HWm := Lib.hid (fun m => show Below D w (((((wr.drewN m).setCell ⟨D + 1, 0, none⟩ (.int .i64 0)).setCell ⟨D + 1, 1, none⟩ (.int .i64 0)).setCell ⟨D + 1, 2, none⟩ (.int .i64 0)).setCell ⟨D + 1, 3, none⟩ (.int .i64 0)) from (((((hw.trans ((drew_below' wr m).mono (by omega))).setCell (p := ⟨D + 1, 0, none⟩) (show D ≤ D + 1 by omega) (.int .i64 0)).setCell (p := ⟨D + 1, 1, none⟩) (show D ≤ D + 1 by omega) (.int .i64 0)).setCell (p := ⟨D + 1, 2, none⟩) (show D ≤ D + 1 by omega) (.int .i64 0)).setCell (p := ⟨D + 1, 3, none⟩) (show D ≤ D + 1 by omega) (.int .i64 0)))
            have HEm := Lib.hid (fun m => show (((((wr.drewN m).setCell ⟨D + 1, 0, none⟩ (.int .i64 0)).setCell ⟨D + 1, 1, none⟩ (.int .i64 0)).setCell ⟨D + 1, 2, none⟩ (.int .i64 0)).setCell ⟨D + 1, 3, none⟩ (.int .i64 0)).heap[D + 1]? = some (.cells #[.int .i64 0, .int .i64 0, .int .i64 0, .int .i64 0] 29) from (set4_3 (x := .int .i64 0) (set4_2 (x := .int .i64 0) (set4_1 (x := .int .i64 0) (set4_0 (x := .int .i64 0) (show (wr.drewN m).heap[D + 1]? = _ from h1))))))
            clear h0 h1 hw
            go_wp2_with (go_quiet (first | (go_at_call 54; exact Calls.quiet_of (Z2.out _)) | fail))
            have hE := HEm.out nq
            have z0 := cell4_0 hE
            have z1 := cell4_1 hE
            have z2 := cell4_2 hE
            have z3 := cell4_3 hE
            refine bodyPost_ret (v := .tuple #[.agg #[.int .i64 0, .int .i64 0, .int .i64 0, .int .i64 0], .int .i64 4]) (by simp [results, Tryz.results32, go_sem, z0, z1, z2, z3]) rfl ⟨rfl, by first | exact HWm.out nq | (rw [hD]; exact HWm.out nq)⟩
          · go_wp2_with (go_quiet (first | (go_at_call 54; exact Calls.quiet_of (Z2.out _)) | fail))
            exact ⟨⟨.inr (.inr (.inr ⟨rfl, rfl, by omega⟩)), hw.trans ((drew_below' wr _).mono (by omega)), h0, h1⟩, by decide⟩
        · have w3 := wrap_in (q := L3) (by omega) (by omega)
          have tt2 := tdiv_le_self' (L := L3) (d := d2) hM3
          have tt3 := tdiv_le_self' (L := L3) (d := d3) hM3
          have tt5 := tdiv_le_self' (L := L3) (d := d5) hM3
          obtain ⟨t2, et2⟩ : ∃ t, L3.tdiv d2 = t := ⟨_, rfl⟩
          rw [et2] at tt2 m2
          have wt2 := wrap_in (q := t2) (by omega) (by omega)
          have wv2 := wrap_in (q := v2) (by have := bb2 k3; omega) (by have := bb2 k3; omega)
          have dz2 : ¬ d2 = 0 := by omega
          have dm2 : ¬ d2 = -1 := by omega
          obtain ⟨t3, et3⟩ : ∃ t, L3.tdiv d3 = t := ⟨_, rfl⟩
          rw [et3] at tt3 m3
          have wt3 := wrap_in (q := t3) (by omega) (by omega)
          have wv3 := wrap_in (q := v3) (by have := bb3 k3; omega) (by have := bb3 k3; omega)
          have dz3 : ¬ d3 = 0 := by omega
          have dm3 : ¬ d3 = -1 := by omega
          obtain ⟨t5, et5⟩ : ∃ t, L3.tdiv d5 = t := ⟨_, rfl⟩
          rw [et5] at tt5 m5
          have wt5 := wrap_in (q := t5) (by omega) (by omega)
          have wv5 := wrap_in (q := v5) (by have := bb5 k3; omega) (by have := bb5 k3; omega)
          have dz5 : ¬ d5 = 0 := by omega
          have dm5 : ¬ d5 = -1 := by omega
          obtain ⟨E, hE⟩ : ∃ E, wr.heap.size = E := ⟨_, rfl⟩
          have hED : D + 1 < E := by omega
          have hwE := hw.alloc (by omega) (.cells #[.int .i64 0, .int .i64 0, .int .i64 0, .int .i64 L3] 29)
          have h0E := heap_old (o := .cells #[.int .i64 0, .int .i64 0, .int .i64 0, .int .i64 L3] 29) h0
          have h1E := heap_old (o := .cells #[.int .i64 0, .int .i64 0, .int .i64 0, .int .i64 L3] 29) h1
          have h2E : (wr.alloc (.cells #[.int .i64 0, .int .i64 0, .int .i64 0, .int .i64 L3] 29)).heap[E]? = some (.cells #[.int .i64 0, .int .i64 0, .int .i64 0, .int .i64 L3] 29) := heap_new hE.symm
          clear h0 h1 hw Z0 Z1 Z2
          go_wp2_with fail
          generalize (wr.alloc (.cells #[.int .i64 0, .int .i64 0, .int .i64 0, .int .i64 L3] 29)) = Y at *
          go_loopw [8] (fun i wr => ((i = .int .i64 0 ∧ wr.heap[E]? = some (.cells #[.int .i64 0, .int .i64 0, .int .i64 0, .int .i64 L3] 29)) ∨ (i = .int .i64 1 ∧ wr.heap[E]? = some (.cells #[.int .i64 v2, .int .i64 0, .int .i64 0, .int .i64 L3] 29) ∧ -6000 ≤ v2 ∧ v2 ≤ 6000) ∨ (i = .int .i64 2 ∧ wr.heap[E]? = some (.cells #[.int .i64 v2, .int .i64 v3, .int .i64 0, .int .i64 L3] 29) ∧ -6000 ≤ v2 ∧ v2 ≤ 6000 ∧ -6000 ≤ v3 ∧ v3 ≤ 6000) ∨ (i = .int .i64 3 ∧ wr.heap[E]? = some (.cells #[.int .i64 v2, .int .i64 v3, .int .i64 v5, .int .i64 L3] 29) ∧ -6000 ≤ v2 ∧ v2 ≤ 6000 ∧ -6000 ≤ v3 ∧ v3 ≤ 6000 ∧ -6000 ≤ v5 ∧ v5 ≤ 6000)) ∧ Below D w wr ∧ wr.heap[D]? = some (.cells #[.int .i64 n2, .int .i64 d2, .int .i64 n3, .int .i64 d3, .int .i64 n5, .int .i64 d5] 56) ∧ wr.heap[D + 1]? = some (.cells #[.int .i64 0, .int .i64 0, .int .i64 0, .int .i64 0] 29)) (fun i _ => 3 - (intOf i).toNat)
          case atStart => exact ⟨.inl ⟨rfl, h2E⟩, hwE, h0E, h1E⟩
          case round =>
            clear hwE h0E h1E h2E
            obtain ⟨hk, hw, h0, h1⟩ := hrel
            have hDw := hw.size
            have hDn := (Array.getElem?_eq_some_iff.1 h1).1
            rcases hk with ⟨rfl, h2⟩ | ⟨rfl, h2, y1, y2⟩ | ⟨rfl, h2, y1, y2, y3, y4⟩ | ⟨rfl, h2, y1, y2, y3, y4, y5, y6⟩
            · have hz := (Array.getElem?_eq_some_iff.1 h2).1
              have KN := Lib.hid (cell6_0 h0)
              have KD := Lib.hid (cell6_1 h0)
              have HE := Lib.hid h2
              have H0 := Lib.hid h0
              have H1 := Lib.hid h1
              have HW := Lib.hid hw
              clear h0 h1 h2 hw
              go_wp2_with fail
              refine wp_region_slots_at rfl rfl (fun base ys => (((((((((((((base.set 45 (ys 0)).set 46 (ys 1)).set 47 (ys 2)).set 48 (ys 3)).set 49 (ys 4)).set 50 (ys 5)).set 51 (ys 6)).set 52 (ys 7)).set 53 (ys 8)).set 54 (ys 9)).set 55 (ys 10)).set 56 (ys 11)).set 57 (ys 12)).set 58 (ys 13)) (LastI _ (Below wr.heap.size wr) (reI D E 0 1 0 0 n2 L3 d2 t2 v2) (fun A => Below D w A ∧ A.heap[E]? = some (.cells #[.int .i64 v2, .int .i64 0, .int .i64 0, .int .i64 L3] 29) ∧ A.heap[D]? = some (.cells #[.int .i64 n2, .int .i64 d2, .int .i64 n3, .int .i64 d3, .int .i64 n5, .int .i64 d5] 56) ∧ A.heap[D + 1]? = some (.cells #[.int .i64 0, .int .i64 0, .int .i64 0, .int .i64 0] 29))) (fun | 0 => u45 | 1 => u46 | 2 => u47 | 3 => u48 | 4 => u49 | 5 => u50 | 6 => u51 | 7 => u52 | 8 => u53 | 9 => u54 | 10 => u55 | 11 => u56 | 12 => u57 | 13 => u58 | _ => undef) (by kernel_rfl) (last_start (by decide) ((Below.refl _ _).trans ⟨rfl, rfl, rfl, Nat.le_refl _, fun _ _ => rfl⟩)) ?h
              case h =>
                intro F hF
                simp only [List.set_cons_succ, List.set_cons_zero] at hF
                subst hF
                refine ⟨rfl, ?_, ?_⟩
                refine ⟨?_, ?_⟩
                · refine SlotStep.lastB (by kernel_rfl) rfl (by decide) (fun A B hb h => h.trans (hb.mono h.size)) (reI_up D E 0 1 0 0 n2 L3 d2 t2 v2) ?_
                  intro ys W hR hd K hK
                  go_simp
                  have hK2 := hK (.int .i64 0) _ (Below.refl _ _) rfl
                  simp (config := { decide := true }) only [upd, if_true, if_false] at hK2
                  exact hK2
                refine ⟨?_, ?_⟩
                · refine SlotStep.lastB (by kernel_rfl) rfl (by decide) (fun A B hb h => h.trans (hb.mono h.size)) (reI_up D E 0 1 0 0 n2 L3 d2 t2 v2) ?_
                  intro ys W hR hd K hK
                  go_simp
                  have hK2 := hK (.int .i64 0) _ (Below.refl _ _) rfl
                  simp (config := { decide := true }) only [upd, if_true, if_false] at hK2
                  exact hK2
                refine ⟨?_, ?_⟩
                · refine SlotStep.lastB (by kernel_rfl) rfl (by decide) (fun A B hb h => h.trans (hb.mono h.size)) (reI_up D E 0 1 0 0 n2 L3 d2 t2 v2) ?_
                  intro ys W hR hd K hK
                  have dd1 : ys 1 = .int .i64 0 := hd 1 (by kernel_rfl) (by decide)
                  go_simp
                  have hK2 := hK (.pointer (some ⟨D, 0, none⟩)) _ (Below.refl _ _) rfl
                  simp (config := { decide := true }) only [upd, if_true, if_false, dd1] at hK2
                  exact hK2
                refine ⟨?_, ?_⟩
                · refine SlotStep.lastB (by kernel_rfl) rfl (by decide) (fun A B hb h => h.trans (hb.mono h.size)) (reI_up D E 0 1 0 0 n2 L3 d2 t2 v2) ?_
                  intro ys W hR hd K hK
                  have dd2 : ys 2 = .pointer (some ⟨D, 0, none⟩) := hd 2 (by kernel_rfl) (by decide)
                  go_simp
                  have hK2 := hK (.pointer (some ⟨D, 0, none⟩)) _ (Below.refl _ _) rfl
                  simp (config := { decide := true }) only [upd, if_true, if_false, dd2] at hK2
                  exact hK2
                refine ⟨?_, ?_⟩
                · refine SlotStep.lastB (by kernel_rfl) rfl (by decide) (fun A B hb h => h.trans (hb.mono h.size)) (reI_up D E 0 1 0 0 n2 L3 d2 t2 v2) ?_
                  intro ys W hR hd K hK
                  have dd3 : ys 3 = .pointer (some ⟨D, 0, none⟩) := hd 3 (by kernel_rfl) (by decide)
                  have c0 := (hR.cell (p := ⟨D, 0, none⟩) (by show D < wr.heap.size; omega)).trans KN.out
                  go_simp
                  have hK2 := hK (.int .i64 n2) _ (Below.refl _ _) rfl
                  simp (config := { decide := true }) only [upd, if_true, if_false, dd3] at hK2
                  exact hK2
                refine ⟨?_, ?_⟩
                · refine SlotStep.lastB (by kernel_rfl) rfl (by decide) (fun A B hb h => h.trans (hb.mono h.size)) (reI_up D E 0 1 0 0 n2 L3 d2 t2 v2) ?_
                  intro ys W hR hd K hK
                  go_simp
                  have hK2 := hK (.int .i64 L3) _ (Below.refl _ _) rfl
                  simp (config := { decide := true }) only [upd, if_true, if_false] at hK2
                  exact hK2
                refine ⟨?_, ?_⟩
                · refine SlotStep.lastB (by kernel_rfl) rfl (by decide) (fun A B hb h => h.trans (hb.mono h.size)) (reI_up D E 0 1 0 0 n2 L3 d2 t2 v2) ?_
                  intro ys W hR hd K hK
                  go_simp
                  have hK2 := hK (.int .i64 0) _ (Below.refl _ _) rfl
                  simp (config := { decide := true }) only [upd, if_true, if_false] at hK2
                  exact hK2
                refine ⟨?_, ?_⟩
                · refine SlotStep.lastB (by kernel_rfl) rfl (by decide) (fun A B hb h => h.trans (hb.mono h.size)) (reI_up D E 0 1 0 0 n2 L3 d2 t2 v2) ?_
                  intro ys W hR hd K hK
                  have dd6 : ys 6 = .int .i64 0 := hd 6 (by kernel_rfl) (by decide)
                  go_simp
                  have hK2 := hK (.pointer (some ⟨D, 0, none⟩)) _ (Below.refl _ _) rfl
                  simp (config := { decide := true }) only [upd, if_true, if_false, dd6] at hK2
                  exact hK2
                refine ⟨?_, ?_⟩
                · refine SlotStep.lastB (by kernel_rfl) rfl (by decide) (fun A B hb h => h.trans (hb.mono h.size)) (reI_up D E 0 1 0 0 n2 L3 d2 t2 v2) ?_
                  intro ys W hR hd K hK
                  have dd7 : ys 7 = .pointer (some ⟨D, 0, none⟩) := hd 7 (by kernel_rfl) (by decide)
                  go_simp
                  have hK2 := hK (.pointer (some ⟨D, 1, none⟩)) _ (Below.refl _ _) rfl
                  simp (config := { decide := true }) only [upd, if_true, if_false, dd7] at hK2
                  exact hK2
                refine ⟨?_, ?_⟩
                · refine SlotStep.lastB (by kernel_rfl) rfl (by decide) (fun A B hb h => h.trans (hb.mono h.size)) (reI_up D E 0 1 0 0 n2 L3 d2 t2 v2) ?_
                  intro ys W hR hd K hK
                  have dd8 : ys 8 = .pointer (some ⟨D, 1, none⟩) := hd 8 (by kernel_rfl) (by decide)
                  have c0 := (hR.cell (p := ⟨D, 1, none⟩) (by show D < wr.heap.size; omega)).trans KD.out
                  go_simp
                  have hK2 := hK (.int .i64 d2) _ (Below.refl _ _) rfl
                  simp (config := { decide := true }) only [upd, if_true, if_false, dd8] at hK2
                  exact hK2
                refine ⟨?_, ?_⟩
                · refine SlotStep.lastB (by kernel_rfl) rfl (by decide) (fun A B hb h => h.trans (hb.mono h.size)) (reI_up D E 0 1 0 0 n2 L3 d2 t2 v2) ?_
                  intro ys W hR hd K hK
                  have dd5 : ys 5 = .int .i64 L3 := hd 5 (by kernel_rfl) (by decide)
                  have dd9 : ys 9 = .int .i64 d2 := hd 9 (by kernel_rfl) (by decide)
                  go_simp
                  have hK2 := hK (.int .i64 t2) _ (Below.refl _ _) rfl
                  simp (config := { decide := true }) only [upd, if_true, if_false, dd5, dd9] at hK2
                  exact hK2
                refine ⟨?_, ?_⟩
                · refine SlotStep.lastB (by kernel_rfl) rfl (by decide) (fun A B hb h => h.trans (hb.mono h.size)) (reI_up D E 0 1 0 0 n2 L3 d2 t2 v2) ?_
                  intro ys W hR hd K hK
                  have dd4 : ys 4 = .int .i64 n2 := hd 4 (by kernel_rfl) (by decide)
                  have dd10 : ys 10 = .int .i64 t2 := hd 10 (by kernel_rfl) (by decide)
                  go_simp
                  have hK2 := hK (.int .i64 v2) _ (Below.refl _ _) rfl
                  simp (config := { decide := true }) only [upd, if_true, if_false, dd4, dd10] at hK2
                  exact hK2
                refine ⟨?_, ?_⟩
                · refine SlotStep.lastB (by kernel_rfl) rfl (by decide) (fun A B hb h => h.trans (hb.mono h.size)) (reI_up D E 0 1 0 0 n2 L3 d2 t2 v2) ?_
                  intro ys W hR hd K hK
                  go_simp
                  have hK2 := hK (.pointer (some ⟨E, 0, none⟩)) _ (Below.refl _ _) rfl
                  simp (config := { decide := true }) only [upd, if_true, if_false] at hK2
                  exact hK2
                refine ⟨?_, ?_⟩
                · refine SlotStep.lastB (by kernel_rfl) rfl (by decide) (fun A B hb h => h.trans (hb.mono h.size)) (reI_up D E 0 1 0 0 n2 L3 d2 t2 v2) ?_
                  intro ys W hR hd K hK
                  have dd0 : ys 0 = .int .i64 0 := hd 0 (by kernel_rfl) (by decide)
                  have dd12 : ys 12 = .pointer (some ⟨E, 0, none⟩) := hd 12 (by kernel_rfl) (by decide)
                  go_simp
                  have hK2 := hK (.pointer (some ⟨E, 0, none⟩)) _ (Below.refl _ _) rfl
                  simp (config := { decide := true }) only [upd, if_true, if_false, dd0, dd12] at hK2
                  exact hK2
                refine ⟨?_, ?_⟩
                · refine SlotStep.lastS rfl rfl ?_
                  intro ys W hR hd K hK
                  have dd11 : ys 11 = .int .i64 v2 := hd 11 (by kernel_rfl) (by decide)
                  have dd13 : ys 13 = .pointer (some ⟨E, 0, none⟩) := hd 13 (by kernel_rfl) (by decide)
                  have hh := (hR.block E hz).trans HE.out
                  have f0 := free4_0 hh
                  have g0 := cell4_0 hh
                  go_simp
                  have hK2 := hK undef _ ⟨(HW.out.trans (hR.mono (by omega))).setCell (p := ⟨E, 0, none⟩) (show D ≤ E by omega) _, set4_0 hh, (set_other (by omega)).trans ((hR.block D (by omega)).trans H0.out), (set_other (by omega)).trans ((hR.block (D + 1) (by omega)).trans H1.out)⟩
                  simp (config := { decide := true }) only [upd, if_false, dd11, dd13] at hK2
                  exact hK2
                trivial
                · intro L ys W hL hI
                  have hF := last_end (by decide) hL hI
                  obtain ⟨t1, th2, t3_, t4_⟩ := hF
                  have e0 := cell4_0 th2
                  go_simp
                  by_cases hc : 6000 < v2
                  · obtain ⟨e1, e2, e3, e4, e5⟩ := HL.out (by unfold Iv.inB; simp only [decide_eq_false_iff_not]; omega)
                    subst e1 e2 e3 e4 e5
                    have r0 := cell4_0 t4_
                    have f0 := free4_0 t4_
                    have r1 := cell4_1 t4_
                    have f1 := free4_1 t4_
                    have r2 := cell4_2 t4_
                    have f2 := free4_2 t4_
                    have r3 := cell4_3 t4_
                    have f3 := free4_3 t4_
                    obtain ⟨U, hU⟩ : ∃ U, ((((W.setCell ⟨D + 1, 0, none⟩ (.int .i64 0)).setCell ⟨D + 1, 1, none⟩ (.int .i64 0)).setCell ⟨D + 1, 2, none⟩ (.int .i64 0)).setCell ⟨D + 1, 3, none⟩ (.int .i64 0)) = U := ⟨_, rfl⟩
                    have HW := Lib.hid (show Below D w U by rw [← hU]; exact ((((t1.setCell (p := ⟨D + 1, 0, none⟩) (show D ≤ D + 1 by omega) (.int .i64 0)).setCell (p := ⟨D + 1, 1, none⟩) (show D ≤ D + 1 by omega) (.int .i64 0)).setCell (p := ⟨D + 1, 2, none⟩) (show D ≤ D + 1 by omega) (.int .i64 0)).setCell (p := ⟨D + 1, 3, none⟩) (show D ≤ D + 1 by omega) (.int .i64 0)))
                    have hE : U.heap[D + 1]? = some (.cells #[.int .i64 0, .int .i64 0, .int .i64 0, .int .i64 0] 29) := by rw [← hU]; exact (set4_3 (x := .int .i64 0) (set4_2 (x := .int .i64 0) (set4_1 (x := .int .i64 0) (set4_0 (x := .int .i64 0) t4_))))
                    have HU := Lib.hid hU
                    have z0 := cell4_0 hE
                    have z1 := cell4_1 hE
                    have z2 := cell4_2 hE
                    have z3 := cell4_3 hE
                    clear hE hU 
                    go_wp2
                    rw [HU.out]
                    refine bodyPost_ret (v := .tuple #[.agg #[.int .i64 0, .int .i64 0, .int .i64 0, .int .i64 0], .int .i64 4]) (by simp [results, Tryz.results32, go_sem, z0, z1, z2, z3]) rfl ⟨rfl, by first | exact HW.out | (rw [hD]; exact HW.out)⟩
                  · by_cases hc2 : v2 < -6000
                    · obtain ⟨e1, e2, e3, e4, e5⟩ := HL.out (by unfold Iv.inB; simp only [decide_eq_false_iff_not]; omega)
                      subst e1 e2 e3 e4 e5
                      have r0 := cell4_0 t4_
                      have f0 := free4_0 t4_
                      have r1 := cell4_1 t4_
                      have f1 := free4_1 t4_
                      have r2 := cell4_2 t4_
                      have f2 := free4_2 t4_
                      have r3 := cell4_3 t4_
                      have f3 := free4_3 t4_
                      obtain ⟨U, hU⟩ : ∃ U, ((((W.setCell ⟨D + 1, 0, none⟩ (.int .i64 0)).setCell ⟨D + 1, 1, none⟩ (.int .i64 0)).setCell ⟨D + 1, 2, none⟩ (.int .i64 0)).setCell ⟨D + 1, 3, none⟩ (.int .i64 0)) = U := ⟨_, rfl⟩
                      have HW := Lib.hid (show Below D w U by rw [← hU]; exact ((((t1.setCell (p := ⟨D + 1, 0, none⟩) (show D ≤ D + 1 by omega) (.int .i64 0)).setCell (p := ⟨D + 1, 1, none⟩) (show D ≤ D + 1 by omega) (.int .i64 0)).setCell (p := ⟨D + 1, 2, none⟩) (show D ≤ D + 1 by omega) (.int .i64 0)).setCell (p := ⟨D + 1, 3, none⟩) (show D ≤ D + 1 by omega) (.int .i64 0)))
                      have hE : U.heap[D + 1]? = some (.cells #[.int .i64 0, .int .i64 0, .int .i64 0, .int .i64 0] 29) := by rw [← hU]; exact (set4_3 (x := .int .i64 0) (set4_2 (x := .int .i64 0) (set4_1 (x := .int .i64 0) (set4_0 (x := .int .i64 0) t4_))))
                      have HU := Lib.hid hU
                      have z0 := cell4_0 hE
                      have z1 := cell4_1 hE
                      have z2 := cell4_2 hE
                      have z3 := cell4_3 hE
                      clear hE hU 
                      go_wp2
                      rw [HU.out]
                      refine bodyPost_ret (v := .tuple #[.agg #[.int .i64 0, .int .i64 0, .int .i64 0, .int .i64 0], .int .i64 4]) (by simp [results, Tryz.results32, go_sem, z0, z1, z2, z3]) rfl ⟨rfl, by first | exact HW.out | (rw [hD]; exact HW.out)⟩
                    · have H2 := Lib.hid th2
                      clear th2
                      go_wp2
                      exact ⟨⟨.inr (.inl ⟨rfl, H2.out, by omega, by omega⟩), t1, t3_, t4_⟩, by decide⟩
            · have hz := (Array.getElem?_eq_some_iff.1 h2).1
              have KN := Lib.hid (cell6_2 h0)
              have KD := Lib.hid (cell6_3 h0)
              have HE := Lib.hid h2
              have H0 := Lib.hid h0
              have H1 := Lib.hid h1
              have HW := Lib.hid hw
              clear h0 h1 h2 hw
              go_wp2_with fail
              refine wp_region_slots_at rfl rfl (fun base ys => (((((((((((((base.set 45 (ys 0)).set 46 (ys 1)).set 47 (ys 2)).set 48 (ys 3)).set 49 (ys 4)).set 50 (ys 5)).set 51 (ys 6)).set 52 (ys 7)).set 53 (ys 8)).set 54 (ys 9)).set 55 (ys 10)).set 56 (ys 11)).set 57 (ys 12)).set 58 (ys 13)) (LastI _ (Below wr.heap.size wr) (reI D E 2 3 1 1 n3 L3 d3 t3 v3) (fun A => Below D w A ∧ A.heap[E]? = some (.cells #[.int .i64 v2, .int .i64 v3, .int .i64 0, .int .i64 L3] 29) ∧ A.heap[D]? = some (.cells #[.int .i64 n2, .int .i64 d2, .int .i64 n3, .int .i64 d3, .int .i64 n5, .int .i64 d5] 56) ∧ A.heap[D + 1]? = some (.cells #[.int .i64 0, .int .i64 0, .int .i64 0, .int .i64 0] 29))) (fun | 0 => u45 | 1 => u46 | 2 => u47 | 3 => u48 | 4 => u49 | 5 => u50 | 6 => u51 | 7 => u52 | 8 => u53 | 9 => u54 | 10 => u55 | 11 => u56 | 12 => u57 | 13 => u58 | _ => undef) (by kernel_rfl) (last_start (by decide) ((Below.refl _ _).trans ⟨rfl, rfl, rfl, Nat.le_refl _, fun _ _ => rfl⟩)) ?h
              case h =>
                intro F hF
                simp only [List.set_cons_succ, List.set_cons_zero] at hF
                subst hF
                refine ⟨rfl, ?_, ?_⟩
                refine ⟨?_, ?_⟩
                · refine SlotStep.lastB (by kernel_rfl) rfl (by decide) (fun A B hb h => h.trans (hb.mono h.size)) (reI_up D E 2 3 1 1 n3 L3 d3 t3 v3) ?_
                  intro ys W hR hd K hK
                  go_simp
                  have hK2 := hK (.int .i64 1) _ (Below.refl _ _) rfl
                  simp (config := { decide := true }) only [upd, if_true, if_false] at hK2
                  exact hK2
                refine ⟨?_, ?_⟩
                · refine SlotStep.lastB (by kernel_rfl) rfl (by decide) (fun A B hb h => h.trans (hb.mono h.size)) (reI_up D E 2 3 1 1 n3 L3 d3 t3 v3) ?_
                  intro ys W hR hd K hK
                  go_simp
                  have hK2 := hK (.int .i64 1) _ (Below.refl _ _) rfl
                  simp (config := { decide := true }) only [upd, if_true, if_false] at hK2
                  exact hK2
                refine ⟨?_, ?_⟩
                · refine SlotStep.lastB (by kernel_rfl) rfl (by decide) (fun A B hb h => h.trans (hb.mono h.size)) (reI_up D E 2 3 1 1 n3 L3 d3 t3 v3) ?_
                  intro ys W hR hd K hK
                  have dd1 : ys 1 = .int .i64 1 := hd 1 (by kernel_rfl) (by decide)
                  go_simp
                  have hK2 := hK (.pointer (some ⟨D, 2, none⟩)) _ (Below.refl _ _) rfl
                  simp (config := { decide := true }) only [upd, if_true, if_false, dd1] at hK2
                  exact hK2
                refine ⟨?_, ?_⟩
                · refine SlotStep.lastB (by kernel_rfl) rfl (by decide) (fun A B hb h => h.trans (hb.mono h.size)) (reI_up D E 2 3 1 1 n3 L3 d3 t3 v3) ?_
                  intro ys W hR hd K hK
                  have dd2 : ys 2 = .pointer (some ⟨D, 2, none⟩) := hd 2 (by kernel_rfl) (by decide)
                  go_simp
                  have hK2 := hK (.pointer (some ⟨D, 2, none⟩)) _ (Below.refl _ _) rfl
                  simp (config := { decide := true }) only [upd, if_true, if_false, dd2] at hK2
                  exact hK2
                refine ⟨?_, ?_⟩
                · refine SlotStep.lastB (by kernel_rfl) rfl (by decide) (fun A B hb h => h.trans (hb.mono h.size)) (reI_up D E 2 3 1 1 n3 L3 d3 t3 v3) ?_
                  intro ys W hR hd K hK
                  have dd3 : ys 3 = .pointer (some ⟨D, 2, none⟩) := hd 3 (by kernel_rfl) (by decide)
                  have c0 := (hR.cell (p := ⟨D, 2, none⟩) (by show D < wr.heap.size; omega)).trans KN.out
                  go_simp
                  have hK2 := hK (.int .i64 n3) _ (Below.refl _ _) rfl
                  simp (config := { decide := true }) only [upd, if_true, if_false, dd3] at hK2
                  exact hK2
                refine ⟨?_, ?_⟩
                · refine SlotStep.lastB (by kernel_rfl) rfl (by decide) (fun A B hb h => h.trans (hb.mono h.size)) (reI_up D E 2 3 1 1 n3 L3 d3 t3 v3) ?_
                  intro ys W hR hd K hK
                  go_simp
                  have hK2 := hK (.int .i64 L3) _ (Below.refl _ _) rfl
                  simp (config := { decide := true }) only [upd, if_true, if_false] at hK2
                  exact hK2
                refine ⟨?_, ?_⟩
                · refine SlotStep.lastB (by kernel_rfl) rfl (by decide) (fun A B hb h => h.trans (hb.mono h.size)) (reI_up D E 2 3 1 1 n3 L3 d3 t3 v3) ?_
                  intro ys W hR hd K hK
                  go_simp
                  have hK2 := hK (.int .i64 1) _ (Below.refl _ _) rfl
                  simp (config := { decide := true }) only [upd, if_true, if_false] at hK2
                  exact hK2
                refine ⟨?_, ?_⟩
                · refine SlotStep.lastB (by kernel_rfl) rfl (by decide) (fun A B hb h => h.trans (hb.mono h.size)) (reI_up D E 2 3 1 1 n3 L3 d3 t3 v3) ?_
                  intro ys W hR hd K hK
                  have dd6 : ys 6 = .int .i64 1 := hd 6 (by kernel_rfl) (by decide)
                  go_simp
                  have hK2 := hK (.pointer (some ⟨D, 2, none⟩)) _ (Below.refl _ _) rfl
                  simp (config := { decide := true }) only [upd, if_true, if_false, dd6] at hK2
                  exact hK2
                refine ⟨?_, ?_⟩
                · refine SlotStep.lastB (by kernel_rfl) rfl (by decide) (fun A B hb h => h.trans (hb.mono h.size)) (reI_up D E 2 3 1 1 n3 L3 d3 t3 v3) ?_
                  intro ys W hR hd K hK
                  have dd7 : ys 7 = .pointer (some ⟨D, 2, none⟩) := hd 7 (by kernel_rfl) (by decide)
                  go_simp
                  have hK2 := hK (.pointer (some ⟨D, 3, none⟩)) _ (Below.refl _ _) rfl
                  simp (config := { decide := true }) only [upd, if_true, if_false, dd7] at hK2
                  exact hK2
                refine ⟨?_, ?_⟩
                · refine SlotStep.lastB (by kernel_rfl) rfl (by decide) (fun A B hb h => h.trans (hb.mono h.size)) (reI_up D E 2 3 1 1 n3 L3 d3 t3 v3) ?_
                  intro ys W hR hd K hK
                  have dd8 : ys 8 = .pointer (some ⟨D, 3, none⟩) := hd 8 (by kernel_rfl) (by decide)
                  have c0 := (hR.cell (p := ⟨D, 3, none⟩) (by show D < wr.heap.size; omega)).trans KD.out
                  go_simp
                  have hK2 := hK (.int .i64 d3) _ (Below.refl _ _) rfl
                  simp (config := { decide := true }) only [upd, if_true, if_false, dd8] at hK2
                  exact hK2
                refine ⟨?_, ?_⟩
                · refine SlotStep.lastB (by kernel_rfl) rfl (by decide) (fun A B hb h => h.trans (hb.mono h.size)) (reI_up D E 2 3 1 1 n3 L3 d3 t3 v3) ?_
                  intro ys W hR hd K hK
                  have dd5 : ys 5 = .int .i64 L3 := hd 5 (by kernel_rfl) (by decide)
                  have dd9 : ys 9 = .int .i64 d3 := hd 9 (by kernel_rfl) (by decide)
                  go_simp
                  have hK2 := hK (.int .i64 t3) _ (Below.refl _ _) rfl
                  simp (config := { decide := true }) only [upd, if_true, if_false, dd5, dd9] at hK2
                  exact hK2
                refine ⟨?_, ?_⟩
                · refine SlotStep.lastB (by kernel_rfl) rfl (by decide) (fun A B hb h => h.trans (hb.mono h.size)) (reI_up D E 2 3 1 1 n3 L3 d3 t3 v3) ?_
                  intro ys W hR hd K hK
                  have dd4 : ys 4 = .int .i64 n3 := hd 4 (by kernel_rfl) (by decide)
                  have dd10 : ys 10 = .int .i64 t3 := hd 10 (by kernel_rfl) (by decide)
                  go_simp
                  have hK2 := hK (.int .i64 v3) _ (Below.refl _ _) rfl
                  simp (config := { decide := true }) only [upd, if_true, if_false, dd4, dd10] at hK2
                  exact hK2
                refine ⟨?_, ?_⟩
                · refine SlotStep.lastB (by kernel_rfl) rfl (by decide) (fun A B hb h => h.trans (hb.mono h.size)) (reI_up D E 2 3 1 1 n3 L3 d3 t3 v3) ?_
                  intro ys W hR hd K hK
                  go_simp
                  have hK2 := hK (.pointer (some ⟨E, 0, none⟩)) _ (Below.refl _ _) rfl
                  simp (config := { decide := true }) only [upd, if_true, if_false] at hK2
                  exact hK2
                refine ⟨?_, ?_⟩
                · refine SlotStep.lastB (by kernel_rfl) rfl (by decide) (fun A B hb h => h.trans (hb.mono h.size)) (reI_up D E 2 3 1 1 n3 L3 d3 t3 v3) ?_
                  intro ys W hR hd K hK
                  have dd0 : ys 0 = .int .i64 1 := hd 0 (by kernel_rfl) (by decide)
                  have dd12 : ys 12 = .pointer (some ⟨E, 0, none⟩) := hd 12 (by kernel_rfl) (by decide)
                  go_simp
                  have hK2 := hK (.pointer (some ⟨E, 1, none⟩)) _ (Below.refl _ _) rfl
                  simp (config := { decide := true }) only [upd, if_true, if_false, dd0, dd12] at hK2
                  exact hK2
                refine ⟨?_, ?_⟩
                · refine SlotStep.lastS rfl rfl ?_
                  intro ys W hR hd K hK
                  have dd11 : ys 11 = .int .i64 v3 := hd 11 (by kernel_rfl) (by decide)
                  have dd13 : ys 13 = .pointer (some ⟨E, 1, none⟩) := hd 13 (by kernel_rfl) (by decide)
                  have hh := (hR.block E hz).trans HE.out
                  have f0 := free4_1 hh
                  have g0 := cell4_1 hh
                  go_simp
                  have hK2 := hK undef _ ⟨(HW.out.trans (hR.mono (by omega))).setCell (p := ⟨E, 1, none⟩) (show D ≤ E by omega) _, set4_1 hh, (set_other (by omega)).trans ((hR.block D (by omega)).trans H0.out), (set_other (by omega)).trans ((hR.block (D + 1) (by omega)).trans H1.out)⟩
                  simp (config := { decide := true }) only [upd, if_false, dd11, dd13] at hK2
                  exact hK2
                trivial
                · intro L ys W hL hI
                  have hF := last_end (by decide) hL hI
                  obtain ⟨t1, th2, t3_, t4_⟩ := hF
                  have e0 := cell4_1 th2
                  go_simp
                  by_cases hc : 6000 < v3
                  · obtain ⟨e1, e2, e3, e4, e5⟩ := HL.out (by unfold Iv.inB; simp only [decide_eq_false_iff_not]; omega)
                    subst e1 e2 e3 e4 e5
                    have r0 := cell4_0 t4_
                    have f0 := free4_0 t4_
                    have r1 := cell4_1 t4_
                    have f1 := free4_1 t4_
                    have r2 := cell4_2 t4_
                    have f2 := free4_2 t4_
                    have r3 := cell4_3 t4_
                    have f3 := free4_3 t4_
                    obtain ⟨U, hU⟩ : ∃ U, ((((W.setCell ⟨D + 1, 0, none⟩ (.int .i64 0)).setCell ⟨D + 1, 1, none⟩ (.int .i64 0)).setCell ⟨D + 1, 2, none⟩ (.int .i64 0)).setCell ⟨D + 1, 3, none⟩ (.int .i64 0)) = U := ⟨_, rfl⟩
                    have HW := Lib.hid (show Below D w U by rw [← hU]; exact ((((t1.setCell (p := ⟨D + 1, 0, none⟩) (show D ≤ D + 1 by omega) (.int .i64 0)).setCell (p := ⟨D + 1, 1, none⟩) (show D ≤ D + 1 by omega) (.int .i64 0)).setCell (p := ⟨D + 1, 2, none⟩) (show D ≤ D + 1 by omega) (.int .i64 0)).setCell (p := ⟨D + 1, 3, none⟩) (show D ≤ D + 1 by omega) (.int .i64 0)))
                    have hE : U.heap[D + 1]? = some (.cells #[.int .i64 0, .int .i64 0, .int .i64 0, .int .i64 0] 29) := by rw [← hU]; exact (set4_3 (x := .int .i64 0) (set4_2 (x := .int .i64 0) (set4_1 (x := .int .i64 0) (set4_0 (x := .int .i64 0) t4_))))
                    have HU := Lib.hid hU
                    have z0 := cell4_0 hE
                    have z1 := cell4_1 hE
                    have z2 := cell4_2 hE
                    have z3 := cell4_3 hE
                    clear hE hU 
                    go_wp2
                    rw [HU.out]
                    refine bodyPost_ret (v := .tuple #[.agg #[.int .i64 0, .int .i64 0, .int .i64 0, .int .i64 0], .int .i64 4]) (by simp [results, Tryz.results32, go_sem, z0, z1, z2, z3]) rfl ⟨rfl, by first | exact HW.out | (rw [hD]; exact HW.out)⟩
                  · by_cases hc2 : v3 < -6000
                    · obtain ⟨e1, e2, e3, e4, e5⟩ := HL.out (by unfold Iv.inB; simp only [decide_eq_false_iff_not]; omega)
                      subst e1 e2 e3 e4 e5
                      have r0 := cell4_0 t4_
                      have f0 := free4_0 t4_
                      have r1 := cell4_1 t4_
                      have f1 := free4_1 t4_
                      have r2 := cell4_2 t4_
                      have f2 := free4_2 t4_
                      have r3 := cell4_3 t4_
                      have f3 := free4_3 t4_
                      obtain ⟨U, hU⟩ : ∃ U, ((((W.setCell ⟨D + 1, 0, none⟩ (.int .i64 0)).setCell ⟨D + 1, 1, none⟩ (.int .i64 0)).setCell ⟨D + 1, 2, none⟩ (.int .i64 0)).setCell ⟨D + 1, 3, none⟩ (.int .i64 0)) = U := ⟨_, rfl⟩
                      have HW := Lib.hid (show Below D w U by rw [← hU]; exact ((((t1.setCell (p := ⟨D + 1, 0, none⟩) (show D ≤ D + 1 by omega) (.int .i64 0)).setCell (p := ⟨D + 1, 1, none⟩) (show D ≤ D + 1 by omega) (.int .i64 0)).setCell (p := ⟨D + 1, 2, none⟩) (show D ≤ D + 1 by omega) (.int .i64 0)).setCell (p := ⟨D + 1, 3, none⟩) (show D ≤ D + 1 by omega) (.int .i64 0)))
                      have hE : U.heap[D + 1]? = some (.cells #[.int .i64 0, .int .i64 0, .int .i64 0, .int .i64 0] 29) := by rw [← hU]; exact (set4_3 (x := .int .i64 0) (set4_2 (x := .int .i64 0) (set4_1 (x := .int .i64 0) (set4_0 (x := .int .i64 0) t4_))))
                      have HU := Lib.hid hU
                      have z0 := cell4_0 hE
                      have z1 := cell4_1 hE
                      have z2 := cell4_2 hE
                      have z3 := cell4_3 hE
                      clear hE hU 
                      go_wp2
                      rw [HU.out]
                      refine bodyPost_ret (v := .tuple #[.agg #[.int .i64 0, .int .i64 0, .int .i64 0, .int .i64 0], .int .i64 4]) (by simp [results, Tryz.results32, go_sem, z0, z1, z2, z3]) rfl ⟨rfl, by first | exact HW.out | (rw [hD]; exact HW.out)⟩
                    · have H2 := Lib.hid th2
                      clear th2
                      go_wp2
                      exact ⟨⟨.inr (.inr (.inl ⟨rfl, H2.out, by omega, by omega, by omega, by omega⟩)), t1, t3_, t4_⟩, by decide⟩
            · have hz := (Array.getElem?_eq_some_iff.1 h2).1
              have KN := Lib.hid (cell6_4 h0)
              have KD := Lib.hid (cell6_5 h0)
              have HE := Lib.hid h2
              have H0 := Lib.hid h0
              have H1 := Lib.hid h1
              have HW := Lib.hid hw
              clear h0 h1 h2 hw
              go_wp2_with fail
              refine wp_region_slots_at rfl rfl (fun base ys => (((((((((((((base.set 45 (ys 0)).set 46 (ys 1)).set 47 (ys 2)).set 48 (ys 3)).set 49 (ys 4)).set 50 (ys 5)).set 51 (ys 6)).set 52 (ys 7)).set 53 (ys 8)).set 54 (ys 9)).set 55 (ys 10)).set 56 (ys 11)).set 57 (ys 12)).set 58 (ys 13)) (LastI _ (Below wr.heap.size wr) (reI D E 4 5 2 2 n5 L3 d5 t5 v5) (fun A => Below D w A ∧ A.heap[E]? = some (.cells #[.int .i64 v2, .int .i64 v3, .int .i64 v5, .int .i64 L3] 29) ∧ A.heap[D]? = some (.cells #[.int .i64 n2, .int .i64 d2, .int .i64 n3, .int .i64 d3, .int .i64 n5, .int .i64 d5] 56) ∧ A.heap[D + 1]? = some (.cells #[.int .i64 0, .int .i64 0, .int .i64 0, .int .i64 0] 29))) (fun | 0 => u45 | 1 => u46 | 2 => u47 | 3 => u48 | 4 => u49 | 5 => u50 | 6 => u51 | 7 => u52 | 8 => u53 | 9 => u54 | 10 => u55 | 11 => u56 | 12 => u57 | 13 => u58 | _ => undef) (by kernel_rfl) (last_start (by decide) ((Below.refl _ _).trans ⟨rfl, rfl, rfl, Nat.le_refl _, fun _ _ => rfl⟩)) ?h
              case h =>
                intro F hF
                simp only [List.set_cons_succ, List.set_cons_zero] at hF
                subst hF
                refine ⟨rfl, ?_, ?_⟩
                refine ⟨?_, ?_⟩
                · refine SlotStep.lastB (by kernel_rfl) rfl (by decide) (fun A B hb h => h.trans (hb.mono h.size)) (reI_up D E 4 5 2 2 n5 L3 d5 t5 v5) ?_
                  intro ys W hR hd K hK
                  go_simp
                  have hK2 := hK (.int .i64 2) _ (Below.refl _ _) rfl
                  simp (config := { decide := true }) only [upd, if_true, if_false] at hK2
                  exact hK2
                refine ⟨?_, ?_⟩
                · refine SlotStep.lastB (by kernel_rfl) rfl (by decide) (fun A B hb h => h.trans (hb.mono h.size)) (reI_up D E 4 5 2 2 n5 L3 d5 t5 v5) ?_
                  intro ys W hR hd K hK
                  go_simp
                  have hK2 := hK (.int .i64 2) _ (Below.refl _ _) rfl
                  simp (config := { decide := true }) only [upd, if_true, if_false] at hK2
                  exact hK2
                refine ⟨?_, ?_⟩
                · refine SlotStep.lastB (by kernel_rfl) rfl (by decide) (fun A B hb h => h.trans (hb.mono h.size)) (reI_up D E 4 5 2 2 n5 L3 d5 t5 v5) ?_
                  intro ys W hR hd K hK
                  have dd1 : ys 1 = .int .i64 2 := hd 1 (by kernel_rfl) (by decide)
                  go_simp
                  have hK2 := hK (.pointer (some ⟨D, 4, none⟩)) _ (Below.refl _ _) rfl
                  simp (config := { decide := true }) only [upd, if_true, if_false, dd1] at hK2
                  exact hK2
                refine ⟨?_, ?_⟩
                · refine SlotStep.lastB (by kernel_rfl) rfl (by decide) (fun A B hb h => h.trans (hb.mono h.size)) (reI_up D E 4 5 2 2 n5 L3 d5 t5 v5) ?_
                  intro ys W hR hd K hK
                  have dd2 : ys 2 = .pointer (some ⟨D, 4, none⟩) := hd 2 (by kernel_rfl) (by decide)
                  go_simp
                  have hK2 := hK (.pointer (some ⟨D, 4, none⟩)) _ (Below.refl _ _) rfl
                  simp (config := { decide := true }) only [upd, if_true, if_false, dd2] at hK2
                  exact hK2
                refine ⟨?_, ?_⟩
                · refine SlotStep.lastB (by kernel_rfl) rfl (by decide) (fun A B hb h => h.trans (hb.mono h.size)) (reI_up D E 4 5 2 2 n5 L3 d5 t5 v5) ?_
                  intro ys W hR hd K hK
                  have dd3 : ys 3 = .pointer (some ⟨D, 4, none⟩) := hd 3 (by kernel_rfl) (by decide)
                  have c0 := (hR.cell (p := ⟨D, 4, none⟩) (by show D < wr.heap.size; omega)).trans KN.out
                  go_simp
                  have hK2 := hK (.int .i64 n5) _ (Below.refl _ _) rfl
                  simp (config := { decide := true }) only [upd, if_true, if_false, dd3] at hK2
                  exact hK2
                refine ⟨?_, ?_⟩
                · refine SlotStep.lastB (by kernel_rfl) rfl (by decide) (fun A B hb h => h.trans (hb.mono h.size)) (reI_up D E 4 5 2 2 n5 L3 d5 t5 v5) ?_
                  intro ys W hR hd K hK
                  go_simp
                  have hK2 := hK (.int .i64 L3) _ (Below.refl _ _) rfl
                  simp (config := { decide := true }) only [upd, if_true, if_false] at hK2
                  exact hK2
                refine ⟨?_, ?_⟩
                · refine SlotStep.lastB (by kernel_rfl) rfl (by decide) (fun A B hb h => h.trans (hb.mono h.size)) (reI_up D E 4 5 2 2 n5 L3 d5 t5 v5) ?_
                  intro ys W hR hd K hK
                  go_simp
                  have hK2 := hK (.int .i64 2) _ (Below.refl _ _) rfl
                  simp (config := { decide := true }) only [upd, if_true, if_false] at hK2
                  exact hK2
                refine ⟨?_, ?_⟩
                · refine SlotStep.lastB (by kernel_rfl) rfl (by decide) (fun A B hb h => h.trans (hb.mono h.size)) (reI_up D E 4 5 2 2 n5 L3 d5 t5 v5) ?_
                  intro ys W hR hd K hK
                  have dd6 : ys 6 = .int .i64 2 := hd 6 (by kernel_rfl) (by decide)
                  go_simp
                  have hK2 := hK (.pointer (some ⟨D, 4, none⟩)) _ (Below.refl _ _) rfl
                  simp (config := { decide := true }) only [upd, if_true, if_false, dd6] at hK2
                  exact hK2
                refine ⟨?_, ?_⟩
                · refine SlotStep.lastB (by kernel_rfl) rfl (by decide) (fun A B hb h => h.trans (hb.mono h.size)) (reI_up D E 4 5 2 2 n5 L3 d5 t5 v5) ?_
                  intro ys W hR hd K hK
                  have dd7 : ys 7 = .pointer (some ⟨D, 4, none⟩) := hd 7 (by kernel_rfl) (by decide)
                  go_simp
                  have hK2 := hK (.pointer (some ⟨D, 5, none⟩)) _ (Below.refl _ _) rfl
                  simp (config := { decide := true }) only [upd, if_true, if_false, dd7] at hK2
                  exact hK2
                refine ⟨?_, ?_⟩
                · refine SlotStep.lastB (by kernel_rfl) rfl (by decide) (fun A B hb h => h.trans (hb.mono h.size)) (reI_up D E 4 5 2 2 n5 L3 d5 t5 v5) ?_
                  intro ys W hR hd K hK
                  have dd8 : ys 8 = .pointer (some ⟨D, 5, none⟩) := hd 8 (by kernel_rfl) (by decide)
                  have c0 := (hR.cell (p := ⟨D, 5, none⟩) (by show D < wr.heap.size; omega)).trans KD.out
                  go_simp
                  have hK2 := hK (.int .i64 d5) _ (Below.refl _ _) rfl
                  simp (config := { decide := true }) only [upd, if_true, if_false, dd8] at hK2
                  exact hK2
                refine ⟨?_, ?_⟩
                · refine SlotStep.lastB (by kernel_rfl) rfl (by decide) (fun A B hb h => h.trans (hb.mono h.size)) (reI_up D E 4 5 2 2 n5 L3 d5 t5 v5) ?_
                  intro ys W hR hd K hK
                  have dd5 : ys 5 = .int .i64 L3 := hd 5 (by kernel_rfl) (by decide)
                  have dd9 : ys 9 = .int .i64 d5 := hd 9 (by kernel_rfl) (by decide)
                  go_simp
                  have hK2 := hK (.int .i64 t5) _ (Below.refl _ _) rfl
                  simp (config := { decide := true }) only [upd, if_true, if_false, dd5, dd9] at hK2
                  exact hK2
                refine ⟨?_, ?_⟩
                · refine SlotStep.lastB (by kernel_rfl) rfl (by decide) (fun A B hb h => h.trans (hb.mono h.size)) (reI_up D E 4 5 2 2 n5 L3 d5 t5 v5) ?_
                  intro ys W hR hd K hK
                  have dd4 : ys 4 = .int .i64 n5 := hd 4 (by kernel_rfl) (by decide)
                  have dd10 : ys 10 = .int .i64 t5 := hd 10 (by kernel_rfl) (by decide)
                  go_simp
                  have hK2 := hK (.int .i64 v5) _ (Below.refl _ _) rfl
                  simp (config := { decide := true }) only [upd, if_true, if_false, dd4, dd10] at hK2
                  exact hK2
                refine ⟨?_, ?_⟩
                · refine SlotStep.lastB (by kernel_rfl) rfl (by decide) (fun A B hb h => h.trans (hb.mono h.size)) (reI_up D E 4 5 2 2 n5 L3 d5 t5 v5) ?_
                  intro ys W hR hd K hK
                  go_simp
                  have hK2 := hK (.pointer (some ⟨E, 0, none⟩)) _ (Below.refl _ _) rfl
                  simp (config := { decide := true }) only [upd, if_true, if_false] at hK2
                  exact hK2
                refine ⟨?_, ?_⟩
                · refine SlotStep.lastB (by kernel_rfl) rfl (by decide) (fun A B hb h => h.trans (hb.mono h.size)) (reI_up D E 4 5 2 2 n5 L3 d5 t5 v5) ?_
                  intro ys W hR hd K hK
                  have dd0 : ys 0 = .int .i64 2 := hd 0 (by kernel_rfl) (by decide)
                  have dd12 : ys 12 = .pointer (some ⟨E, 0, none⟩) := hd 12 (by kernel_rfl) (by decide)
                  go_simp
                  have hK2 := hK (.pointer (some ⟨E, 2, none⟩)) _ (Below.refl _ _) rfl
                  simp (config := { decide := true }) only [upd, if_true, if_false, dd0, dd12] at hK2
                  exact hK2
                refine ⟨?_, ?_⟩
                · refine SlotStep.lastS rfl rfl ?_
                  intro ys W hR hd K hK
                  have dd11 : ys 11 = .int .i64 v5 := hd 11 (by kernel_rfl) (by decide)
                  have dd13 : ys 13 = .pointer (some ⟨E, 2, none⟩) := hd 13 (by kernel_rfl) (by decide)
                  have hh := (hR.block E hz).trans HE.out
                  have f0 := free4_2 hh
                  have g0 := cell4_2 hh
                  go_simp
                  have hK2 := hK undef _ ⟨(HW.out.trans (hR.mono (by omega))).setCell (p := ⟨E, 2, none⟩) (show D ≤ E by omega) _, set4_2 hh, (set_other (by omega)).trans ((hR.block D (by omega)).trans H0.out), (set_other (by omega)).trans ((hR.block (D + 1) (by omega)).trans H1.out)⟩
                  simp (config := { decide := true }) only [upd, if_false, dd11, dd13] at hK2
                  exact hK2
                trivial
                · intro L ys W hL hI
                  have hF := last_end (by decide) hL hI
                  obtain ⟨t1, th2, t3_, t4_⟩ := hF
                  have e0 := cell4_2 th2
                  go_simp
                  by_cases hc : 6000 < v5
                  · obtain ⟨e1, e2, e3, e4, e5⟩ := HL.out (by unfold Iv.inB; simp only [decide_eq_false_iff_not]; omega)
                    subst e1 e2 e3 e4 e5
                    have r0 := cell4_0 t4_
                    have f0 := free4_0 t4_
                    have r1 := cell4_1 t4_
                    have f1 := free4_1 t4_
                    have r2 := cell4_2 t4_
                    have f2 := free4_2 t4_
                    have r3 := cell4_3 t4_
                    have f3 := free4_3 t4_
                    obtain ⟨U, hU⟩ : ∃ U, ((((W.setCell ⟨D + 1, 0, none⟩ (.int .i64 0)).setCell ⟨D + 1, 1, none⟩ (.int .i64 0)).setCell ⟨D + 1, 2, none⟩ (.int .i64 0)).setCell ⟨D + 1, 3, none⟩ (.int .i64 0)) = U := ⟨_, rfl⟩
                    have HW := Lib.hid (show Below D w U by rw [← hU]; exact ((((t1.setCell (p := ⟨D + 1, 0, none⟩) (show D ≤ D + 1 by omega) (.int .i64 0)).setCell (p := ⟨D + 1, 1, none⟩) (show D ≤ D + 1 by omega) (.int .i64 0)).setCell (p := ⟨D + 1, 2, none⟩) (show D ≤ D + 1 by omega) (.int .i64 0)).setCell (p := ⟨D + 1, 3, none⟩) (show D ≤ D + 1 by omega) (.int .i64 0)))
                    have hE : U.heap[D + 1]? = some (.cells #[.int .i64 0, .int .i64 0, .int .i64 0, .int .i64 0] 29) := by rw [← hU]; exact (set4_3 (x := .int .i64 0) (set4_2 (x := .int .i64 0) (set4_1 (x := .int .i64 0) (set4_0 (x := .int .i64 0) t4_))))
                    have HU := Lib.hid hU
                    have z0 := cell4_0 hE
                    have z1 := cell4_1 hE
                    have z2 := cell4_2 hE
                    have z3 := cell4_3 hE
                    clear hE hU 
                    go_wp2
                    rw [HU.out]
                    refine bodyPost_ret (v := .tuple #[.agg #[.int .i64 0, .int .i64 0, .int .i64 0, .int .i64 0], .int .i64 4]) (by simp [results, Tryz.results32, go_sem, z0, z1, z2, z3]) rfl ⟨rfl, by first | exact HW.out | (rw [hD]; exact HW.out)⟩
                  · by_cases hc2 : v5 < -6000
                    · obtain ⟨e1, e2, e3, e4, e5⟩ := HL.out (by unfold Iv.inB; simp only [decide_eq_false_iff_not]; omega)
                      subst e1 e2 e3 e4 e5
                      have r0 := cell4_0 t4_
                      have f0 := free4_0 t4_
                      have r1 := cell4_1 t4_
                      have f1 := free4_1 t4_
                      have r2 := cell4_2 t4_
                      have f2 := free4_2 t4_
                      have r3 := cell4_3 t4_
                      have f3 := free4_3 t4_
                      obtain ⟨U, hU⟩ : ∃ U, ((((W.setCell ⟨D + 1, 0, none⟩ (.int .i64 0)).setCell ⟨D + 1, 1, none⟩ (.int .i64 0)).setCell ⟨D + 1, 2, none⟩ (.int .i64 0)).setCell ⟨D + 1, 3, none⟩ (.int .i64 0)) = U := ⟨_, rfl⟩
                      have HW := Lib.hid (show Below D w U by rw [← hU]; exact ((((t1.setCell (p := ⟨D + 1, 0, none⟩) (show D ≤ D + 1 by omega) (.int .i64 0)).setCell (p := ⟨D + 1, 1, none⟩) (show D ≤ D + 1 by omega) (.int .i64 0)).setCell (p := ⟨D + 1, 2, none⟩) (show D ≤ D + 1 by omega) (.int .i64 0)).setCell (p := ⟨D + 1, 3, none⟩) (show D ≤ D + 1 by omega) (.int .i64 0)))
                      have hE : U.heap[D + 1]? = some (.cells #[.int .i64 0, .int .i64 0, .int .i64 0, .int .i64 0] 29) := by rw [← hU]; exact (set4_3 (x := .int .i64 0) (set4_2 (x := .int .i64 0) (set4_1 (x := .int .i64 0) (set4_0 (x := .int .i64 0) t4_))))
                      have HU := Lib.hid hU
                      have z0 := cell4_0 hE
                      have z1 := cell4_1 hE
                      have z2 := cell4_2 hE
                      have z3 := cell4_3 hE
                      clear hE hU 
                      go_wp2
                      rw [HU.out]
                      refine bodyPost_ret (v := .tuple #[.agg #[.int .i64 0, .int .i64 0, .int .i64 0, .int .i64 0], .int .i64 4]) (by simp [results, Tryz.results32, go_sem, z0, z1, z2, z3]) rfl ⟨rfl, by first | exact HW.out | (rw [hD]; exact HW.out)⟩
                    · have H2 := Lib.hid th2
                      clear th2
                      go_wp2
                      exact ⟨⟨.inr (.inr (.inr ⟨rfl, H2.out, by omega, by omega, by omega, by omega, by omega, by omega⟩)), t1, t3_, t4_⟩, by decide⟩
            · obtain ⟨e1, e2, e3, e4, e5⟩ := HGD.out (by unfold Iv.inB; simp only [decide_eq_true_eq]; omega)
              replace e1 := e1.symm
              replace e2 := e2.symm
              replace e3 := e3.symm
              replace e4 := e4.symm
              subst e1 e2 e3 e4 e5
              have c0 := cell4_0 h2
              have r0 := cell4_0 h1
              have f0 := free4_0 h1
              have c1 := cell4_1 h2
              have r1 := cell4_1 h1
              have f1 := free4_1 h1
              have c2 := cell4_2 h2
              have r2 := cell4_2 h1
              have f2 := free4_2 h1
              have c3 := cell4_3 h2
              have r3 := cell4_3 h1
              have f3 := free4_3 h1
              obtain ⟨U, hU⟩ : ∃ U, ((((wr.setCell ⟨D + 1, 0, none⟩ (.int .i64 v2)).setCell ⟨D + 1, 1, none⟩ (.int .i64 v3)).setCell ⟨D + 1, 2, none⟩ (.int .i64 v5)).setCell ⟨D + 1, 3, none⟩ (.int .i64 L3)) = U := ⟨_, rfl⟩
              have HW := Lib.hid (show Below D w U by rw [← hU]; exact ((((hw.setCell (p := ⟨D + 1, 0, none⟩) (show D ≤ D + 1 by omega) (.int .i64 v2)).setCell (p := ⟨D + 1, 1, none⟩) (show D ≤ D + 1 by omega) (.int .i64 v3)).setCell (p := ⟨D + 1, 2, none⟩) (show D ≤ D + 1 by omega) (.int .i64 v5)).setCell (p := ⟨D + 1, 3, none⟩) (show D ≤ D + 1 by omega) (.int .i64 L3)))
              have hE4 : U.heap[D + 1]? = some (.cells #[.int .i64 v2, .int .i64 v3, .int .i64 v5, .int .i64 L3] 29) := by rw [← hU]; exact (set4_3 (x := .int .i64 L3) (set4_2 (x := .int .i64 v5) (set4_1 (x := .int .i64 v3) (set4_0 (x := .int .i64 v2) h1))))
              have HU := Lib.hid hU
              have z0 := cell4_0 hE4
              have z1 := cell4_1 hE4
              have z2 := cell4_2 hE4
              have z3 := cell4_3 hE4
              clear hE4 hU h0 h1 h2 hw
              go_wp2
              rw [HU.out]
              refine bodyPost_ret (v := .tuple #[.agg #[.int .i64 v2, .int .i64 v3, .int .i64 v5, .int .i64 L3], .int .i64 0]) (by simp [results, Tryz.results32, go_sem, z0, z1, z2, z3]) rfl ⟨rfl, by first | exact HW.out | (rw [hD]; exact HW.out)⟩
end Go.Proofs.YthdoadkdofgenaaGreatDoor
