/- The walk of IntervalScales. -/
import Derived.Test.YthdoadkdofgenaaGreatDoorIvZ
namespace Go.Proofs.YthdoadkdofgenaaGreatDoor
open Go Go.RowKit Go.Shelf

theorem sz_notok {a b c : Int} {D : Nat} (h : Iv.okB a b c D = false) (x : Int) : szN x a b c D = 0 ∧ szD x a b c D = 0 ∧ szE a b c D = 4 := by
  unfold szN szD szE
  rw [h]
  exact ⟨rfl, rfl, rfl⟩
theorem sz_bad {a b c : Int} {D : Nat} (hD : 0 < D) (h : (FracMath.rightB (FracMath.qn a D) (FracMath.qd a D) && FracMath.rightB (FracMath.qn b D) (FracMath.qd b D) && FracMath.rightB (FracMath.qn c D) (FracMath.qd c D)) = false) : Iv.okB a b c D = false := by
  cases hk : Iv.okB a b c D with
  | false => rfl
  | true =>
    have h1 := (Iv.rd_write (a := a) (b := b) (c := c) hD).2 hk
    have h2 := (rd_bad _ _ _ _ _ _ h).2.2.2.2
    omega
set_option maxRecDepth 100000 in
set_option maxHeartbeats 8000000 in
theorem scales_walk (x0 x1 x2 x3 x4 x5 k l : Int) (w : World) (G : Gi w) (N : Nm w) :
    Calls Tryz.prog 6 #[.agg #[.int .i64 x0, .int .i64 x1, .int .i64 x2, .int .i64 x3, .int .i64 x4, .int .i64 x5], .agg #[.int .i64 k, .int .i64 l]] w fun e w' => e = .returned (.bool true) ∧ Below w.heap.size w w' := by
  have KN := Lib.hid (fun W (G : Gi W) (N : Nm W) => lknown_any W G N)
  have RX := Lib.hid (fun W => lread_any x0 x1 x2 x3 x4 x5 W)
  have RF := Lib.hid (fun W => rright_any k l W)
  have hez := eq_size 0 0 0 0 0 0
  obtain ⟨D, hD⟩ : ∃ D, w.heap.size = D := ⟨_, rfl⟩
  by_cases hx : Iv.rdE x0 x1 x2 x3 x4 x5 = 0
  · by_cases hr : FracMath.rightB k l = true
    · obtain ⟨d, ed, hd1, hd2⟩ := rd_nat x0 x1 x2 x3 x4 x5 hx
      have bx := rd_bounds x0 x1 x2 x3 x4 x5
      obtain ⟨k1, k2, l1, l2, _⟩ := FracMath.right_of hr
      obtain ⟨m, hm⟩ : ∃ m : Nat, l = (m : Int) := ⟨l.natAbs, by omega⟩
      subst hm
      have SC := Lib.hid (fun W => ivscale_ok x0 x1 x2 x3 x4 x5 k d m W hx ed hd1 hd2 hr)
      rw [hx] at RX
      rw [hr] at RF
      clear hx hr
      generalize rdA x0 x1 x2 x3 x4 x5 = ra at *
      generalize rdB x0 x1 x2 x3 x4 x5 = rb at *
      generalize rdC x0 x1 x2 x3 x4 x5 = rc at *
      generalize rdD x0 x1 x2 x3 x4 x5 = rd at *
      subst ed
      have l1 : 1 ≤ m := by omega
      have l2 : m ≤ 1000000 := by omega
      have ma := mulb (x := ra) (y := k) (X := 6000) (Y := 1000000) (by omega) (by omega) (by omega) (by omega)
      obtain ⟨sa, esa⟩ : ∃ s, ra * k = s := ⟨_, rfl⟩
      rw [esa] at ma
      have mb := mulb (x := rb) (y := k) (X := 6000) (Y := 1000000) (by omega) (by omega) (by omega) (by omega)
      obtain ⟨sb, esb⟩ : ∃ s, rb * k = s := ⟨_, rfl⟩
      rw [esb] at mb
      have mc := mulb (x := rc) (y := k) (X := 6000) (Y := 1000000) (by omega) (by omega) (by omega) (by omega)
      obtain ⟨sc, esc⟩ : ∃ s, rc * k = s := ⟨_, rfl⟩
      rw [esc] at mc
      rw [esa, esb, esc] at SC
      have hdm0 : 0 < d * m := Nat.mul_pos hd1 l1
      have hdm : d * m ≤ 240 * 1000000 := Nat.mul_le_mul hd2 l2
      have hdmi : (d : Int) * (m : Int) = ((d * m : Nat) : Int) := by push_cast; rfl
      obtain ⟨q, hq⟩ : ∃ q, d * m = q := ⟨_, rfl⟩
      rw [hq] at hdm0 hdm hdmi SC
      have WR := Lib.hid (fun W => rwrite_any sa sb sc (q : Int) W (by omega) (by omega) (by omega) (by omega) (by omega) (by omega) (by omega) (by omega))
      have RR := Lib.hid (fun W => lright_any sa sb sc q W (by omega) (by omega) (by omega) (by omega) (by omega) (by omega) hdm0 (by omega))
      have HB := Lib.hid (fun h => sz_notok (sz_bad (a := sa) (b := sb) (c := sc) hdm0 h))
      have RFa := Lib.hid (fun W => rright_any (FracMath.qn sa q) (FracMath.qd sa q) W)
      have RFb := Lib.hid (fun W => rright_any (FracMath.qn sb q) (FracMath.qd sb q) W)
      have RFc := Lib.hid (fun W => rright_any (FracMath.qn sc q) (FracMath.qd sc q) W)
      have HBa := Lib.hid (fun h => HB.out h sa)
      have HBb := Lib.hid (fun h => HB.out h sb)
      have HBc := Lib.hid (fun h => HB.out h sc)
      clear HB
      generalize szN sa sa sb sc q = p0 at *
      generalize szD sa sa sb sc q = p1 at *
      generalize szN sb sa sb sc q = p2 at *
      generalize szD sb sa sb sc q = p3 at *
      generalize szN sc sa sb sc q = p4 at *
      generalize szD sc sa sb sc q = p5 at *
      generalize szE sa sb sc q = pE at *
      generalize FracMath.qn sa q = na at *
      generalize FracMath.qd sa q = va at *
      generalize FracMath.qn sb q = nb at *
      generalize FracMath.qd sb q = vb at *
      generalize FracMath.qn sc q = nc at *
      generalize FracMath.qd sc q = vc at *
      clear bx hd1 hd2 k1 k2 l1 l2 hq
      have hep := eq_size p0 p1 p2 p3 p4 p5
      obtain ⟨l, hl⟩ : ∃ l : Int, (m : Int) = l := ⟨_, rfl⟩
      rw [hl] at SC RF hdmi ⊢
      clear hl
      go_enter Tryz.func6, Tryz.ntmps6
      have ld1 : ((w.alloc (.cells #[.int .i64 x0, .int .i64 x1, .int .i64 x2, .int .i64 x3, .int .i64 x4, .int .i64 x5] 25)).alloc (.cells #[.int .i64 k, .int .i64 l] 23)).heap[D]? = some (.cells #[.int .i64 x0, .int .i64 x1, .int .i64 x2, .int .i64 x3, .int .i64 x4, .int .i64 x5] 25) := (heap_old (o := .cells #[.int .i64 k, .int .i64 l] 23) (heap_new (by first | omega | (simp; omega))))
      have y1_0 := cell6_0 ld1
      have y1_1 := cell6_1 ld1
      have y1_2 := cell6_2 ld1
      have y1_3 := cell6_3 ld1
      have y1_4 := cell6_4 ld1
      have y1_5 := cell6_5 ld1
      clear ld1
      go_wp2_with fail
      refine (RX.out _).mono ?_
      rintro e v2 ⟨rfl, hb_v2⟩
      have cS_v2 : v2.heap[D]? = some (.cells #[.int .i64 x0, .int .i64 x1, .int .i64 x2, .int .i64 x3, .int .i64 x4, .int .i64 x5] 25) := (hb_v2.block (D) (Array.getElem?_eq_some_iff.1 (show ((w.alloc (.cells #[.int .i64 x0, .int .i64 x1, .int .i64 x2, .int .i64 x3, .int .i64 x4, .int .i64 x5] 25)).alloc (.cells #[.int .i64 k, .int .i64 l] 23)).heap[D]? = some (.cells #[.int .i64 x0, .int .i64 x1, .int .i64 x2, .int .i64 x3, .int .i64 x4, .int .i64 x5] 25) from (heap_old (o := .cells #[.int .i64 k, .int .i64 l] 23) (heap_new (by first | omega | (simp; omega)))))).1).trans (heap_old (o := .cells #[.int .i64 k, .int .i64 l] 23) (heap_new (by first | omega | (simp; omega))))
      have cK_v2 : v2.heap[D + 1]? = some (.cells #[.int .i64 k, .int .i64 l] 23) := (hb_v2.block (D + 1) (Array.getElem?_eq_some_iff.1 (show ((w.alloc (.cells #[.int .i64 x0, .int .i64 x1, .int .i64 x2, .int .i64 x3, .int .i64 x4, .int .i64 x5] 25)).alloc (.cells #[.int .i64 k, .int .i64 l] 23)).heap[D + 1]? = some (.cells #[.int .i64 k, .int .i64 l] 23) from (heap_new (by first | omega | (simp; omega))))).1).trans (heap_new (by first | omega | (simp; omega)))
      have hw_v2 : Below D w v2 := ((((Below.refl _ w).alloc (by first | omega | (simp; omega)) (.cells #[.int .i64 x0, .int .i64 x1, .int .i64 x2, .int .i64 x3, .int .i64 x4, .int .i64 x5] 25)).alloc (by first | omega | (simp; omega)) (.cells #[.int .i64 k, .int .i64 l] 23))).trans (hb_v2.mono (by first | omega | (simp; omega)))
      clear hb_v2 y1_0 y1_1 y1_2 y1_3 y1_4 y1_5
      obtain ⟨EO, hEO⟩ : ∃ E, v2.heap.size = E := ⟨_, rfl⟩
      have G1 : Gi (v2.alloc (.cells #[.int .i64 ra, .int .i64 rb, .int .i64 rc, .int .i64 (d : Int)] 29)) := G.below (by rw [hD]; exact (hw_v2.alloc (by have := hw_v2.size; first | omega | (simp; omega)) (.cells #[.int .i64 ra, .int .i64 rb, .int .i64 rc, .int .i64 (d : Int)] 29)))
      have N1 : Nm (v2.alloc (.cells #[.int .i64 ra, .int .i64 rb, .int .i64 rc, .int .i64 (d : Int)] 29)) := N.below (by rw [hD]; exact (hw_v2.alloc (by have := hw_v2.size; first | omega | (simp; omega)) (.cells #[.int .i64 ra, .int .i64 rb, .int .i64 rc, .int .i64 (d : Int)] 29)))
      go_wp2_with fail
      refine (KN.out _ G1 N1).mono ?_
      rintro e v3 ⟨rfl, hb_v3⟩
      have hs_v3 := hw_v2.size
      have cS_v3 : v3.heap[D]? = some (.cells #[.int .i64 x0, .int .i64 x1, .int .i64 x2, .int .i64 x3, .int .i64 x4, .int .i64 x5] 25) := (hb_v3.block (D) (Array.getElem?_eq_some_iff.1 (show (v2.alloc (.cells #[.int .i64 ra, .int .i64 rb, .int .i64 rc, .int .i64 (d : Int)] 29)).heap[D]? = some (.cells #[.int .i64 x0, .int .i64 x1, .int .i64 x2, .int .i64 x3, .int .i64 x4, .int .i64 x5] 25) from (heap_old (o := .cells #[.int .i64 ra, .int .i64 rb, .int .i64 rc, .int .i64 (d : Int)] 29) cS_v2))).1).trans (heap_old (o := .cells #[.int .i64 ra, .int .i64 rb, .int .i64 rc, .int .i64 (d : Int)] 29) cS_v2)
      have cK_v3 : v3.heap[D + 1]? = some (.cells #[.int .i64 k, .int .i64 l] 23) := (hb_v3.block (D + 1) (Array.getElem?_eq_some_iff.1 (show (v2.alloc (.cells #[.int .i64 ra, .int .i64 rb, .int .i64 rc, .int .i64 (d : Int)] 29)).heap[D + 1]? = some (.cells #[.int .i64 k, .int .i64 l] 23) from (heap_old (o := .cells #[.int .i64 ra, .int .i64 rb, .int .i64 rc, .int .i64 (d : Int)] 29) cK_v2))).1).trans (heap_old (o := .cells #[.int .i64 ra, .int .i64 rb, .int .i64 rc, .int .i64 (d : Int)] 29) cK_v2)
      have cO_v3 : v3.heap[EO]? = some (.cells #[.int .i64 ra, .int .i64 rb, .int .i64 rc, .int .i64 (d : Int)] 29) := (hb_v3.block (EO) (Array.getElem?_eq_some_iff.1 (show (v2.alloc (.cells #[.int .i64 ra, .int .i64 rb, .int .i64 rc, .int .i64 (d : Int)] 29)).heap[EO]? = some (.cells #[.int .i64 ra, .int .i64 rb, .int .i64 rc, .int .i64 (d : Int)] 29) from (heap_new (by first | omega | (simp; omega))))).1).trans (heap_new (by first | omega | (simp; omega)))
      have hw_v3 : Below D w v3 := ((hw_v2.alloc (by have := hw_v2.size; first | omega | (simp; omega)) (.cells #[.int .i64 ra, .int .i64 rb, .int .i64 rc, .int .i64 (d : Int)] 29))).trans (hb_v3.mono (by first | omega | (simp; omega)))
      clear cS_v2 cK_v2 hb_v3 hw_v2 hs_v3
      have ld4 : v3.heap[D]? = some (.cells #[.int .i64 x0, .int .i64 x1, .int .i64 x2, .int .i64 x3, .int .i64 x4, .int .i64 x5] 25) := cS_v3
      have y4_0 := cell6_0 ld4
      have y4_1 := cell6_1 ld4
      have y4_2 := cell6_2 ld4
      have y4_3 := cell6_3 ld4
      have y4_4 := cell6_4 ld4
      have y4_5 := cell6_5 ld4
      clear ld4
      have ld5 : v3.heap[D + 1]? = some (.cells #[.int .i64 k, .int .i64 l] 23) := cK_v3
      have y5_0 := cell2_0 ld5
      have y5_1 := cell2_1 ld5
      clear ld5
      go_wp2_with fail
      refine (SC.out _).mono ?_
      rintro e v6 ⟨rfl, hb_v6⟩
      have hs_v6 := hw_v3.size
      have cS_v6 : v6.heap[D]? = some (.cells #[.int .i64 x0, .int .i64 x1, .int .i64 x2, .int .i64 x3, .int .i64 x4, .int .i64 x5] 25) := (hb_v6.block (D) (Array.getElem?_eq_some_iff.1 (show v3.heap[D]? = some (.cells #[.int .i64 x0, .int .i64 x1, .int .i64 x2, .int .i64 x3, .int .i64 x4, .int .i64 x5] 25) from cS_v3)).1).trans cS_v3
      have cK_v6 : v6.heap[D + 1]? = some (.cells #[.int .i64 k, .int .i64 l] 23) := (hb_v6.block (D + 1) (Array.getElem?_eq_some_iff.1 (show v3.heap[D + 1]? = some (.cells #[.int .i64 k, .int .i64 l] 23) from cK_v3)).1).trans cK_v3
      have cO_v6 : v6.heap[EO]? = some (.cells #[.int .i64 ra, .int .i64 rb, .int .i64 rc, .int .i64 (d : Int)] 29) := (hb_v6.block (EO) (Array.getElem?_eq_some_iff.1 (show v3.heap[EO]? = some (.cells #[.int .i64 ra, .int .i64 rb, .int .i64 rc, .int .i64 (d : Int)] 29) from cO_v3)).1).trans cO_v3
      have hw_v6 : Below D w v6 := (hw_v3).trans (hb_v6.mono (by first | omega | (simp; omega)))
      clear cS_v3 cK_v3 cO_v3 hb_v6 y4_0 y4_1 y4_2 y4_3 y4_4 y4_5 y5_0 y5_1 hw_v3 hs_v6
      obtain ⟨ER, hER⟩ : ∃ E, v6.heap.size = E := ⟨_, rfl⟩
      have ld7 : (v6.alloc (.cells #[.int .i64 p0, .int .i64 p1, .int .i64 p2, .int .i64 p3, .int .i64 p4, .int .i64 p5] 25)).heap[D + 1]? = some (.cells #[.int .i64 k, .int .i64 l] 23) := (heap_old (o := .cells #[.int .i64 p0, .int .i64 p1, .int .i64 p2, .int .i64 p3, .int .i64 p4, .int .i64 p5] 25) cK_v6)
      have y7_0 := cell2_0 ld7
      have y7_1 := cell2_1 ld7
      clear ld7
      go_wp2_with fail
      refine (RF.out _).mono ?_
      rintro e v8 ⟨rfl, hb_v8⟩
      have hs_v8 := hw_v6.size
      have cS_v8 : v8.heap[D]? = some (.cells #[.int .i64 x0, .int .i64 x1, .int .i64 x2, .int .i64 x3, .int .i64 x4, .int .i64 x5] 25) := (hb_v8.block (D) (Array.getElem?_eq_some_iff.1 (show (v6.alloc (.cells #[.int .i64 p0, .int .i64 p1, .int .i64 p2, .int .i64 p3, .int .i64 p4, .int .i64 p5] 25)).heap[D]? = some (.cells #[.int .i64 x0, .int .i64 x1, .int .i64 x2, .int .i64 x3, .int .i64 x4, .int .i64 x5] 25) from (heap_old (o := .cells #[.int .i64 p0, .int .i64 p1, .int .i64 p2, .int .i64 p3, .int .i64 p4, .int .i64 p5] 25) cS_v6))).1).trans (heap_old (o := .cells #[.int .i64 p0, .int .i64 p1, .int .i64 p2, .int .i64 p3, .int .i64 p4, .int .i64 p5] 25) cS_v6)
      have cK_v8 : v8.heap[D + 1]? = some (.cells #[.int .i64 k, .int .i64 l] 23) := (hb_v8.block (D + 1) (Array.getElem?_eq_some_iff.1 (show (v6.alloc (.cells #[.int .i64 p0, .int .i64 p1, .int .i64 p2, .int .i64 p3, .int .i64 p4, .int .i64 p5] 25)).heap[D + 1]? = some (.cells #[.int .i64 k, .int .i64 l] 23) from (heap_old (o := .cells #[.int .i64 p0, .int .i64 p1, .int .i64 p2, .int .i64 p3, .int .i64 p4, .int .i64 p5] 25) cK_v6))).1).trans (heap_old (o := .cells #[.int .i64 p0, .int .i64 p1, .int .i64 p2, .int .i64 p3, .int .i64 p4, .int .i64 p5] 25) cK_v6)
      have cO_v8 : v8.heap[EO]? = some (.cells #[.int .i64 ra, .int .i64 rb, .int .i64 rc, .int .i64 (d : Int)] 29) := (hb_v8.block (EO) (Array.getElem?_eq_some_iff.1 (show (v6.alloc (.cells #[.int .i64 p0, .int .i64 p1, .int .i64 p2, .int .i64 p3, .int .i64 p4, .int .i64 p5] 25)).heap[EO]? = some (.cells #[.int .i64 ra, .int .i64 rb, .int .i64 rc, .int .i64 (d : Int)] 29) from (heap_old (o := .cells #[.int .i64 p0, .int .i64 p1, .int .i64 p2, .int .i64 p3, .int .i64 p4, .int .i64 p5] 25) cO_v6))).1).trans (heap_old (o := .cells #[.int .i64 p0, .int .i64 p1, .int .i64 p2, .int .i64 p3, .int .i64 p4, .int .i64 p5] 25) cO_v6)
      have cR_v8 : v8.heap[ER]? = some (.cells #[.int .i64 p0, .int .i64 p1, .int .i64 p2, .int .i64 p3, .int .i64 p4, .int .i64 p5] 25) := (hb_v8.block (ER) (Array.getElem?_eq_some_iff.1 (show (v6.alloc (.cells #[.int .i64 p0, .int .i64 p1, .int .i64 p2, .int .i64 p3, .int .i64 p4, .int .i64 p5] 25)).heap[ER]? = some (.cells #[.int .i64 p0, .int .i64 p1, .int .i64 p2, .int .i64 p3, .int .i64 p4, .int .i64 p5] 25) from (heap_new (by first | omega | (simp; omega))))).1).trans (heap_new (by first | omega | (simp; omega)))
      have hw_v8 : Below D w v8 := ((hw_v6.alloc (by have := hw_v6.size; first | omega | (simp; omega)) (.cells #[.int .i64 p0, .int .i64 p1, .int .i64 p2, .int .i64 p3, .int .i64 p4, .int .i64 p5] 25))).trans (hb_v8.mono (by first | omega | (simp; omega)))
      clear cS_v6 cK_v6 cO_v6 hb_v8 y7_0 y7_1 hw_v6 hs_v8
      have ld9 : v8.heap[D + 1]? = some (.cells #[.int .i64 k, .int .i64 l] 23) := cK_v8
      have y9_0 := cell2_0 ld9
      have y9_1 := cell2_1 ld9
      clear ld9
      have ld10 : v8.heap[EO]? = some (.cells #[.int .i64 ra, .int .i64 rb, .int .i64 rc, .int .i64 (d : Int)] 29) := cO_v8
      have y10_0 := cell4_0 ld10
      have y10_1 := cell4_1 ld10
      have y10_2 := cell4_2 ld10
      have y10_3 := cell4_3 ld10
      clear ld10
      obtain ⟨EQ, hEQ⟩ : ∃ E, v8.heap.size = E := ⟨_, rfl⟩
      go_wp2_with fail
      obtain ⟨V, hV⟩ : ∃ V, (v8.alloc (.cells #[.int .i64 0, .int .i64 0, .int .i64 0, .int .i64 (q : Int)] 29)) = V := ⟨_, rfl⟩
      have hwV : Below D w V := by rw [← hV]; exact (hw_v8.alloc (by have := hw_v8.size; first | omega | (simp; omega)) (.cells #[.int .i64 0, .int .i64 0, .int .i64 0, .int .i64 (q : Int)] 29))
      have hKV : V.heap[D + 1]? = some (.cells #[.int .i64 k, .int .i64 l] 23) := by rw [← hV]; exact (heap_old (o := .cells #[.int .i64 0, .int .i64 0, .int .i64 0, .int .i64 (q : Int)] 29) cK_v8)
      have hOV : V.heap[EO]? = some (.cells #[.int .i64 ra, .int .i64 rb, .int .i64 rc, .int .i64 (d : Int)] 29) := by rw [← hV]; exact (heap_old (o := .cells #[.int .i64 0, .int .i64 0, .int .i64 0, .int .i64 (q : Int)] 29) cO_v8)
      have hRV : V.heap[ER]? = some (.cells #[.int .i64 p0, .int .i64 p1, .int .i64 p2, .int .i64 p3, .int .i64 p4, .int .i64 p5] 25) := by rw [← hV]; exact (heap_old (o := .cells #[.int .i64 0, .int .i64 0, .int .i64 0, .int .i64 (q : Int)] 29) cR_v8)
      have hQV : V.heap[EQ]? = some (.cells #[.int .i64 0, .int .i64 0, .int .i64 0, .int .i64 (q : Int)] 29) := by rw [← hV]; exact (heap_new (by first | omega | (simp; omega)))
      have nKQ : D + 1 < EQ := by rw [← hEQ]; exact (Array.getElem?_eq_some_iff.1 cK_v8).1
      have nOQ : EO < EQ := by rw [← hEQ]; exact (Array.getElem?_eq_some_iff.1 cO_v8).1
      have nRQ : ER < EQ := by rw [← hEQ]; exact (Array.getElem?_eq_some_iff.1 cR_v8).1
      rw [hV]
      clear hV cS_v8 cK_v8 cO_v8 cR_v8 y9_0 y9_1 y10_0 y10_1 y10_2 y10_3 hw_v8
      go_loopw [10] (fun i wr => ((i = .int .i64 0 ∧ wr.heap[EQ]? = some (.cells #[.int .i64 0, .int .i64 0, .int .i64 0, .int .i64 (q : Int)] 29)) ∨ (i = .int .i64 1 ∧ wr.heap[EQ]? = some (.cells #[.int .i64 sa, .int .i64 0, .int .i64 0, .int .i64 (q : Int)] 29)) ∨ (i = .int .i64 2 ∧ wr.heap[EQ]? = some (.cells #[.int .i64 sa, .int .i64 sb, .int .i64 0, .int .i64 (q : Int)] 29)) ∨ (i = .int .i64 3 ∧ wr.heap[EQ]? = some (.cells #[.int .i64 sa, .int .i64 sb, .int .i64 sc, .int .i64 (q : Int)] 29))) ∧ Below D w wr ∧ wr.heap[D + 1]? = some (.cells #[.int .i64 k, .int .i64 l] 23) ∧ wr.heap[EO]? = some (.cells #[.int .i64 ra, .int .i64 rb, .int .i64 rc, .int .i64 (d : Int)] 29) ∧ wr.heap[ER]? = some (.cells #[.int .i64 p0, .int .i64 p1, .int .i64 p2, .int .i64 p3, .int .i64 p4, .int .i64 p5] 25)) (fun i _ => 3 - (intOf i).toNat)
      case atStart => exact ⟨.inl ⟨rfl, hQV⟩, hwV, hKV, hOV, hRV⟩
      case round =>
        clear hwV hKV hOV hRV hQV
        obtain ⟨hi, hw, hk, ho, hr⟩ := hrel
        rcases hi with ⟨rfl, he⟩ | ⟨rfl, he⟩ | ⟨rfl, he⟩ | ⟨rfl, he⟩
        · have a_ := cell4_0 ho
          have k_ := cell2_0 hk
          have f_ := free4_0 he
          have c_ := cell4_0 he
          have HW := Lib.hid (hw.setCell (p := ⟨EQ, 0, none⟩) (show D ≤ EQ by omega) (.int .i64 sa))
          have HK := Lib.hid ((set_other (b := EQ) (o := 0) (x := .int .i64 sa) (show D + 1 ≠ EQ by omega)).trans hk)
          have HO := Lib.hid ((set_other (b := EQ) (o := 0) (x := .int .i64 sa) (show EO ≠ EQ by omega)).trans ho)
          have HR := Lib.hid ((set_other (b := EQ) (o := 0) (x := .int .i64 sa) (show ER ≠ EQ by omega)).trans hr)
          have HE := Lib.hid (set4_0 (x := .int .i64 sa) he)
          clear hw hk ho hr he
          go_wp2
          go_region
          go_wp2
          exact ⟨⟨.inr (.inl ⟨rfl, HE.out⟩), below_drew HW.out, HK.out, HO.out, HR.out⟩, by decide⟩
        · have a_ := cell4_1 ho
          have k_ := cell2_0 hk
          have f_ := free4_1 he
          have c_ := cell4_1 he
          have HW := Lib.hid (hw.setCell (p := ⟨EQ, 1, none⟩) (show D ≤ EQ by omega) (.int .i64 sb))
          have HK := Lib.hid ((set_other (b := EQ) (o := 1) (x := .int .i64 sb) (show D + 1 ≠ EQ by omega)).trans hk)
          have HO := Lib.hid ((set_other (b := EQ) (o := 1) (x := .int .i64 sb) (show EO ≠ EQ by omega)).trans ho)
          have HR := Lib.hid ((set_other (b := EQ) (o := 1) (x := .int .i64 sb) (show ER ≠ EQ by omega)).trans hr)
          have HE := Lib.hid (set4_1 (x := .int .i64 sb) he)
          clear hw hk ho hr he
          go_wp2
          go_region
          go_wp2
          exact ⟨⟨.inr (.inr (.inl ⟨rfl, HE.out⟩)), below_drew HW.out, HK.out, HO.out, HR.out⟩, by decide⟩
        · have a_ := cell4_2 ho
          have k_ := cell2_0 hk
          have f_ := free4_2 he
          have c_ := cell4_2 he
          have HW := Lib.hid (hw.setCell (p := ⟨EQ, 2, none⟩) (show D ≤ EQ by omega) (.int .i64 sc))
          have HK := Lib.hid ((set_other (b := EQ) (o := 2) (x := .int .i64 sc) (show D + 1 ≠ EQ by omega)).trans hk)
          have HO := Lib.hid ((set_other (b := EQ) (o := 2) (x := .int .i64 sc) (show EO ≠ EQ by omega)).trans ho)
          have HR := Lib.hid ((set_other (b := EQ) (o := 2) (x := .int .i64 sc) (show ER ≠ EQ by omega)).trans hr)
          have HE := Lib.hid (set4_2 (x := .int .i64 sc) he)
          clear hw hk ho hr he
          go_wp2
          go_region
          go_wp2
          exact ⟨⟨.inr (.inr (.inr (⟨rfl, HE.out⟩))), below_drew HW.out, HK.out, HO.out, HR.out⟩, by decide⟩
        · clear hk ho nKQ nOQ nRQ
          have j0 := cell4_0 he
          have j1 := cell4_1 he
          have j2 := cell4_2 he
          have j3 := cell4_3 he
          go_wp2_with fail
          refine (WR.out _).mono ?_
          rintro e w4 ⟨rfl, hb4⟩
          have he4 := (hb4.block EQ (Array.getElem?_eq_some_iff.1 he).1).trans he
          have hr4 := (hb4.block ER (Array.getElem?_eq_some_iff.1 hr).1).trans hr
          have hw4 := hw.trans (hb4.mono (by have := hw.size; omega))
          clear j0 j1 j2 j3 hb4 hw hr he
          obtain ⟨EF, hEF⟩ : ∃ E, w4.heap.size = E := ⟨_, rfl⟩
          go_wp2_with fail
          obtain ⟨V2, hV2⟩ : ∃ V2, (w4.alloc (.cells #[.int .i64 na, .int .i64 va, .int .i64 nb, .int .i64 vb, .int .i64 nc, .int .i64 vc] 56)) = V2 := ⟨_, rfl⟩
          have hw5 : Below D w V2 := by rw [← hV2]; exact hw4.alloc (by have := hw4.size; omega) _
          have hf5 : V2.heap[EF]? = some (.cells #[.int .i64 na, .int .i64 va, .int .i64 nb, .int .i64 vb, .int .i64 nc, .int .i64 vc] 56) := by rw [← hV2]; exact heap_new hEF.symm
          have he5 := (show V2.heap[EQ]? = some (.cells #[.int .i64 sa, .int .i64 sb, .int .i64 sc, .int .i64 (q : Int)] 29) by rw [← hV2]; exact heap_old he4)
          have hr5 := (show V2.heap[ER]? = some (.cells #[.int .i64 p0, .int .i64 p1, .int .i64 p2, .int .i64 p3, .int .i64 p4, .int .i64 p5] 25) by rw [← hV2]; exact heap_old hr4)
          rw [hV2]
          clear hV2 hw4 he4 hr4
          go_loopw [12] (fun i wr => ((i = .int .i64 0) ∨ (i = .int .i64 1 ∧ FracMath.rightB na va = true) ∨ (i = .int .i64 2 ∧ FracMath.rightB na va = true ∧ FracMath.rightB nb vb = true) ∨ (i = .int .i64 3)) ∧ Below D w wr ∧ wr.heap[EF]? = some (.cells #[.int .i64 na, .int .i64 va, .int .i64 nb, .int .i64 vb, .int .i64 nc, .int .i64 vc] 56) ∧ wr.heap[EQ]? = some (.cells #[.int .i64 sa, .int .i64 sb, .int .i64 sc, .int .i64 (q : Int)] 29) ∧ wr.heap[ER]? = some (.cells #[.int .i64 p0, .int .i64 p1, .int .i64 p2, .int .i64 p3, .int .i64 p4, .int .i64 p5] 25)) (fun i _ => 3 - (intOf i).toNat)
          case atStart => exact ⟨.inl rfl, hw5, hf5, he5, hr5⟩
          case round =>
            clear hw5 hf5 he5 hr5
            obtain ⟨hi, hw, hf, he, hr⟩ := hrel
            rcases hi with rfl | ⟨rfl, ra_⟩ | ⟨rfl, ra_, rb_⟩ | rfl
            · have KK := RFa.out
              have g0 := cell6_0 hf
              have g1 := cell6_1 hf
              cases c0 : FracMath.rightB na va with
              | false =>
                obtain ⟨e0, e1, e2⟩ := HBa.out (by rw [c0]; rfl)
                obtain ⟨e3, e4, _⟩ := HBb.out (by rw [c0]; rfl)
                obtain ⟨e5, e6, _⟩ := HBc.out (by rw [c0]; rfl)
                subst e0 e1 e2 e3 e4 e5 e6
                rw [c0] at KK
                have KH := Lib.hid KK
                clear KK c0 HBa HBb HBc
                go_wp2_with fail
                refine (KH.out _).mono ?_
                rintro e w5 ⟨rfl, hb5⟩
                have hr6 := (hb5.block ER (Array.getElem?_eq_some_iff.1 hr).1).trans hr
                have HW := Lib.hid (hw.trans (hb5.mono (by have := hw.size; omega)))
                have y0 := cell6_0 hr6
                have y1 := cell6_1 hr6
                have y2 := cell6_2 hr6
                have y3 := cell6_3 hr6
                have y4 := cell6_4 hr6
                have y5 := cell6_5 hr6
                clear hr6 hb5 hw hf he hr g0 g1
                go_wp2
                go_ret
                exact ⟨rfl, by first | exact HW.out | (rw [hD]; exact HW.out)⟩
              | true =>
                have ra_ : FracMath.rightB na va = true := c0
                rw [c0] at KK
                have KH := Lib.hid KK
                clear KK c0
                go_wp2_with fail
                refine (KH.out _).mono ?_
                rintro e w5 ⟨rfl, hb5⟩
                have HF := Lib.hid ((hb5.block EF (Array.getElem?_eq_some_iff.1 hf).1).trans hf)
                have HE := Lib.hid ((hb5.block EQ (Array.getElem?_eq_some_iff.1 he).1).trans he)
                have HR := Lib.hid ((hb5.block ER (Array.getElem?_eq_some_iff.1 hr).1).trans hr)
                have HW := Lib.hid (hw.trans (hb5.mono (by have := hw.size; omega)))
                clear hb5 hw hf he hr g0 g1
                go_wp2
                exact ⟨⟨.inr (.inl ⟨rfl, (by first | assumption | trivial)⟩), HW.out, HF.out, HE.out, HR.out⟩, by decide⟩
            · have KK := RFb.out
              have g0 := cell6_2 hf
              have g1 := cell6_3 hf
              cases c0 : FracMath.rightB nb vb with
              | false =>
                obtain ⟨e0, e1, e2⟩ := HBa.out (by rw [ra_, c0]; rfl)
                obtain ⟨e3, e4, _⟩ := HBb.out (by rw [ra_, c0]; rfl)
                obtain ⟨e5, e6, _⟩ := HBc.out (by rw [ra_, c0]; rfl)
                subst e0 e1 e2 e3 e4 e5 e6
                rw [c0] at KK
                have KH := Lib.hid KK
                clear KK c0 HBa HBb HBc
                go_wp2_with fail
                refine (KH.out _).mono ?_
                rintro e w5 ⟨rfl, hb5⟩
                have hr6 := (hb5.block ER (Array.getElem?_eq_some_iff.1 hr).1).trans hr
                have HW := Lib.hid (hw.trans (hb5.mono (by have := hw.size; omega)))
                have y0 := cell6_0 hr6
                have y1 := cell6_1 hr6
                have y2 := cell6_2 hr6
                have y3 := cell6_3 hr6
                have y4 := cell6_4 hr6
                have y5 := cell6_5 hr6
                clear hr6 hb5 hw hf he hr g0 g1
                go_wp2
                go_ret
                exact ⟨rfl, by first | exact HW.out | (rw [hD]; exact HW.out)⟩
              | true =>
                have rb_ : FracMath.rightB nb vb = true := c0
                rw [c0] at KK
                have KH := Lib.hid KK
                clear KK c0
                go_wp2_with fail
                refine (KH.out _).mono ?_
                rintro e w5 ⟨rfl, hb5⟩
                have HF := Lib.hid ((hb5.block EF (Array.getElem?_eq_some_iff.1 hf).1).trans hf)
                have HE := Lib.hid ((hb5.block EQ (Array.getElem?_eq_some_iff.1 he).1).trans he)
                have HR := Lib.hid ((hb5.block ER (Array.getElem?_eq_some_iff.1 hr).1).trans hr)
                have HW := Lib.hid (hw.trans (hb5.mono (by have := hw.size; omega)))
                clear hb5 hw hf he hr g0 g1
                go_wp2
                exact ⟨⟨.inr (.inr (.inl ⟨rfl, (by first | assumption | trivial), (by first | assumption | trivial)⟩)), HW.out, HF.out, HE.out, HR.out⟩, by decide⟩
            · have KK := RFc.out
              have g0 := cell6_4 hf
              have g1 := cell6_5 hf
              cases c0 : FracMath.rightB nc vc with
              | false =>
                obtain ⟨e0, e1, e2⟩ := HBa.out (by rw [ra_, rb_, c0]; rfl)
                obtain ⟨e3, e4, _⟩ := HBb.out (by rw [ra_, rb_, c0]; rfl)
                obtain ⟨e5, e6, _⟩ := HBc.out (by rw [ra_, rb_, c0]; rfl)
                subst e0 e1 e2 e3 e4 e5 e6
                rw [c0] at KK
                have KH := Lib.hid KK
                clear KK c0 HBa HBb HBc
                go_wp2_with fail
                refine (KH.out _).mono ?_
                rintro e w5 ⟨rfl, hb5⟩
                have hr6 := (hb5.block ER (Array.getElem?_eq_some_iff.1 hr).1).trans hr
                have HW := Lib.hid (hw.trans (hb5.mono (by have := hw.size; omega)))
                have y0 := cell6_0 hr6
                have y1 := cell6_1 hr6
                have y2 := cell6_2 hr6
                have y3 := cell6_3 hr6
                have y4 := cell6_4 hr6
                have y5 := cell6_5 hr6
                clear hr6 hb5 hw hf he hr g0 g1
                go_wp2
                go_ret
                exact ⟨rfl, by first | exact HW.out | (rw [hD]; exact HW.out)⟩
              | true =>
                have rc_ : FracMath.rightB nc vc = true := c0
                rw [c0] at KK
                have KH := Lib.hid KK
                clear KK c0
                go_wp2_with fail
                refine (KH.out _).mono ?_
                rintro e w5 ⟨rfl, hb5⟩
                have HF := Lib.hid ((hb5.block EF (Array.getElem?_eq_some_iff.1 hf).1).trans hf)
                have HE := Lib.hid ((hb5.block EQ (Array.getElem?_eq_some_iff.1 he).1).trans he)
                have HR := Lib.hid ((hb5.block ER (Array.getElem?_eq_some_iff.1 hr).1).trans hr)
                have HW := Lib.hid (hw.trans (hb5.mono (by have := hw.size; omega)))
                clear hb5 hw hf he hr g0 g1
                go_wp2
                exact ⟨⟨.inr (.inr (.inr rfl)), HW.out, HF.out, HE.out, HR.out⟩, by decide⟩
            · have j0 := cell4_0 he
              have j1 := cell4_1 he
              have j2 := cell4_2 he
              have j3 := cell4_3 he
              go_wp2_with fail
              refine (RR.out _).mono ?_
              rintro e w5 ⟨rfl, hb5⟩
              have hr6 := (hb5.block ER (Array.getElem?_eq_some_iff.1 hr).1).trans hr
              have hw6 := hw.trans (hb5.mono (by have := hw.size; omega))
              obtain ⟨EU, hEU⟩ : ∃ E, w5.heap.size = E := ⟨_, rfl⟩
              have hr7 := heap_old (o := .cells #[.int .i64 p0, .int .i64 p1, .int .i64 p2, .int .i64 p3, .int .i64 p4, .int .i64 p5] 25) hr6
              have hu7 : (w5.alloc (.cells #[.int .i64 p0, .int .i64 p1, .int .i64 p2, .int .i64 p3, .int .i64 p4, .int .i64 p5] 25)).heap[EU]? = some (.cells #[.int .i64 p0, .int .i64 p1, .int .i64 p2, .int .i64 p3, .int .i64 p4, .int .i64 p5] 25) := heap_new hEU.symm
              have HW := Lib.hid (hw6.alloc (by have := hw6.size; omega) (.cells #[.int .i64 p0, .int .i64 p1, .int .i64 p2, .int .i64 p3, .int .i64 p4, .int .i64 p5] 25))
              have y0 := cell6_0 hr7
              have y1 := cell6_1 hr7
              have y2 := cell6_2 hr7
              have y3 := cell6_3 hr7
              have y4 := cell6_4 hr7
              have y5 := cell6_5 hr7
              have z0 := cell6_0 hu7
              have z1 := cell6_1 hu7
              have z2 := cell6_2 hu7
              have z3 := cell6_3 hu7
              have z4 := cell6_4 hu7
              have z5 := cell6_5 hu7
              clear hr6 hr7 hu7 hw6 hb5 hw hf he hr j0 j1 j2 j3
              go_wp2
              go_ret
              exact ⟨rfl, by first | exact HW.out | (rw [hD]; exact HW.out)⟩
    · have hr : FracMath.rightB k l = false := by cases h : FracMath.rightB k l with | false => rfl | true => exact absurd h hr
      have SC := Lib.hid (fun W => ivscale_bad x0 x1 x2 x3 x4 x5 k l W hx hr)
      rw [hx] at RX
      rw [hr] at RF
      clear hx hr
      generalize rdA x0 x1 x2 x3 x4 x5 = ra at *
      generalize rdB x0 x1 x2 x3 x4 x5 = rb at *
      generalize rdC x0 x1 x2 x3 x4 x5 = rc at *
      generalize rdD x0 x1 x2 x3 x4 x5 = rd at *
      go_enter Tryz.func6, Tryz.ntmps6
      have ld1 : ((w.alloc (.cells #[.int .i64 x0, .int .i64 x1, .int .i64 x2, .int .i64 x3, .int .i64 x4, .int .i64 x5] 25)).alloc (.cells #[.int .i64 k, .int .i64 l] 23)).heap[D]? = some (.cells #[.int .i64 x0, .int .i64 x1, .int .i64 x2, .int .i64 x3, .int .i64 x4, .int .i64 x5] 25) := (heap_old (o := .cells #[.int .i64 k, .int .i64 l] 23) (heap_new (by first | omega | (simp; omega))))
      have y1_0 := cell6_0 ld1
      have y1_1 := cell6_1 ld1
      have y1_2 := cell6_2 ld1
      have y1_3 := cell6_3 ld1
      have y1_4 := cell6_4 ld1
      have y1_5 := cell6_5 ld1
      clear ld1
      go_wp2_with fail
      refine (RX.out _).mono ?_
      rintro e v2 ⟨rfl, hb_v2⟩
      have cS_v2 : v2.heap[D]? = some (.cells #[.int .i64 x0, .int .i64 x1, .int .i64 x2, .int .i64 x3, .int .i64 x4, .int .i64 x5] 25) := (hb_v2.block (D) (Array.getElem?_eq_some_iff.1 (show ((w.alloc (.cells #[.int .i64 x0, .int .i64 x1, .int .i64 x2, .int .i64 x3, .int .i64 x4, .int .i64 x5] 25)).alloc (.cells #[.int .i64 k, .int .i64 l] 23)).heap[D]? = some (.cells #[.int .i64 x0, .int .i64 x1, .int .i64 x2, .int .i64 x3, .int .i64 x4, .int .i64 x5] 25) from (heap_old (o := .cells #[.int .i64 k, .int .i64 l] 23) (heap_new (by first | omega | (simp; omega)))))).1).trans (heap_old (o := .cells #[.int .i64 k, .int .i64 l] 23) (heap_new (by first | omega | (simp; omega))))
      have cK_v2 : v2.heap[D + 1]? = some (.cells #[.int .i64 k, .int .i64 l] 23) := (hb_v2.block (D + 1) (Array.getElem?_eq_some_iff.1 (show ((w.alloc (.cells #[.int .i64 x0, .int .i64 x1, .int .i64 x2, .int .i64 x3, .int .i64 x4, .int .i64 x5] 25)).alloc (.cells #[.int .i64 k, .int .i64 l] 23)).heap[D + 1]? = some (.cells #[.int .i64 k, .int .i64 l] 23) from (heap_new (by first | omega | (simp; omega))))).1).trans (heap_new (by first | omega | (simp; omega)))
      have hw_v2 : Below D w v2 := ((((Below.refl _ w).alloc (by first | omega | (simp; omega)) (.cells #[.int .i64 x0, .int .i64 x1, .int .i64 x2, .int .i64 x3, .int .i64 x4, .int .i64 x5] 25)).alloc (by first | omega | (simp; omega)) (.cells #[.int .i64 k, .int .i64 l] 23))).trans (hb_v2.mono (by first | omega | (simp; omega)))
      clear hb_v2 y1_0 y1_1 y1_2 y1_3 y1_4 y1_5
      obtain ⟨EO, hEO⟩ : ∃ E, v2.heap.size = E := ⟨_, rfl⟩
      have G1 : Gi (v2.alloc (.cells #[.int .i64 ra, .int .i64 rb, .int .i64 rc, .int .i64 rd] 29)) := G.below (by rw [hD]; exact (hw_v2.alloc (by have := hw_v2.size; first | omega | (simp; omega)) (.cells #[.int .i64 ra, .int .i64 rb, .int .i64 rc, .int .i64 rd] 29)))
      have N1 : Nm (v2.alloc (.cells #[.int .i64 ra, .int .i64 rb, .int .i64 rc, .int .i64 rd] 29)) := N.below (by rw [hD]; exact (hw_v2.alloc (by have := hw_v2.size; first | omega | (simp; omega)) (.cells #[.int .i64 ra, .int .i64 rb, .int .i64 rc, .int .i64 rd] 29)))
      go_wp2_with fail
      refine (KN.out _ G1 N1).mono ?_
      rintro e v3 ⟨rfl, hb_v3⟩
      have hs_v3 := hw_v2.size
      have cS_v3 : v3.heap[D]? = some (.cells #[.int .i64 x0, .int .i64 x1, .int .i64 x2, .int .i64 x3, .int .i64 x4, .int .i64 x5] 25) := (hb_v3.block (D) (Array.getElem?_eq_some_iff.1 (show (v2.alloc (.cells #[.int .i64 ra, .int .i64 rb, .int .i64 rc, .int .i64 rd] 29)).heap[D]? = some (.cells #[.int .i64 x0, .int .i64 x1, .int .i64 x2, .int .i64 x3, .int .i64 x4, .int .i64 x5] 25) from (heap_old (o := .cells #[.int .i64 ra, .int .i64 rb, .int .i64 rc, .int .i64 rd] 29) cS_v2))).1).trans (heap_old (o := .cells #[.int .i64 ra, .int .i64 rb, .int .i64 rc, .int .i64 rd] 29) cS_v2)
      have cK_v3 : v3.heap[D + 1]? = some (.cells #[.int .i64 k, .int .i64 l] 23) := (hb_v3.block (D + 1) (Array.getElem?_eq_some_iff.1 (show (v2.alloc (.cells #[.int .i64 ra, .int .i64 rb, .int .i64 rc, .int .i64 rd] 29)).heap[D + 1]? = some (.cells #[.int .i64 k, .int .i64 l] 23) from (heap_old (o := .cells #[.int .i64 ra, .int .i64 rb, .int .i64 rc, .int .i64 rd] 29) cK_v2))).1).trans (heap_old (o := .cells #[.int .i64 ra, .int .i64 rb, .int .i64 rc, .int .i64 rd] 29) cK_v2)
      have cO_v3 : v3.heap[EO]? = some (.cells #[.int .i64 ra, .int .i64 rb, .int .i64 rc, .int .i64 rd] 29) := (hb_v3.block (EO) (Array.getElem?_eq_some_iff.1 (show (v2.alloc (.cells #[.int .i64 ra, .int .i64 rb, .int .i64 rc, .int .i64 rd] 29)).heap[EO]? = some (.cells #[.int .i64 ra, .int .i64 rb, .int .i64 rc, .int .i64 rd] 29) from (heap_new (by first | omega | (simp; omega))))).1).trans (heap_new (by first | omega | (simp; omega)))
      have hw_v3 : Below D w v3 := ((hw_v2.alloc (by have := hw_v2.size; first | omega | (simp; omega)) (.cells #[.int .i64 ra, .int .i64 rb, .int .i64 rc, .int .i64 rd] 29))).trans (hb_v3.mono (by first | omega | (simp; omega)))
      clear cS_v2 cK_v2 hb_v3 hw_v2 hs_v3
      have ld4 : v3.heap[D]? = some (.cells #[.int .i64 x0, .int .i64 x1, .int .i64 x2, .int .i64 x3, .int .i64 x4, .int .i64 x5] 25) := cS_v3
      have y4_0 := cell6_0 ld4
      have y4_1 := cell6_1 ld4
      have y4_2 := cell6_2 ld4
      have y4_3 := cell6_3 ld4
      have y4_4 := cell6_4 ld4
      have y4_5 := cell6_5 ld4
      clear ld4
      have ld5 : v3.heap[D + 1]? = some (.cells #[.int .i64 k, .int .i64 l] 23) := cK_v3
      have y5_0 := cell2_0 ld5
      have y5_1 := cell2_1 ld5
      clear ld5
      go_wp2_with fail
      refine (SC.out _).mono ?_
      rintro e v6 ⟨rfl, hb_v6⟩
      have hs_v6 := hw_v3.size
      have cS_v6 : v6.heap[D]? = some (.cells #[.int .i64 x0, .int .i64 x1, .int .i64 x2, .int .i64 x3, .int .i64 x4, .int .i64 x5] 25) := (hb_v6.block (D) (Array.getElem?_eq_some_iff.1 (show v3.heap[D]? = some (.cells #[.int .i64 x0, .int .i64 x1, .int .i64 x2, .int .i64 x3, .int .i64 x4, .int .i64 x5] 25) from cS_v3)).1).trans cS_v3
      have cK_v6 : v6.heap[D + 1]? = some (.cells #[.int .i64 k, .int .i64 l] 23) := (hb_v6.block (D + 1) (Array.getElem?_eq_some_iff.1 (show v3.heap[D + 1]? = some (.cells #[.int .i64 k, .int .i64 l] 23) from cK_v3)).1).trans cK_v3
      have cO_v6 : v6.heap[EO]? = some (.cells #[.int .i64 ra, .int .i64 rb, .int .i64 rc, .int .i64 rd] 29) := (hb_v6.block (EO) (Array.getElem?_eq_some_iff.1 (show v3.heap[EO]? = some (.cells #[.int .i64 ra, .int .i64 rb, .int .i64 rc, .int .i64 rd] 29) from cO_v3)).1).trans cO_v3
      have hw_v6 : Below D w v6 := (hw_v3).trans (hb_v6.mono (by first | omega | (simp; omega)))
      clear cS_v3 cK_v3 cO_v3 hb_v6 y4_0 y4_1 y4_2 y4_3 y4_4 y4_5 y5_0 y5_1 hw_v3 hs_v6
      obtain ⟨ER, hER⟩ : ∃ E, v6.heap.size = E := ⟨_, rfl⟩
      have ld7 : (v6.alloc (.cells #[.int .i64 0, .int .i64 0, .int .i64 0, .int .i64 0, .int .i64 0, .int .i64 0] 25)).heap[D + 1]? = some (.cells #[.int .i64 k, .int .i64 l] 23) := (heap_old (o := .cells #[.int .i64 0, .int .i64 0, .int .i64 0, .int .i64 0, .int .i64 0, .int .i64 0] 25) cK_v6)
      have y7_0 := cell2_0 ld7
      have y7_1 := cell2_1 ld7
      clear ld7
      go_wp2_with fail
      refine (RF.out _).mono ?_
      rintro e v8 ⟨rfl, hb_v8⟩
      have hs_v8 := hw_v6.size
      have cS_v8 : v8.heap[D]? = some (.cells #[.int .i64 x0, .int .i64 x1, .int .i64 x2, .int .i64 x3, .int .i64 x4, .int .i64 x5] 25) := (hb_v8.block (D) (Array.getElem?_eq_some_iff.1 (show (v6.alloc (.cells #[.int .i64 0, .int .i64 0, .int .i64 0, .int .i64 0, .int .i64 0, .int .i64 0] 25)).heap[D]? = some (.cells #[.int .i64 x0, .int .i64 x1, .int .i64 x2, .int .i64 x3, .int .i64 x4, .int .i64 x5] 25) from (heap_old (o := .cells #[.int .i64 0, .int .i64 0, .int .i64 0, .int .i64 0, .int .i64 0, .int .i64 0] 25) cS_v6))).1).trans (heap_old (o := .cells #[.int .i64 0, .int .i64 0, .int .i64 0, .int .i64 0, .int .i64 0, .int .i64 0] 25) cS_v6)
      have cK_v8 : v8.heap[D + 1]? = some (.cells #[.int .i64 k, .int .i64 l] 23) := (hb_v8.block (D + 1) (Array.getElem?_eq_some_iff.1 (show (v6.alloc (.cells #[.int .i64 0, .int .i64 0, .int .i64 0, .int .i64 0, .int .i64 0, .int .i64 0] 25)).heap[D + 1]? = some (.cells #[.int .i64 k, .int .i64 l] 23) from (heap_old (o := .cells #[.int .i64 0, .int .i64 0, .int .i64 0, .int .i64 0, .int .i64 0, .int .i64 0] 25) cK_v6))).1).trans (heap_old (o := .cells #[.int .i64 0, .int .i64 0, .int .i64 0, .int .i64 0, .int .i64 0, .int .i64 0] 25) cK_v6)
      have cO_v8 : v8.heap[EO]? = some (.cells #[.int .i64 ra, .int .i64 rb, .int .i64 rc, .int .i64 rd] 29) := (hb_v8.block (EO) (Array.getElem?_eq_some_iff.1 (show (v6.alloc (.cells #[.int .i64 0, .int .i64 0, .int .i64 0, .int .i64 0, .int .i64 0, .int .i64 0] 25)).heap[EO]? = some (.cells #[.int .i64 ra, .int .i64 rb, .int .i64 rc, .int .i64 rd] 29) from (heap_old (o := .cells #[.int .i64 0, .int .i64 0, .int .i64 0, .int .i64 0, .int .i64 0, .int .i64 0] 25) cO_v6))).1).trans (heap_old (o := .cells #[.int .i64 0, .int .i64 0, .int .i64 0, .int .i64 0, .int .i64 0, .int .i64 0] 25) cO_v6)
      have cR_v8 : v8.heap[ER]? = some (.cells #[.int .i64 0, .int .i64 0, .int .i64 0, .int .i64 0, .int .i64 0, .int .i64 0] 25) := (hb_v8.block (ER) (Array.getElem?_eq_some_iff.1 (show (v6.alloc (.cells #[.int .i64 0, .int .i64 0, .int .i64 0, .int .i64 0, .int .i64 0, .int .i64 0] 25)).heap[ER]? = some (.cells #[.int .i64 0, .int .i64 0, .int .i64 0, .int .i64 0, .int .i64 0, .int .i64 0] 25) from (heap_new (by first | omega | (simp; omega))))).1).trans (heap_new (by first | omega | (simp; omega)))
      have hw_v8 : Below D w v8 := ((hw_v6.alloc (by have := hw_v6.size; first | omega | (simp; omega)) (.cells #[.int .i64 0, .int .i64 0, .int .i64 0, .int .i64 0, .int .i64 0, .int .i64 0] 25))).trans (hb_v8.mono (by first | omega | (simp; omega)))
      clear cS_v6 cK_v6 cO_v6 hb_v8 y7_0 y7_1 hw_v6 hs_v8
      have HW := Lib.hid (hw_v8)
      have ld9 : v8.heap[ER]? = some (.cells #[.int .i64 0, .int .i64 0, .int .i64 0, .int .i64 0, .int .i64 0, .int .i64 0] 25) := cR_v8
      have y9_0 := cell6_0 ld9
      have y9_1 := cell6_1 ld9
      have y9_2 := cell6_2 ld9
      have y9_3 := cell6_3 ld9
      have y9_4 := cell6_4 ld9
      have y9_5 := cell6_5 ld9
      clear ld9
      clear KN RX RF SC
      go_wp2
      go_ret
      exact ⟨rfl, by first | exact HW.out | (rw [hD]; exact HW.out)⟩
  · generalize rdA x0 x1 x2 x3 x4 x5 = ra at *
    generalize rdB x0 x1 x2 x3 x4 x5 = rb at *
    generalize rdC x0 x1 x2 x3 x4 x5 = rc at *
    generalize rdD x0 x1 x2 x3 x4 x5 = rd at *
    generalize Iv.rdE x0 x1 x2 x3 x4 x5 = re at *
    have hne : (re == 0) = false := by rw [beq_eq_false_iff_ne]; exact hx
    go_enter Tryz.func6, Tryz.ntmps6
    have ld1 : ((w.alloc (.cells #[.int .i64 x0, .int .i64 x1, .int .i64 x2, .int .i64 x3, .int .i64 x4, .int .i64 x5] 25)).alloc (.cells #[.int .i64 k, .int .i64 l] 23)).heap[D]? = some (.cells #[.int .i64 x0, .int .i64 x1, .int .i64 x2, .int .i64 x3, .int .i64 x4, .int .i64 x5] 25) := (heap_old (o := .cells #[.int .i64 k, .int .i64 l] 23) (heap_new (by first | omega | (simp; omega))))
    have y1_0 := cell6_0 ld1
    have y1_1 := cell6_1 ld1
    have y1_2 := cell6_2 ld1
    have y1_3 := cell6_3 ld1
    have y1_4 := cell6_4 ld1
    have y1_5 := cell6_5 ld1
    clear ld1
    go_wp2_with fail
    refine (RX.out _).mono ?_
    rintro e v2 ⟨rfl, hb_v2⟩
    have cS_v2 : v2.heap[D]? = some (.cells #[.int .i64 x0, .int .i64 x1, .int .i64 x2, .int .i64 x3, .int .i64 x4, .int .i64 x5] 25) := (hb_v2.block (D) (Array.getElem?_eq_some_iff.1 (show ((w.alloc (.cells #[.int .i64 x0, .int .i64 x1, .int .i64 x2, .int .i64 x3, .int .i64 x4, .int .i64 x5] 25)).alloc (.cells #[.int .i64 k, .int .i64 l] 23)).heap[D]? = some (.cells #[.int .i64 x0, .int .i64 x1, .int .i64 x2, .int .i64 x3, .int .i64 x4, .int .i64 x5] 25) from (heap_old (o := .cells #[.int .i64 k, .int .i64 l] 23) (heap_new (by first | omega | (simp; omega)))))).1).trans (heap_old (o := .cells #[.int .i64 k, .int .i64 l] 23) (heap_new (by first | omega | (simp; omega))))
    have cK_v2 : v2.heap[D + 1]? = some (.cells #[.int .i64 k, .int .i64 l] 23) := (hb_v2.block (D + 1) (Array.getElem?_eq_some_iff.1 (show ((w.alloc (.cells #[.int .i64 x0, .int .i64 x1, .int .i64 x2, .int .i64 x3, .int .i64 x4, .int .i64 x5] 25)).alloc (.cells #[.int .i64 k, .int .i64 l] 23)).heap[D + 1]? = some (.cells #[.int .i64 k, .int .i64 l] 23) from (heap_new (by first | omega | (simp; omega))))).1).trans (heap_new (by first | omega | (simp; omega)))
    have hw_v2 : Below D w v2 := ((((Below.refl _ w).alloc (by first | omega | (simp; omega)) (.cells #[.int .i64 x0, .int .i64 x1, .int .i64 x2, .int .i64 x3, .int .i64 x4, .int .i64 x5] 25)).alloc (by first | omega | (simp; omega)) (.cells #[.int .i64 k, .int .i64 l] 23))).trans (hb_v2.mono (by first | omega | (simp; omega)))
    clear hb_v2 y1_0 y1_1 y1_2 y1_3 y1_4 y1_5
    obtain ⟨EO, hEO⟩ : ∃ E, v2.heap.size = E := ⟨_, rfl⟩
    have G1 : Gi (v2.alloc (.cells #[.int .i64 ra, .int .i64 rb, .int .i64 rc, .int .i64 rd] 29)) := G.below (by rw [hD]; exact (hw_v2.alloc (by have := hw_v2.size; first | omega | (simp; omega)) (.cells #[.int .i64 ra, .int .i64 rb, .int .i64 rc, .int .i64 rd] 29)))
    have N1 : Nm (v2.alloc (.cells #[.int .i64 ra, .int .i64 rb, .int .i64 rc, .int .i64 rd] 29)) := N.below (by rw [hD]; exact (hw_v2.alloc (by have := hw_v2.size; first | omega | (simp; omega)) (.cells #[.int .i64 ra, .int .i64 rb, .int .i64 rc, .int .i64 rd] 29)))
    go_wp2_with fail
    refine (KN.out _ G1 N1).mono ?_
    rintro e v3 ⟨rfl, hb_v3⟩
    have hs_v3 := hw_v2.size
    have cS_v3 : v3.heap[D]? = some (.cells #[.int .i64 x0, .int .i64 x1, .int .i64 x2, .int .i64 x3, .int .i64 x4, .int .i64 x5] 25) := (hb_v3.block (D) (Array.getElem?_eq_some_iff.1 (show (v2.alloc (.cells #[.int .i64 ra, .int .i64 rb, .int .i64 rc, .int .i64 rd] 29)).heap[D]? = some (.cells #[.int .i64 x0, .int .i64 x1, .int .i64 x2, .int .i64 x3, .int .i64 x4, .int .i64 x5] 25) from (heap_old (o := .cells #[.int .i64 ra, .int .i64 rb, .int .i64 rc, .int .i64 rd] 29) cS_v2))).1).trans (heap_old (o := .cells #[.int .i64 ra, .int .i64 rb, .int .i64 rc, .int .i64 rd] 29) cS_v2)
    have cK_v3 : v3.heap[D + 1]? = some (.cells #[.int .i64 k, .int .i64 l] 23) := (hb_v3.block (D + 1) (Array.getElem?_eq_some_iff.1 (show (v2.alloc (.cells #[.int .i64 ra, .int .i64 rb, .int .i64 rc, .int .i64 rd] 29)).heap[D + 1]? = some (.cells #[.int .i64 k, .int .i64 l] 23) from (heap_old (o := .cells #[.int .i64 ra, .int .i64 rb, .int .i64 rc, .int .i64 rd] 29) cK_v2))).1).trans (heap_old (o := .cells #[.int .i64 ra, .int .i64 rb, .int .i64 rc, .int .i64 rd] 29) cK_v2)
    have cO_v3 : v3.heap[EO]? = some (.cells #[.int .i64 ra, .int .i64 rb, .int .i64 rc, .int .i64 rd] 29) := (hb_v3.block (EO) (Array.getElem?_eq_some_iff.1 (show (v2.alloc (.cells #[.int .i64 ra, .int .i64 rb, .int .i64 rc, .int .i64 rd] 29)).heap[EO]? = some (.cells #[.int .i64 ra, .int .i64 rb, .int .i64 rc, .int .i64 rd] 29) from (heap_new (by first | omega | (simp; omega))))).1).trans (heap_new (by first | omega | (simp; omega)))
    have hw_v3 : Below D w v3 := ((hw_v2.alloc (by have := hw_v2.size; first | omega | (simp; omega)) (.cells #[.int .i64 ra, .int .i64 rb, .int .i64 rc, .int .i64 rd] 29))).trans (hb_v3.mono (by first | omega | (simp; omega)))
    clear cS_v2 cK_v2 hb_v3 hw_v2 hs_v3
    have G2 : Gi v3 := G.below (by rw [hD]; exact hw_v3)
    have N2 : Nm v3 := N.below (by rw [hD]; exact hw_v3)
    go_wp2_with fail
    refine (KN.out _ G2 N2).mono ?_
    rintro e v4 ⟨rfl, hb_v4⟩
    have hs_v4 := hw_v3.size
    have cS_v4 : v4.heap[D]? = some (.cells #[.int .i64 x0, .int .i64 x1, .int .i64 x2, .int .i64 x3, .int .i64 x4, .int .i64 x5] 25) := (hb_v4.block (D) (Array.getElem?_eq_some_iff.1 (show v3.heap[D]? = some (.cells #[.int .i64 x0, .int .i64 x1, .int .i64 x2, .int .i64 x3, .int .i64 x4, .int .i64 x5] 25) from cS_v3)).1).trans cS_v3
    have cK_v4 : v4.heap[D + 1]? = some (.cells #[.int .i64 k, .int .i64 l] 23) := (hb_v4.block (D + 1) (Array.getElem?_eq_some_iff.1 (show v3.heap[D + 1]? = some (.cells #[.int .i64 k, .int .i64 l] 23) from cK_v3)).1).trans cK_v3
    have cO_v4 : v4.heap[EO]? = some (.cells #[.int .i64 ra, .int .i64 rb, .int .i64 rc, .int .i64 rd] 29) := (hb_v4.block (EO) (Array.getElem?_eq_some_iff.1 (show v3.heap[EO]? = some (.cells #[.int .i64 ra, .int .i64 rb, .int .i64 rc, .int .i64 rd] 29) from cO_v3)).1).trans cO_v3
    have hw_v4 : Below D w v4 := (hw_v3).trans (hb_v4.mono (by first | omega | (simp; omega)))
    clear cS_v3 cK_v3 cO_v3 hb_v4 hw_v3 hs_v4
    have HW := Lib.hid (hw_v4)
    clear KN RX RF
    go_wp2
    go_ret
    exact ⟨rfl, by first | exact HW.out | (rw [hD]; exact HW.out)⟩
end Go.Proofs.YthdoadkdofgenaaGreatDoor
