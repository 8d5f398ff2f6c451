/- The walk of IntervalCompares. -/
import Derived.Test.YthdoadkdofgenaaGreatDoorIvO
import Derived.Test.YthdoadkdofgenaaGreatDoorIvS
import Derived.Test.YthdoadkdofgenaaGreatDoorIvV
import Derived.Test.YthdoadkdofgenaaGreatDoorIvEa
import Derived.Test.YthdoadkdofgenaaGreatDoorIvEe
import Derived.Test.YthdoadkdofgenaaGreatDoorIvBl
namespace Go.Proofs.YthdoadkdofgenaaGreatDoor
open Go Go.RowKit Go.Shelf

set_option maxRecDepth 100000 in
set_option maxHeartbeats 8000000 in
theorem compares_walk (x0 x1 x2 x3 x4 x5 y0 y1 y2 y3 y4 y5 : Int) (w : World) (G : Gi w) (N : Nm w) :
    Calls Tryz.prog 7 #[.agg #[.int .i64 x0, .int .i64 x1, .int .i64 x2, .int .i64 x3, .int .i64 x4, .int .i64 x5], .agg #[.int .i64 y0, .int .i64 y1, .int .i64 y2, .int .i64 y3, .int .i64 y4, .int .i64 y5]] w fun e w' => e = .returned (.bool true) ∧ Below w.heap.size w w' := by
  have KN := Lib.hid (fun W (G : Gi W) (N : Nm W) => lknown_any W G N)
  have RX := Lib.hid (fun W => lread_any x0 x1 x2 x3 x4 x5 W)
  have RY := Lib.hid (fun W => lread_any y0 y1 y2 y3 y4 y5 W)
  obtain ⟨D, hD⟩ : ∃ D, w.heap.size = D := ⟨_, rfl⟩
  by_cases hx : Iv.rdE x0 x1 x2 x3 x4 x5 = 0
  · by_cases hy : Iv.rdE y0 y1 y2 y3 y4 y5 = 0
    · obtain ⟨d, ed, hd1, hd2⟩ := rd_nat x0 x1 x2 x3 x4 x5 hx
      obtain ⟨e, ee, he1, he2⟩ := rd_nat y0 y1 y2 y3 y4 y5 hy
      have bx := rd_bounds x0 x1 x2 x3 x4 x5
      have bY := rd_bounds y0 y1 y2 y3 y4 y5
      have SI := Lib.hid (fun W G => ivsign_ok x0 x1 x2 x3 x4 x5 W G hx)
      have CA := Lib.hid (fun W G => ivcompare_ok x0 x1 x2 x3 x4 x5 y0 y1 y2 y3 y4 y5 d e W G hx hy ed hd1 hd2 ee he1 he2)
      have CB := Lib.hid (fun W G => ivcompare_ok y0 y1 y2 y3 y4 y5 x0 x1 x2 x3 x4 x5 e d W G hy hx ee he1 he2 ed hd1 hd2)
      rw [hx] at RX
      rw [hy] at RY
      clear hx hy
      generalize rdA x0 x1 x2 x3 x4 x5 = ra at *
      generalize rdB x0 x1 x2 x3 x4 x5 = rb at *
      generalize rdC x0 x1 x2 x3 x4 x5 = rc at *
      generalize rdD x0 x1 x2 x3 x4 x5 = rd at *
      generalize rdA y0 y1 y2 y3 y4 y5 = ta at *
      generalize rdB y0 y1 y2 y3 y4 y5 = tb at *
      generalize rdC y0 y1 y2 y3 y4 y5 = tc at *
      generalize rdD y0 y1 y2 y3 y4 y5 = td at *
      subst ed ee
      rw [sgn_sg0] at SI CA CB
      rw [sg_swap] at CB
      have RA := Lib.hid (fun W => radd_any ra rb rc (d : Int) ta tb tc (e : Int) (-1) W (by omega) (by omega) (by omega) (by omega) (by omega) (by omega) (by omega) (by omega) (by decide))
      have hde : 0 < d * e := Nat.mul_pos hd1 he1
      have hde2 : d * e ≤ 240 * 240 := Nat.mul_le_mul hd2 he2
      have hdc : ((d : Int) * (e : Int)) = ((d * e : Nat) : Int) := by push_cast; rfl
      rw [hdc] at RA
      have bq0 : -3000000 ≤ (ra * (e : Int) + (-1) * ta * (d : Int)) ∧ (ra * (e : Int) + (-1) * ta * (d : Int)) ≤ 3000000 := by
        have h1 := mulb (x := ra) (y := (e : Int)) (X := 6000) (Y := 240) (by omega) (by omega) (by omega) (by omega)
        have h2 := mulb (x := ta) (y := (d : Int)) (X := 6000) (Y := 240) (by omega) (by omega) (by omega) (by omega)
        rw [show ((-1) * ta * (d : Int)) = -(ta * (d : Int)) by rw [Int.neg_mul, Int.one_mul, Int.neg_mul]]
        omega
      have bq1 : -3000000 ≤ (rb * (e : Int) + (-1) * tb * (d : Int)) ∧ (rb * (e : Int) + (-1) * tb * (d : Int)) ≤ 3000000 := by
        have h1 := mulb (x := rb) (y := (e : Int)) (X := 6000) (Y := 240) (by omega) (by omega) (by omega) (by omega)
        have h2 := mulb (x := tb) (y := (d : Int)) (X := 6000) (Y := 240) (by omega) (by omega) (by omega) (by omega)
        rw [show ((-1) * tb * (d : Int)) = -(tb * (d : Int)) by rw [Int.neg_mul, Int.one_mul, Int.neg_mul]]
        omega
      have bq2 : -3000000 ≤ (rc * (e : Int) + (-1) * tc * (d : Int)) ∧ (rc * (e : Int) + (-1) * tc * (d : Int)) ≤ 3000000 := by
        have h1 := mulb (x := rc) (y := (e : Int)) (X := 6000) (Y := 240) (by omega) (by omega) (by omega) (by omega)
        have h2 := mulb (x := tc) (y := (d : Int)) (X := 6000) (Y := 240) (by omega) (by omega) (by omega) (by omega)
        rw [show ((-1) * tc * (d : Int)) = -(tc * (d : Int)) by rw [Int.neg_mul, Int.one_mul, Int.neg_mul]]
        omega
      have WR := Lib.hid (fun W => rwrite_any (ra * (e : Int) + (-1) * ta * (d : Int)) (rb * (e : Int) + (-1) * tb * (d : Int)) (rc * (e : Int) + (-1) * tc * (d : Int)) ((d * e : Nat) : Int) W (by omega) (by omega) (by omega) (by omega) (by omega) (by omega) (by omega) (by omega))
      have RO := Lib.hid (fun W => rread_any (FracMath.qn (ra * (e : Int) + (-1) * ta * (d : Int)) ((d * e : Nat) : Int)) (FracMath.qd (ra * (e : Int) + (-1) * ta * (d : Int)) ((d * e : Nat) : Int)) (FracMath.qn (rb * (e : Int) + (-1) * tb * (d : Int)) ((d * e : Nat) : Int)) (FracMath.qd (rb * (e : Int) + (-1) * tb * (d : Int)) ((d * e : Nat) : Int)) (FracMath.qn (rc * (e : Int) + (-1) * tc * (d : Int)) ((d * e : Nat) : Int)) (FracMath.qd (rc * (e : Int) + (-1) * tc * (d : Int)) ((d * e : Nat) : Int)) W)
      have ROK := Lib.hid (fun h => rd_of_wr hde ((Iv.rd_write (a := (ra * (e : Int) + (-1) * ta * (d : Int))) (b := (rb * (e : Int) + (-1) * tb * (d : Int))) (c := (rc * (e : Int) + (-1) * tc * (d : Int))) hde).1 h))
      have bo := rd_bounds (FracMath.qn (ra * (e : Int) + (-1) * ta * (d : Int)) ((d * e : Nat) : Int)) (FracMath.qd (ra * (e : Int) + (-1) * ta * (d : Int)) ((d * e : Nat) : Int)) (FracMath.qn (rb * (e : Int) + (-1) * tb * (d : Int)) ((d * e : Nat) : Int)) (FracMath.qd (rb * (e : Int) + (-1) * tb * (d : Int)) ((d * e : Nat) : Int)) (FracMath.qn (rc * (e : Int) + (-1) * tc * (d : Int)) ((d * e : Nat) : Int)) (FracMath.qd (rc * (e : Int) + (-1) * tc * (d : Int)) ((d * e : Nat) : Int))
      generalize rdA (FracMath.qn (ra * (e : Int) + (-1) * ta * (d : Int)) ((d * e : Nat) : Int)) (FracMath.qd (ra * (e : Int) + (-1) * ta * (d : Int)) ((d * e : Nat) : Int)) (FracMath.qn (rb * (e : Int) + (-1) * tb * (d : Int)) ((d * e : Nat) : Int)) (FracMath.qd (rb * (e : Int) + (-1) * tb * (d : Int)) ((d * e : Nat) : Int)) (FracMath.qn (rc * (e : Int) + (-1) * tc * (d : Int)) ((d * e : Nat) : Int)) (FracMath.qd (rc * (e : Int) + (-1) * tc * (d : Int)) ((d * e : Nat) : Int)) = oa at *
      generalize rdB (FracMath.qn (ra * (e : Int) + (-1) * ta * (d : Int)) ((d * e : Nat) : Int)) (FracMath.qd (ra * (e : Int) + (-1) * ta * (d : Int)) ((d * e : Nat) : Int)) (FracMath.qn (rb * (e : Int) + (-1) * tb * (d : Int)) ((d * e : Nat) : Int)) (FracMath.qd (rb * (e : Int) + (-1) * tb * (d : Int)) ((d * e : Nat) : Int)) (FracMath.qn (rc * (e : Int) + (-1) * tc * (d : Int)) ((d * e : Nat) : Int)) (FracMath.qd (rc * (e : Int) + (-1) * tc * (d : Int)) ((d * e : Nat) : Int)) = ob at *
      generalize rdC (FracMath.qn (ra * (e : Int) + (-1) * ta * (d : Int)) ((d * e : Nat) : Int)) (FracMath.qd (ra * (e : Int) + (-1) * ta * (d : Int)) ((d * e : Nat) : Int)) (FracMath.qn (rb * (e : Int) + (-1) * tb * (d : Int)) ((d * e : Nat) : Int)) (FracMath.qd (rb * (e : Int) + (-1) * tb * (d : Int)) ((d * e : Nat) : Int)) (FracMath.qn (rc * (e : Int) + (-1) * tc * (d : Int)) ((d * e : Nat) : Int)) (FracMath.qd (rc * (e : Int) + (-1) * tc * (d : Int)) ((d * e : Nat) : Int)) = oc at *
      generalize rdD (FracMath.qn (ra * (e : Int) + (-1) * ta * (d : Int)) ((d * e : Nat) : Int)) (FracMath.qd (ra * (e : Int) + (-1) * ta * (d : Int)) ((d * e : Nat) : Int)) (FracMath.qn (rb * (e : Int) + (-1) * tb * (d : Int)) ((d * e : Nat) : Int)) (FracMath.qd (rb * (e : Int) + (-1) * tb * (d : Int)) ((d * e : Nat) : Int)) (FracMath.qn (rc * (e : Int) + (-1) * tc * (d : Int)) ((d * e : Nat) : Int)) (FracMath.qd (rc * (e : Int) + (-1) * tc * (d : Int)) ((d * e : Nat) : Int)) = od at *
      generalize Iv.rdE (FracMath.qn (ra * (e : Int) + (-1) * ta * (d : Int)) ((d * e : Nat) : Int)) (FracMath.qd (ra * (e : Int) + (-1) * ta * (d : Int)) ((d * e : Nat) : Int)) (FracMath.qn (rb * (e : Int) + (-1) * tb * (d : Int)) ((d * e : Nat) : Int)) (FracMath.qd (rb * (e : Int) + (-1) * tb * (d : Int)) ((d * e : Nat) : Int)) (FracMath.qn (rc * (e : Int) + (-1) * tc * (d : Int)) ((d * e : Nat) : Int)) (FracMath.qd (rc * (e : Int) + (-1) * tc * (d : Int)) ((d * e : Nat) : Int)) = oe at *
      generalize FracMath.qn (ra * (e : Int) + (-1) * ta * (d : Int)) ((d * e : Nat) : Int) = q0 at *
      generalize FracMath.qd (ra * (e : Int) + (-1) * ta * (d : Int)) ((d * e : Nat) : Int) = q1 at *
      generalize FracMath.qn (rb * (e : Int) + (-1) * tb * (d : Int)) ((d * e : Nat) : Int) = q2 at *
      generalize FracMath.qd (rb * (e : Int) + (-1) * tb * (d : Int)) ((d * e : Nat) : Int) = q3 at *
      generalize FracMath.qn (rc * (e : Int) + (-1) * tc * (d : Int)) ((d * e : Nat) : Int) = q4 at *
      generalize FracMath.qd (rc * (e : Int) + (-1) * tc * (d : Int)) ((d * e : Nat) : Int) = q5 at *
      by_cases ho : oe = 0
      · obtain ⟨-, o, eo, ho1, ho2, wa, wb, wc⟩ := ROK.out ho
        subst eo ho
        have SH := Lib.hid (fun W => short_c oa ob oc (o : Int) W)
        have SX := Lib.hid (fun W => short_c ra rb rc (d : Int) W)
        have EQ : Iv.sg (Iv.lg (Iv.cb ra ta d e (-1)) (Iv.cb rb tb d e (-1)) (Iv.cb rc tc d e (-1))) = Iv.sg (Iv.lg oa ob oc) := sg_wr hd1 he1 ho1 wa wb wc
        rw [EQ] at CA CB
        have SO := Lib.hid (fun h1 h2 h3 W G => rsign_any oa ob oc (o : Int) W G h1 h2 h3)
        have SA := Lib.hid (fun h1 h2 h3 W G => rsign_any ra rb rc (d : Int) W G h1 h2 h3)
        have bo3 := And.intro bo.1 (And.intro bo.2.1 (And.intro bo.2.2.1 (And.intro bo.2.2.2.1 (And.intro bo.2.2.2.2.1 bo.2.2.2.2.2.1))))
        have SO := Lib.hid (SO.out (by omega) (by omega) (by omega))
        have SA := Lib.hid (SA.out (by omega) (by omega) (by omega))
        have HDE := Lib.hid hde
        generalize hp0 : (ra * (e : Int) + (-1) * ta * (d : Int)) = p0 at *
        generalize hp1 : (rb * (e : Int) + (-1) * tb * (d : Int)) = p1 at *
        generalize hp2 : (rc * (e : Int) + (-1) * tc * (d : Int)) = p2 at *
        generalize hdeq : d * e = de at *
        have wso : wrap64 (-Iv.sg (Iv.lg oa ob oc)) = -Iv.sg (Iv.lg oa ob oc) := by
          have h : -1 ≤ Iv.sg (Iv.lg oa ob oc) ∧ Iv.sg (Iv.lg oa ob oc) ≤ 1 := by unfold Iv.sg; split <;> (try split) <;> omega
          unfold wrap64; omega
        generalize Iv.sg (Iv.lg oa ob oc) = so at *
        generalize Iv.sg (Iv.lg ra rb rc) = sx at *
        generalize hbo : (le9 oa && (le9 ob && le9 oc)) = lo at *
        generalize hbx : (le9 ra && (le9 rb && le9 rc)) = lx at *
        clear bx bY bo bo3 hde hde2 hdc hdeq hd1 hd2 he1 he2 bq0 bq1 bq2 wa wb wc ho1 ho2 EQ hbo hbx hp0 hp1 hp2 ROK HDE
        cases lo with
        | false =>
          go_enter Tryz.func7, Tryz.ntmps7
          have ld1 : ((w.alloc (.cells #[.int .i64 x0, .int .i64 x1, .int .i64 x2, .int .i64 x3, .int .i64 x4, .int .i64 x5] 25)).alloc (.cells #[.int .i64 y0, .int .i64 y1, .int .i64 y2, .int .i64 y3, .int .i64 y4, .int .i64 y5] 25)).heap[D]? = some (.cells #[.int .i64 x0, .int .i64 x1, .int .i64 x2, .int .i64 x3, .int .i64 x4, .int .i64 x5] 25) := (heap_old (o := .cells #[.int .i64 y0, .int .i64 y1, .int .i64 y2, .int .i64 y3, .int .i64 y4, .int .i64 y5] 25) (heap_new (by first | omega | (simp; omega))))
          have y1_0 := cell6_0 ld1
          have y1_1 := cell6_1 ld1
          have y1_2 := cell6_2 ld1
          have y1_3 := cell6_3 ld1
          have y1_4 := cell6_4 ld1
          have y1_5 := cell6_5 ld1
          clear ld1
          go_wp2_with fail
          refine (RX.out _).mono ?_
          rintro e v2 ⟨rfl, hb_v2⟩
          have cX_v2 : v2.heap[D]? = some (.cells #[.int .i64 x0, .int .i64 x1, .int .i64 x2, .int .i64 x3, .int .i64 x4, .int .i64 x5] 25) := (hb_v2.block (D) (Array.getElem?_eq_some_iff.1 (show ((w.alloc (.cells #[.int .i64 x0, .int .i64 x1, .int .i64 x2, .int .i64 x3, .int .i64 x4, .int .i64 x5] 25)).alloc (.cells #[.int .i64 y0, .int .i64 y1, .int .i64 y2, .int .i64 y3, .int .i64 y4, .int .i64 y5] 25)).heap[D]? = some (.cells #[.int .i64 x0, .int .i64 x1, .int .i64 x2, .int .i64 x3, .int .i64 x4, .int .i64 x5] 25) from (heap_old (o := .cells #[.int .i64 y0, .int .i64 y1, .int .i64 y2, .int .i64 y3, .int .i64 y4, .int .i64 y5] 25) (heap_new (by first | omega | (simp; omega)))))).1).trans (heap_old (o := .cells #[.int .i64 y0, .int .i64 y1, .int .i64 y2, .int .i64 y3, .int .i64 y4, .int .i64 y5] 25) (heap_new (by first | omega | (simp; omega))))
          have cY_v2 : v2.heap[D + 1]? = some (.cells #[.int .i64 y0, .int .i64 y1, .int .i64 y2, .int .i64 y3, .int .i64 y4, .int .i64 y5] 25) := (hb_v2.block (D + 1) (Array.getElem?_eq_some_iff.1 (show ((w.alloc (.cells #[.int .i64 x0, .int .i64 x1, .int .i64 x2, .int .i64 x3, .int .i64 x4, .int .i64 x5] 25)).alloc (.cells #[.int .i64 y0, .int .i64 y1, .int .i64 y2, .int .i64 y3, .int .i64 y4, .int .i64 y5] 25)).heap[D + 1]? = some (.cells #[.int .i64 y0, .int .i64 y1, .int .i64 y2, .int .i64 y3, .int .i64 y4, .int .i64 y5] 25) from (heap_new (by first | omega | (simp; omega))))).1).trans (heap_new (by first | omega | (simp; omega)))
          have hw_v2 : Below D w v2 := ((((Below.refl _ w).alloc (by first | omega | (simp; omega)) (.cells #[.int .i64 x0, .int .i64 x1, .int .i64 x2, .int .i64 x3, .int .i64 x4, .int .i64 x5] 25)).alloc (by first | omega | (simp; omega)) (.cells #[.int .i64 y0, .int .i64 y1, .int .i64 y2, .int .i64 y3, .int .i64 y4, .int .i64 y5] 25))).trans (hb_v2.mono (by first | omega | (simp; omega)))
          clear hb_v2 y1_0 y1_1 y1_2 y1_3 y1_4 y1_5
          obtain ⟨EOX, hEOX⟩ : ∃ E, v2.heap.size = E := ⟨_, rfl⟩
          have ld3 : (v2.alloc (.cells #[.int .i64 ra, .int .i64 rb, .int .i64 rc, .int .i64 (d : Int)] 29)).heap[D + 1]? = some (.cells #[.int .i64 y0, .int .i64 y1, .int .i64 y2, .int .i64 y3, .int .i64 y4, .int .i64 y5] 25) := (heap_old (o := .cells #[.int .i64 ra, .int .i64 rb, .int .i64 rc, .int .i64 (d : Int)] 29) cY_v2)
          have y3_0 := cell6_0 ld3
          have y3_1 := cell6_1 ld3
          have y3_2 := cell6_2 ld3
          have y3_3 := cell6_3 ld3
          have y3_4 := cell6_4 ld3
          have y3_5 := cell6_5 ld3
          clear ld3
          go_wp2_with fail
          refine (RY.out _).mono ?_
          rintro e v4 ⟨rfl, hb_v4⟩
          have hs_v4 := hw_v2.size
          have cX_v4 : v4.heap[D]? = some (.cells #[.int .i64 x0, .int .i64 x1, .int .i64 x2, .int .i64 x3, .int .i64 x4, .int .i64 x5] 25) := (hb_v4.block (D) (Array.getElem?_eq_some_iff.1 (show (v2.alloc (.cells #[.int .i64 ra, .int .i64 rb, .int .i64 rc, .int .i64 (d : Int)] 29)).heap[D]? = some (.cells #[.int .i64 x0, .int .i64 x1, .int .i64 x2, .int .i64 x3, .int .i64 x4, .int .i64 x5] 25) from (heap_old (o := .cells #[.int .i64 ra, .int .i64 rb, .int .i64 rc, .int .i64 (d : Int)] 29) cX_v2))).1).trans (heap_old (o := .cells #[.int .i64 ra, .int .i64 rb, .int .i64 rc, .int .i64 (d : Int)] 29) cX_v2)
          have cY_v4 : v4.heap[D + 1]? = some (.cells #[.int .i64 y0, .int .i64 y1, .int .i64 y2, .int .i64 y3, .int .i64 y4, .int .i64 y5] 25) := (hb_v4.block (D + 1) (Array.getElem?_eq_some_iff.1 (show (v2.alloc (.cells #[.int .i64 ra, .int .i64 rb, .int .i64 rc, .int .i64 (d : Int)] 29)).heap[D + 1]? = some (.cells #[.int .i64 y0, .int .i64 y1, .int .i64 y2, .int .i64 y3, .int .i64 y4, .int .i64 y5] 25) from (heap_old (o := .cells #[.int .i64 ra, .int .i64 rb, .int .i64 rc, .int .i64 (d : Int)] 29) cY_v2))).1).trans (heap_old (o := .cells #[.int .i64 ra, .int .i64 rb, .int .i64 rc, .int .i64 (d : Int)] 29) cY_v2)
          have cOX_v4 : v4.heap[EOX]? = some (.cells #[.int .i64 ra, .int .i64 rb, .int .i64 rc, .int .i64 (d : Int)] 29) := (hb_v4.block (EOX) (Array.getElem?_eq_some_iff.1 (show (v2.alloc (.cells #[.int .i64 ra, .int .i64 rb, .int .i64 rc, .int .i64 (d : Int)] 29)).heap[EOX]? = some (.cells #[.int .i64 ra, .int .i64 rb, .int .i64 rc, .int .i64 (d : Int)] 29) from (heap_new (by first | omega | (simp; omega))))).1).trans (heap_new (by first | omega | (simp; omega)))
          have hw_v4 : Below D w v4 := ((hw_v2.alloc (by have := hw_v2.size; first | omega | (simp; omega)) (.cells #[.int .i64 ra, .int .i64 rb, .int .i64 rc, .int .i64 (d : Int)] 29))).trans (hb_v4.mono (by first | omega | (simp; omega)))
          clear cX_v2 cY_v2 hb_v4 y3_0 y3_1 y3_2 y3_3 y3_4 y3_5 hw_v2 hs_v4
          obtain ⟨EOY, hEOY⟩ : ∃ E, v4.heap.size = E := ⟨_, rfl⟩
          have G1 : Gi (v4.alloc (.cells #[.int .i64 ta, .int .i64 tb, .int .i64 tc, .int .i64 (e : Int)] 29)) := G.below (by rw [hD]; exact (hw_v4.alloc (by have := hw_v4.size; first | omega | (simp; omega)) (.cells #[.int .i64 ta, .int .i64 tb, .int .i64 tc, .int .i64 (e : Int)] 29)))
          have N1 : Nm (v4.alloc (.cells #[.int .i64 ta, .int .i64 tb, .int .i64 tc, .int .i64 (e : Int)] 29)) := N.below (by rw [hD]; exact (hw_v4.alloc (by have := hw_v4.size; first | omega | (simp; omega)) (.cells #[.int .i64 ta, .int .i64 tb, .int .i64 tc, .int .i64 (e : Int)] 29)))
          go_wp2_with fail
          refine (KN.out _ G1 N1).mono ?_
          rintro e v5 ⟨rfl, hb_v5⟩
          have hs_v5 := hw_v4.size
          have cX_v5 : v5.heap[D]? = some (.cells #[.int .i64 x0, .int .i64 x1, .int .i64 x2, .int .i64 x3, .int .i64 x4, .int .i64 x5] 25) := (hb_v5.block (D) (Array.getElem?_eq_some_iff.1 (show (v4.alloc (.cells #[.int .i64 ta, .int .i64 tb, .int .i64 tc, .int .i64 (e : Int)] 29)).heap[D]? = some (.cells #[.int .i64 x0, .int .i64 x1, .int .i64 x2, .int .i64 x3, .int .i64 x4, .int .i64 x5] 25) from (heap_old (o := .cells #[.int .i64 ta, .int .i64 tb, .int .i64 tc, .int .i64 (e : Int)] 29) cX_v4))).1).trans (heap_old (o := .cells #[.int .i64 ta, .int .i64 tb, .int .i64 tc, .int .i64 (e : Int)] 29) cX_v4)
          have cY_v5 : v5.heap[D + 1]? = some (.cells #[.int .i64 y0, .int .i64 y1, .int .i64 y2, .int .i64 y3, .int .i64 y4, .int .i64 y5] 25) := (hb_v5.block (D + 1) (Array.getElem?_eq_some_iff.1 (show (v4.alloc (.cells #[.int .i64 ta, .int .i64 tb, .int .i64 tc, .int .i64 (e : Int)] 29)).heap[D + 1]? = some (.cells #[.int .i64 y0, .int .i64 y1, .int .i64 y2, .int .i64 y3, .int .i64 y4, .int .i64 y5] 25) from (heap_old (o := .cells #[.int .i64 ta, .int .i64 tb, .int .i64 tc, .int .i64 (e : Int)] 29) cY_v4))).1).trans (heap_old (o := .cells #[.int .i64 ta, .int .i64 tb, .int .i64 tc, .int .i64 (e : Int)] 29) cY_v4)
          have cOX_v5 : v5.heap[EOX]? = some (.cells #[.int .i64 ra, .int .i64 rb, .int .i64 rc, .int .i64 (d : Int)] 29) := (hb_v5.block (EOX) (Array.getElem?_eq_some_iff.1 (show (v4.alloc (.cells #[.int .i64 ta, .int .i64 tb, .int .i64 tc, .int .i64 (e : Int)] 29)).heap[EOX]? = some (.cells #[.int .i64 ra, .int .i64 rb, .int .i64 rc, .int .i64 (d : Int)] 29) from (heap_old (o := .cells #[.int .i64 ta, .int .i64 tb, .int .i64 tc, .int .i64 (e : Int)] 29) cOX_v4))).1).trans (heap_old (o := .cells #[.int .i64 ta, .int .i64 tb, .int .i64 tc, .int .i64 (e : Int)] 29) cOX_v4)
          have cOY_v5 : v5.heap[EOY]? = some (.cells #[.int .i64 ta, .int .i64 tb, .int .i64 tc, .int .i64 (e : Int)] 29) := (hb_v5.block (EOY) (Array.getElem?_eq_some_iff.1 (show (v4.alloc (.cells #[.int .i64 ta, .int .i64 tb, .int .i64 tc, .int .i64 (e : Int)] 29)).heap[EOY]? = some (.cells #[.int .i64 ta, .int .i64 tb, .int .i64 tc, .int .i64 (e : Int)] 29) from (heap_new (by first | omega | (simp; omega))))).1).trans (heap_new (by first | omega | (simp; omega)))
          have hw_v5 : Below D w v5 := ((hw_v4.alloc (by have := hw_v4.size; first | omega | (simp; omega)) (.cells #[.int .i64 ta, .int .i64 tb, .int .i64 tc, .int .i64 (e : Int)] 29))).trans (hb_v5.mono (by first | omega | (simp; omega)))
          clear cX_v4 cY_v4 cOX_v4 hb_v5 hw_v4 hs_v5
          have ld6 : v5.heap[EOX]? = some (.cells #[.int .i64 ra, .int .i64 rb, .int .i64 rc, .int .i64 (d : Int)] 29) := cOX_v5
          have y6_0 := cell4_0 ld6
          have y6_1 := cell4_1 ld6
          have y6_2 := cell4_2 ld6
          have y6_3 := cell4_3 ld6
          clear ld6
          have ld7 : v5.heap[EOY]? = some (.cells #[.int .i64 ta, .int .i64 tb, .int .i64 tc, .int .i64 (e : Int)] 29) := cOY_v5
          have y7_0 := cell4_0 ld7
          have y7_1 := cell4_1 ld7
          have y7_2 := cell4_2 ld7
          have y7_3 := cell4_3 ld7
          clear ld7
          go_wp2_with fail
          refine (RA.out _).mono ?_
          rintro e v8 ⟨rfl, hb_v8⟩
          have hs_v8 := hw_v5.size
          have cX_v8 : v8.heap[D]? = some (.cells #[.int .i64 x0, .int .i64 x1, .int .i64 x2, .int .i64 x3, .int .i64 x4, .int .i64 x5] 25) := (hb_v8.block (D) (Array.getElem?_eq_some_iff.1 (show v5.heap[D]? = some (.cells #[.int .i64 x0, .int .i64 x1, .int .i64 x2, .int .i64 x3, .int .i64 x4, .int .i64 x5] 25) from cX_v5)).1).trans cX_v5
          have cY_v8 : v8.heap[D + 1]? = some (.cells #[.int .i64 y0, .int .i64 y1, .int .i64 y2, .int .i64 y3, .int .i64 y4, .int .i64 y5] 25) := (hb_v8.block (D + 1) (Array.getElem?_eq_some_iff.1 (show v5.heap[D + 1]? = some (.cells #[.int .i64 y0, .int .i64 y1, .int .i64 y2, .int .i64 y3, .int .i64 y4, .int .i64 y5] 25) from cY_v5)).1).trans cY_v5
          have cOX_v8 : v8.heap[EOX]? = some (.cells #[.int .i64 ra, .int .i64 rb, .int .i64 rc, .int .i64 (d : Int)] 29) := (hb_v8.block (EOX) (Array.getElem?_eq_some_iff.1 (show v5.heap[EOX]? = some (.cells #[.int .i64 ra, .int .i64 rb, .int .i64 rc, .int .i64 (d : Int)] 29) from cOX_v5)).1).trans cOX_v5
          have cOY_v8 : v8.heap[EOY]? = some (.cells #[.int .i64 ta, .int .i64 tb, .int .i64 tc, .int .i64 (e : Int)] 29) := (hb_v8.block (EOY) (Array.getElem?_eq_some_iff.1 (show v5.heap[EOY]? = some (.cells #[.int .i64 ta, .int .i64 tb, .int .i64 tc, .int .i64 (e : Int)] 29) from cOY_v5)).1).trans cOY_v5
          have hw_v8 : Below D w v8 := (hw_v5).trans (hb_v8.mono (by first | omega | (simp; omega)))
          clear cX_v5 cY_v5 cOX_v5 cOY_v5 hb_v8 y6_0 y6_1 y6_2 y6_3 y7_0 y7_1 y7_2 y7_3 hw_v5 hs_v8
          obtain ⟨EDD, hEDD⟩ : ∃ E, v8.heap.size = E := ⟨_, rfl⟩
          have ld9 : (v8.alloc (.cells #[.int .i64 p0, .int .i64 p1, .int .i64 p2, .int .i64 (de : Int)] 29)).heap[EDD]? = some (.cells #[.int .i64 p0, .int .i64 p1, .int .i64 p2, .int .i64 (de : Int)] 29) := (heap_new (by first | omega | (simp; omega)))
          have y9_0 := cell4_0 ld9
          have y9_1 := cell4_1 ld9
          have y9_2 := cell4_2 ld9
          have y9_3 := cell4_3 ld9
          clear ld9
          go_wp2_with fail
          refine (WR.out _).mono ?_
          rintro e v10 ⟨rfl, hb_v10⟩
          have hs_v10 := hw_v8.size
          have cX_v10 : v10.heap[D]? = some (.cells #[.int .i64 x0, .int .i64 x1, .int .i64 x2, .int .i64 x3, .int .i64 x4, .int .i64 x5] 25) := (hb_v10.block (D) (Array.getElem?_eq_some_iff.1 (show (v8.alloc (.cells #[.int .i64 p0, .int .i64 p1, .int .i64 p2, .int .i64 (de : Int)] 29)).heap[D]? = some (.cells #[.int .i64 x0, .int .i64 x1, .int .i64 x2, .int .i64 x3, .int .i64 x4, .int .i64 x5] 25) from (heap_old (o := .cells #[.int .i64 p0, .int .i64 p1, .int .i64 p2, .int .i64 (de : Int)] 29) cX_v8))).1).trans (heap_old (o := .cells #[.int .i64 p0, .int .i64 p1, .int .i64 p2, .int .i64 (de : Int)] 29) cX_v8)
          have cY_v10 : v10.heap[D + 1]? = some (.cells #[.int .i64 y0, .int .i64 y1, .int .i64 y2, .int .i64 y3, .int .i64 y4, .int .i64 y5] 25) := (hb_v10.block (D + 1) (Array.getElem?_eq_some_iff.1 (show (v8.alloc (.cells #[.int .i64 p0, .int .i64 p1, .int .i64 p2, .int .i64 (de : Int)] 29)).heap[D + 1]? = some (.cells #[.int .i64 y0, .int .i64 y1, .int .i64 y2, .int .i64 y3, .int .i64 y4, .int .i64 y5] 25) from (heap_old (o := .cells #[.int .i64 p0, .int .i64 p1, .int .i64 p2, .int .i64 (de : Int)] 29) cY_v8))).1).trans (heap_old (o := .cells #[.int .i64 p0, .int .i64 p1, .int .i64 p2, .int .i64 (de : Int)] 29) cY_v8)
          have cOX_v10 : v10.heap[EOX]? = some (.cells #[.int .i64 ra, .int .i64 rb, .int .i64 rc, .int .i64 (d : Int)] 29) := (hb_v10.block (EOX) (Array.getElem?_eq_some_iff.1 (show (v8.alloc (.cells #[.int .i64 p0, .int .i64 p1, .int .i64 p2, .int .i64 (de : Int)] 29)).heap[EOX]? = some (.cells #[.int .i64 ra, .int .i64 rb, .int .i64 rc, .int .i64 (d : Int)] 29) from (heap_old (o := .cells #[.int .i64 p0, .int .i64 p1, .int .i64 p2, .int .i64 (de : Int)] 29) cOX_v8))).1).trans (heap_old (o := .cells #[.int .i64 p0, .int .i64 p1, .int .i64 p2, .int .i64 (de : Int)] 29) cOX_v8)
          have cOY_v10 : v10.heap[EOY]? = some (.cells #[.int .i64 ta, .int .i64 tb, .int .i64 tc, .int .i64 (e : Int)] 29) := (hb_v10.block (EOY) (Array.getElem?_eq_some_iff.1 (show (v8.alloc (.cells #[.int .i64 p0, .int .i64 p1, .int .i64 p2, .int .i64 (de : Int)] 29)).heap[EOY]? = some (.cells #[.int .i64 ta, .int .i64 tb, .int .i64 tc, .int .i64 (e : Int)] 29) from (heap_old (o := .cells #[.int .i64 p0, .int .i64 p1, .int .i64 p2, .int .i64 (de : Int)] 29) cOY_v8))).1).trans (heap_old (o := .cells #[.int .i64 p0, .int .i64 p1, .int .i64 p2, .int .i64 (de : Int)] 29) cOY_v8)
          have cDD_v10 : v10.heap[EDD]? = some (.cells #[.int .i64 p0, .int .i64 p1, .int .i64 p2, .int .i64 (de : Int)] 29) := (hb_v10.block (EDD) (Array.getElem?_eq_some_iff.1 (show (v8.alloc (.cells #[.int .i64 p0, .int .i64 p1, .int .i64 p2, .int .i64 (de : Int)] 29)).heap[EDD]? = some (.cells #[.int .i64 p0, .int .i64 p1, .int .i64 p2, .int .i64 (de : Int)] 29) from (heap_new (by first | omega | (simp; omega))))).1).trans (heap_new (by first | omega | (simp; omega)))
          have hw_v10 : Below D w v10 := ((hw_v8.alloc (by have := hw_v8.size; first | omega | (simp; omega)) (.cells #[.int .i64 p0, .int .i64 p1, .int .i64 p2, .int .i64 (de : Int)] 29))).trans (hb_v10.mono (by first | omega | (simp; omega)))
          clear cX_v8 cY_v8 cOX_v8 cOY_v8 hb_v10 y9_0 y9_1 y9_2 y9_3 hw_v8 hs_v10
          go_wp2_with fail
          refine (RO.out _).mono ?_
          rintro e v11 ⟨rfl, hb_v11⟩
          have hs_v11 := hw_v10.size
          have cX_v11 : v11.heap[D]? = some (.cells #[.int .i64 x0, .int .i64 x1, .int .i64 x2, .int .i64 x3, .int .i64 x4, .int .i64 x5] 25) := (hb_v11.block (D) (Array.getElem?_eq_some_iff.1 (show v10.heap[D]? = some (.cells #[.int .i64 x0, .int .i64 x1, .int .i64 x2, .int .i64 x3, .int .i64 x4, .int .i64 x5] 25) from cX_v10)).1).trans cX_v10
          have cY_v11 : v11.heap[D + 1]? = some (.cells #[.int .i64 y0, .int .i64 y1, .int .i64 y2, .int .i64 y3, .int .i64 y4, .int .i64 y5] 25) := (hb_v11.block (D + 1) (Array.getElem?_eq_some_iff.1 (show v10.heap[D + 1]? = some (.cells #[.int .i64 y0, .int .i64 y1, .int .i64 y2, .int .i64 y3, .int .i64 y4, .int .i64 y5] 25) from cY_v10)).1).trans cY_v10
          have cOX_v11 : v11.heap[EOX]? = some (.cells #[.int .i64 ra, .int .i64 rb, .int .i64 rc, .int .i64 (d : Int)] 29) := (hb_v11.block (EOX) (Array.getElem?_eq_some_iff.1 (show v10.heap[EOX]? = some (.cells #[.int .i64 ra, .int .i64 rb, .int .i64 rc, .int .i64 (d : Int)] 29) from cOX_v10)).1).trans cOX_v10
          have cOY_v11 : v11.heap[EOY]? = some (.cells #[.int .i64 ta, .int .i64 tb, .int .i64 tc, .int .i64 (e : Int)] 29) := (hb_v11.block (EOY) (Array.getElem?_eq_some_iff.1 (show v10.heap[EOY]? = some (.cells #[.int .i64 ta, .int .i64 tb, .int .i64 tc, .int .i64 (e : Int)] 29) from cOY_v10)).1).trans cOY_v10
          have cDD_v11 : v11.heap[EDD]? = some (.cells #[.int .i64 p0, .int .i64 p1, .int .i64 p2, .int .i64 (de : Int)] 29) := (hb_v11.block (EDD) (Array.getElem?_eq_some_iff.1 (show v10.heap[EDD]? = some (.cells #[.int .i64 p0, .int .i64 p1, .int .i64 p2, .int .i64 (de : Int)] 29) from cDD_v10)).1).trans cDD_v10
          have hw_v11 : Below D w v11 := (hw_v10).trans (hb_v11.mono (by first | omega | (simp; omega)))
          clear cX_v10 cY_v10 cOX_v10 cOY_v10 cDD_v10 hb_v11 hw_v10 hs_v11
          obtain ⟨EO, hEO⟩ : ∃ E, v11.heap.size = E := ⟨_, rfl⟩
          have ld12 : (v11.alloc (.cells #[.int .i64 oa, .int .i64 ob, .int .i64 oc, .int .i64 (o : Int)] 29)).heap[EO]? = some (.cells #[.int .i64 oa, .int .i64 ob, .int .i64 oc, .int .i64 (o : Int)] 29) := (heap_new (by first | omega | (simp; omega)))
          have y12_0 := cell4_0 ld12
          have y12_1 := cell4_1 ld12
          have y12_2 := cell4_2 ld12
          have y12_3 := cell4_3 ld12
          clear ld12
          go_wp2_with fail
          refine (SH.out _).mono ?_
          rintro e v13 ⟨rfl, hb_v13⟩
          have hs_v13 := hw_v11.size
          have cX_v13 : v13.heap[D]? = some (.cells #[.int .i64 x0, .int .i64 x1, .int .i64 x2, .int .i64 x3, .int .i64 x4, .int .i64 x5] 25) := (hb_v13.block (D) (Array.getElem?_eq_some_iff.1 (show (v11.alloc (.cells #[.int .i64 oa, .int .i64 ob, .int .i64 oc, .int .i64 (o : Int)] 29)).heap[D]? = some (.cells #[.int .i64 x0, .int .i64 x1, .int .i64 x2, .int .i64 x3, .int .i64 x4, .int .i64 x5] 25) from (heap_old (o := .cells #[.int .i64 oa, .int .i64 ob, .int .i64 oc, .int .i64 (o : Int)] 29) cX_v11))).1).trans (heap_old (o := .cells #[.int .i64 oa, .int .i64 ob, .int .i64 oc, .int .i64 (o : Int)] 29) cX_v11)
          have cY_v13 : v13.heap[D + 1]? = some (.cells #[.int .i64 y0, .int .i64 y1, .int .i64 y2, .int .i64 y3, .int .i64 y4, .int .i64 y5] 25) := (hb_v13.block (D + 1) (Array.getElem?_eq_some_iff.1 (show (v11.alloc (.cells #[.int .i64 oa, .int .i64 ob, .int .i64 oc, .int .i64 (o : Int)] 29)).heap[D + 1]? = some (.cells #[.int .i64 y0, .int .i64 y1, .int .i64 y2, .int .i64 y3, .int .i64 y4, .int .i64 y5] 25) from (heap_old (o := .cells #[.int .i64 oa, .int .i64 ob, .int .i64 oc, .int .i64 (o : Int)] 29) cY_v11))).1).trans (heap_old (o := .cells #[.int .i64 oa, .int .i64 ob, .int .i64 oc, .int .i64 (o : Int)] 29) cY_v11)
          have cOX_v13 : v13.heap[EOX]? = some (.cells #[.int .i64 ra, .int .i64 rb, .int .i64 rc, .int .i64 (d : Int)] 29) := (hb_v13.block (EOX) (Array.getElem?_eq_some_iff.1 (show (v11.alloc (.cells #[.int .i64 oa, .int .i64 ob, .int .i64 oc, .int .i64 (o : Int)] 29)).heap[EOX]? = some (.cells #[.int .i64 ra, .int .i64 rb, .int .i64 rc, .int .i64 (d : Int)] 29) from (heap_old (o := .cells #[.int .i64 oa, .int .i64 ob, .int .i64 oc, .int .i64 (o : Int)] 29) cOX_v11))).1).trans (heap_old (o := .cells #[.int .i64 oa, .int .i64 ob, .int .i64 oc, .int .i64 (o : Int)] 29) cOX_v11)
          have cOY_v13 : v13.heap[EOY]? = some (.cells #[.int .i64 ta, .int .i64 tb, .int .i64 tc, .int .i64 (e : Int)] 29) := (hb_v13.block (EOY) (Array.getElem?_eq_some_iff.1 (show (v11.alloc (.cells #[.int .i64 oa, .int .i64 ob, .int .i64 oc, .int .i64 (o : Int)] 29)).heap[EOY]? = some (.cells #[.int .i64 ta, .int .i64 tb, .int .i64 tc, .int .i64 (e : Int)] 29) from (heap_old (o := .cells #[.int .i64 oa, .int .i64 ob, .int .i64 oc, .int .i64 (o : Int)] 29) cOY_v11))).1).trans (heap_old (o := .cells #[.int .i64 oa, .int .i64 ob, .int .i64 oc, .int .i64 (o : Int)] 29) cOY_v11)
          have cDD_v13 : v13.heap[EDD]? = some (.cells #[.int .i64 p0, .int .i64 p1, .int .i64 p2, .int .i64 (de : Int)] 29) := (hb_v13.block (EDD) (Array.getElem?_eq_some_iff.1 (show (v11.alloc (.cells #[.int .i64 oa, .int .i64 ob, .int .i64 oc, .int .i64 (o : Int)] 29)).heap[EDD]? = some (.cells #[.int .i64 p0, .int .i64 p1, .int .i64 p2, .int .i64 (de : Int)] 29) from (heap_old (o := .cells #[.int .i64 oa, .int .i64 ob, .int .i64 oc, .int .i64 (o : Int)] 29) cDD_v11))).1).trans (heap_old (o := .cells #[.int .i64 oa, .int .i64 ob, .int .i64 oc, .int .i64 (o : Int)] 29) cDD_v11)
          have cO_v13 : v13.heap[EO]? = some (.cells #[.int .i64 oa, .int .i64 ob, .int .i64 oc, .int .i64 (o : Int)] 29) := (hb_v13.block (EO) (Array.getElem?_eq_some_iff.1 (show (v11.alloc (.cells #[.int .i64 oa, .int .i64 ob, .int .i64 oc, .int .i64 (o : Int)] 29)).heap[EO]? = some (.cells #[.int .i64 oa, .int .i64 ob, .int .i64 oc, .int .i64 (o : Int)] 29) from (heap_new (by first | omega | (simp; omega))))).1).trans (heap_new (by first | omega | (simp; omega)))
          have hw_v13 : Below D w v13 := ((hw_v11.alloc (by have := hw_v11.size; first | omega | (simp; omega)) (.cells #[.int .i64 oa, .int .i64 ob, .int .i64 oc, .int .i64 (o : Int)] 29))).trans (hb_v13.mono (by first | omega | (simp; omega)))
          clear cX_v11 cY_v11 cOX_v11 cOY_v11 cDD_v11 hb_v13 y12_0 y12_1 y12_2 y12_3 hw_v11 hs_v13
          have HW := Lib.hid (hw_v13)
          clear KN RX RY RA WR RO SH SX SI CA CB SO SA
          go_wp2
          go_ret
          exact ⟨rfl, by first | exact HW.out | (rw [hD]; exact HW.out)⟩
        | true =>
          cases lx with
          | false =>
            go_enter Tryz.func7, Tryz.ntmps7
            have ld1 : ((w.alloc (.cells #[.int .i64 x0, .int .i64 x1, .int .i64 x2, .int .i64 x3, .int .i64 x4, .int .i64 x5] 25)).alloc (.cells #[.int .i64 y0, .int .i64 y1, .int .i64 y2, .int .i64 y3, .int .i64 y4, .int .i64 y5] 25)).heap[D]? = some (.cells #[.int .i64 x0, .int .i64 x1, .int .i64 x2, .int .i64 x3, .int .i64 x4, .int .i64 x5] 25) := (heap_old (o := .cells #[.int .i64 y0, .int .i64 y1, .int .i64 y2, .int .i64 y3, .int .i64 y4, .int .i64 y5] 25) (heap_new (by first | omega | (simp; omega))))
            have y1_0 := cell6_0 ld1
            have y1_1 := cell6_1 ld1
            have y1_2 := cell6_2 ld1
            have y1_3 := cell6_3 ld1
            have y1_4 := cell6_4 ld1
            have y1_5 := cell6_5 ld1
            clear ld1
            go_wp2_with fail
            refine (RX.out _).mono ?_
            rintro e v2 ⟨rfl, hb_v2⟩
            have cX_v2 : v2.heap[D]? = some (.cells #[.int .i64 x0, .int .i64 x1, .int .i64 x2, .int .i64 x3, .int .i64 x4, .int .i64 x5] 25) := (hb_v2.block (D) (Array.getElem?_eq_some_iff.1 (show ((w.alloc (.cells #[.int .i64 x0, .int .i64 x1, .int .i64 x2, .int .i64 x3, .int .i64 x4, .int .i64 x5] 25)).alloc (.cells #[.int .i64 y0, .int .i64 y1, .int .i64 y2, .int .i64 y3, .int .i64 y4, .int .i64 y5] 25)).heap[D]? = some (.cells #[.int .i64 x0, .int .i64 x1, .int .i64 x2, .int .i64 x3, .int .i64 x4, .int .i64 x5] 25) from (heap_old (o := .cells #[.int .i64 y0, .int .i64 y1, .int .i64 y2, .int .i64 y3, .int .i64 y4, .int .i64 y5] 25) (heap_new (by first | omega | (simp; omega)))))).1).trans (heap_old (o := .cells #[.int .i64 y0, .int .i64 y1, .int .i64 y2, .int .i64 y3, .int .i64 y4, .int .i64 y5] 25) (heap_new (by first | omega | (simp; omega))))
            have cY_v2 : v2.heap[D + 1]? = some (.cells #[.int .i64 y0, .int .i64 y1, .int .i64 y2, .int .i64 y3, .int .i64 y4, .int .i64 y5] 25) := (hb_v2.block (D + 1) (Array.getElem?_eq_some_iff.1 (show ((w.alloc (.cells #[.int .i64 x0, .int .i64 x1, .int .i64 x2, .int .i64 x3, .int .i64 x4, .int .i64 x5] 25)).alloc (.cells #[.int .i64 y0, .int .i64 y1, .int .i64 y2, .int .i64 y3, .int .i64 y4, .int .i64 y5] 25)).heap[D + 1]? = some (.cells #[.int .i64 y0, .int .i64 y1, .int .i64 y2, .int .i64 y3, .int .i64 y4, .int .i64 y5] 25) from (heap_new (by first | omega | (simp; omega))))).1).trans (heap_new (by first | omega | (simp; omega)))
            have hw_v2 : Below D w v2 := ((((Below.refl _ w).alloc (by first | omega | (simp; omega)) (.cells #[.int .i64 x0, .int .i64 x1, .int .i64 x2, .int .i64 x3, .int .i64 x4, .int .i64 x5] 25)).alloc (by first | omega | (simp; omega)) (.cells #[.int .i64 y0, .int .i64 y1, .int .i64 y2, .int .i64 y3, .int .i64 y4, .int .i64 y5] 25))).trans (hb_v2.mono (by first | omega | (simp; omega)))
            clear hb_v2 y1_0 y1_1 y1_2 y1_3 y1_4 y1_5
            obtain ⟨EOX, hEOX⟩ : ∃ E, v2.heap.size = E := ⟨_, rfl⟩
            have ld3 : (v2.alloc (.cells #[.int .i64 ra, .int .i64 rb, .int .i64 rc, .int .i64 (d : Int)] 29)).heap[D + 1]? = some (.cells #[.int .i64 y0, .int .i64 y1, .int .i64 y2, .int .i64 y3, .int .i64 y4, .int .i64 y5] 25) := (heap_old (o := .cells #[.int .i64 ra, .int .i64 rb, .int .i64 rc, .int .i64 (d : Int)] 29) cY_v2)
            have y3_0 := cell6_0 ld3
            have y3_1 := cell6_1 ld3
            have y3_2 := cell6_2 ld3
            have y3_3 := cell6_3 ld3
            have y3_4 := cell6_4 ld3
            have y3_5 := cell6_5 ld3
            clear ld3
            go_wp2_with fail
            refine (RY.out _).mono ?_
            rintro e v4 ⟨rfl, hb_v4⟩
            have hs_v4 := hw_v2.size
            have cX_v4 : v4.heap[D]? = some (.cells #[.int .i64 x0, .int .i64 x1, .int .i64 x2, .int .i64 x3, .int .i64 x4, .int .i64 x5] 25) := (hb_v4.block (D) (Array.getElem?_eq_some_iff.1 (show (v2.alloc (.cells #[.int .i64 ra, .int .i64 rb, .int .i64 rc, .int .i64 (d : Int)] 29)).heap[D]? = some (.cells #[.int .i64 x0, .int .i64 x1, .int .i64 x2, .int .i64 x3, .int .i64 x4, .int .i64 x5] 25) from (heap_old (o := .cells #[.int .i64 ra, .int .i64 rb, .int .i64 rc, .int .i64 (d : Int)] 29) cX_v2))).1).trans (heap_old (o := .cells #[.int .i64 ra, .int .i64 rb, .int .i64 rc, .int .i64 (d : Int)] 29) cX_v2)
            have cY_v4 : v4.heap[D + 1]? = some (.cells #[.int .i64 y0, .int .i64 y1, .int .i64 y2, .int .i64 y3, .int .i64 y4, .int .i64 y5] 25) := (hb_v4.block (D + 1) (Array.getElem?_eq_some_iff.1 (show (v2.alloc (.cells #[.int .i64 ra, .int .i64 rb, .int .i64 rc, .int .i64 (d : Int)] 29)).heap[D + 1]? = some (.cells #[.int .i64 y0, .int .i64 y1, .int .i64 y2, .int .i64 y3, .int .i64 y4, .int .i64 y5] 25) from (heap_old (o := .cells #[.int .i64 ra, .int .i64 rb, .int .i64 rc, .int .i64 (d : Int)] 29) cY_v2))).1).trans (heap_old (o := .cells #[.int .i64 ra, .int .i64 rb, .int .i64 rc, .int .i64 (d : Int)] 29) cY_v2)
            have cOX_v4 : v4.heap[EOX]? = some (.cells #[.int .i64 ra, .int .i64 rb, .int .i64 rc, .int .i64 (d : Int)] 29) := (hb_v4.block (EOX) (Array.getElem?_eq_some_iff.1 (show (v2.alloc (.cells #[.int .i64 ra, .int .i64 rb, .int .i64 rc, .int .i64 (d : Int)] 29)).heap[EOX]? = some (.cells #[.int .i64 ra, .int .i64 rb, .int .i64 rc, .int .i64 (d : Int)] 29) from (heap_new (by first | omega | (simp; omega))))).1).trans (heap_new (by first | omega | (simp; omega)))
            have hw_v4 : Below D w v4 := ((hw_v2.alloc (by have := hw_v2.size; first | omega | (simp; omega)) (.cells #[.int .i64 ra, .int .i64 rb, .int .i64 rc, .int .i64 (d : Int)] 29))).trans (hb_v4.mono (by first | omega | (simp; omega)))
            clear cX_v2 cY_v2 hb_v4 y3_0 y3_1 y3_2 y3_3 y3_4 y3_5 hw_v2 hs_v4
            obtain ⟨EOY, hEOY⟩ : ∃ E, v4.heap.size = E := ⟨_, rfl⟩
            have G1 : Gi (v4.alloc (.cells #[.int .i64 ta, .int .i64 tb, .int .i64 tc, .int .i64 (e : Int)] 29)) := G.below (by rw [hD]; exact (hw_v4.alloc (by have := hw_v4.size; first | omega | (simp; omega)) (.cells #[.int .i64 ta, .int .i64 tb, .int .i64 tc, .int .i64 (e : Int)] 29)))
            have N1 : Nm (v4.alloc (.cells #[.int .i64 ta, .int .i64 tb, .int .i64 tc, .int .i64 (e : Int)] 29)) := N.below (by rw [hD]; exact (hw_v4.alloc (by have := hw_v4.size; first | omega | (simp; omega)) (.cells #[.int .i64 ta, .int .i64 tb, .int .i64 tc, .int .i64 (e : Int)] 29)))
            go_wp2_with fail
            refine (KN.out _ G1 N1).mono ?_
            rintro e v5 ⟨rfl, hb_v5⟩
            have hs_v5 := hw_v4.size
            have cX_v5 : v5.heap[D]? = some (.cells #[.int .i64 x0, .int .i64 x1, .int .i64 x2, .int .i64 x3, .int .i64 x4, .int .i64 x5] 25) := (hb_v5.block (D) (Array.getElem?_eq_some_iff.1 (show (v4.alloc (.cells #[.int .i64 ta, .int .i64 tb, .int .i64 tc, .int .i64 (e : Int)] 29)).heap[D]? = some (.cells #[.int .i64 x0, .int .i64 x1, .int .i64 x2, .int .i64 x3, .int .i64 x4, .int .i64 x5] 25) from (heap_old (o := .cells #[.int .i64 ta, .int .i64 tb, .int .i64 tc, .int .i64 (e : Int)] 29) cX_v4))).1).trans (heap_old (o := .cells #[.int .i64 ta, .int .i64 tb, .int .i64 tc, .int .i64 (e : Int)] 29) cX_v4)
            have cY_v5 : v5.heap[D + 1]? = some (.cells #[.int .i64 y0, .int .i64 y1, .int .i64 y2, .int .i64 y3, .int .i64 y4, .int .i64 y5] 25) := (hb_v5.block (D + 1) (Array.getElem?_eq_some_iff.1 (show (v4.alloc (.cells #[.int .i64 ta, .int .i64 tb, .int .i64 tc, .int .i64 (e : Int)] 29)).heap[D + 1]? = some (.cells #[.int .i64 y0, .int .i64 y1, .int .i64 y2, .int .i64 y3, .int .i64 y4, .int .i64 y5] 25) from (heap_old (o := .cells #[.int .i64 ta, .int .i64 tb, .int .i64 tc, .int .i64 (e : Int)] 29) cY_v4))).1).trans (heap_old (o := .cells #[.int .i64 ta, .int .i64 tb, .int .i64 tc, .int .i64 (e : Int)] 29) cY_v4)
            have cOX_v5 : v5.heap[EOX]? = some (.cells #[.int .i64 ra, .int .i64 rb, .int .i64 rc, .int .i64 (d : Int)] 29) := (hb_v5.block (EOX) (Array.getElem?_eq_some_iff.1 (show (v4.alloc (.cells #[.int .i64 ta, .int .i64 tb, .int .i64 tc, .int .i64 (e : Int)] 29)).heap[EOX]? = some (.cells #[.int .i64 ra, .int .i64 rb, .int .i64 rc, .int .i64 (d : Int)] 29) from (heap_old (o := .cells #[.int .i64 ta, .int .i64 tb, .int .i64 tc, .int .i64 (e : Int)] 29) cOX_v4))).1).trans (heap_old (o := .cells #[.int .i64 ta, .int .i64 tb, .int .i64 tc, .int .i64 (e : Int)] 29) cOX_v4)
            have cOY_v5 : v5.heap[EOY]? = some (.cells #[.int .i64 ta, .int .i64 tb, .int .i64 tc, .int .i64 (e : Int)] 29) := (hb_v5.block (EOY) (Array.getElem?_eq_some_iff.1 (show (v4.alloc (.cells #[.int .i64 ta, .int .i64 tb, .int .i64 tc, .int .i64 (e : Int)] 29)).heap[EOY]? = some (.cells #[.int .i64 ta, .int .i64 tb, .int .i64 tc, .int .i64 (e : Int)] 29) from (heap_new (by first | omega | (simp; omega))))).1).trans (heap_new (by first | omega | (simp; omega)))
            have hw_v5 : Below D w v5 := ((hw_v4.alloc (by have := hw_v4.size; first | omega | (simp; omega)) (.cells #[.int .i64 ta, .int .i64 tb, .int .i64 tc, .int .i64 (e : Int)] 29))).trans (hb_v5.mono (by first | omega | (simp; omega)))
            clear cX_v4 cY_v4 cOX_v4 hb_v5 hw_v4 hs_v5
            have ld6 : v5.heap[EOX]? = some (.cells #[.int .i64 ra, .int .i64 rb, .int .i64 rc, .int .i64 (d : Int)] 29) := cOX_v5
            have y6_0 := cell4_0 ld6
            have y6_1 := cell4_1 ld6
            have y6_2 := cell4_2 ld6
            have y6_3 := cell4_3 ld6
            clear ld6
            have ld7 : v5.heap[EOY]? = some (.cells #[.int .i64 ta, .int .i64 tb, .int .i64 tc, .int .i64 (e : Int)] 29) := cOY_v5
            have y7_0 := cell4_0 ld7
            have y7_1 := cell4_1 ld7
            have y7_2 := cell4_2 ld7
            have y7_3 := cell4_3 ld7
            clear ld7
            go_wp2_with fail
            refine (RA.out _).mono ?_
            rintro e v8 ⟨rfl, hb_v8⟩
            have hs_v8 := hw_v5.size
            have cX_v8 : v8.heap[D]? = some (.cells #[.int .i64 x0, .int .i64 x1, .int .i64 x2, .int .i64 x3, .int .i64 x4, .int .i64 x5] 25) := (hb_v8.block (D) (Array.getElem?_eq_some_iff.1 (show v5.heap[D]? = some (.cells #[.int .i64 x0, .int .i64 x1, .int .i64 x2, .int .i64 x3, .int .i64 x4, .int .i64 x5] 25) from cX_v5)).1).trans cX_v5
            have cY_v8 : v8.heap[D + 1]? = some (.cells #[.int .i64 y0, .int .i64 y1, .int .i64 y2, .int .i64 y3, .int .i64 y4, .int .i64 y5] 25) := (hb_v8.block (D + 1) (Array.getElem?_eq_some_iff.1 (show v5.heap[D + 1]? = some (.cells #[.int .i64 y0, .int .i64 y1, .int .i64 y2, .int .i64 y3, .int .i64 y4, .int .i64 y5] 25) from cY_v5)).1).trans cY_v5
            have cOX_v8 : v8.heap[EOX]? = some (.cells #[.int .i64 ra, .int .i64 rb, .int .i64 rc, .int .i64 (d : Int)] 29) := (hb_v8.block (EOX) (Array.getElem?_eq_some_iff.1 (show v5.heap[EOX]? = some (.cells #[.int .i64 ra, .int .i64 rb, .int .i64 rc, .int .i64 (d : Int)] 29) from cOX_v5)).1).trans cOX_v5
            have cOY_v8 : v8.heap[EOY]? = some (.cells #[.int .i64 ta, .int .i64 tb, .int .i64 tc, .int .i64 (e : Int)] 29) := (hb_v8.block (EOY) (Array.getElem?_eq_some_iff.1 (show v5.heap[EOY]? = some (.cells #[.int .i64 ta, .int .i64 tb, .int .i64 tc, .int .i64 (e : Int)] 29) from cOY_v5)).1).trans cOY_v5
            have hw_v8 : Below D w v8 := (hw_v5).trans (hb_v8.mono (by first | omega | (simp; omega)))
            clear cX_v5 cY_v5 cOX_v5 cOY_v5 hb_v8 y6_0 y6_1 y6_2 y6_3 y7_0 y7_1 y7_2 y7_3 hw_v5 hs_v8
            obtain ⟨EDD, hEDD⟩ : ∃ E, v8.heap.size = E := ⟨_, rfl⟩
            have ld9 : (v8.alloc (.cells #[.int .i64 p0, .int .i64 p1, .int .i64 p2, .int .i64 (de : Int)] 29)).heap[EDD]? = some (.cells #[.int .i64 p0, .int .i64 p1, .int .i64 p2, .int .i64 (de : Int)] 29) := (heap_new (by first | omega | (simp; omega)))
            have y9_0 := cell4_0 ld9
            have y9_1 := cell4_1 ld9
            have y9_2 := cell4_2 ld9
            have y9_3 := cell4_3 ld9
            clear ld9
            go_wp2_with fail
            refine (WR.out _).mono ?_
            rintro e v10 ⟨rfl, hb_v10⟩
            have hs_v10 := hw_v8.size
            have cX_v10 : v10.heap[D]? = some (.cells #[.int .i64 x0, .int .i64 x1, .int .i64 x2, .int .i64 x3, .int .i64 x4, .int .i64 x5] 25) := (hb_v10.block (D) (Array.getElem?_eq_some_iff.1 (show (v8.alloc (.cells #[.int .i64 p0, .int .i64 p1, .int .i64 p2, .int .i64 (de : Int)] 29)).heap[D]? = some (.cells #[.int .i64 x0, .int .i64 x1, .int .i64 x2, .int .i64 x3, .int .i64 x4, .int .i64 x5] 25) from (heap_old (o := .cells #[.int .i64 p0, .int .i64 p1, .int .i64 p2, .int .i64 (de : Int)] 29) cX_v8))).1).trans (heap_old (o := .cells #[.int .i64 p0, .int .i64 p1, .int .i64 p2, .int .i64 (de : Int)] 29) cX_v8)
            have cY_v10 : v10.heap[D + 1]? = some (.cells #[.int .i64 y0, .int .i64 y1, .int .i64 y2, .int .i64 y3, .int .i64 y4, .int .i64 y5] 25) := (hb_v10.block (D + 1) (Array.getElem?_eq_some_iff.1 (show (v8.alloc (.cells #[.int .i64 p0, .int .i64 p1, .int .i64 p2, .int .i64 (de : Int)] 29)).heap[D + 1]? = some (.cells #[.int .i64 y0, .int .i64 y1, .int .i64 y2, .int .i64 y3, .int .i64 y4, .int .i64 y5] 25) from (heap_old (o := .cells #[.int .i64 p0, .int .i64 p1, .int .i64 p2, .int .i64 (de : Int)] 29) cY_v8))).1).trans (heap_old (o := .cells #[.int .i64 p0, .int .i64 p1, .int .i64 p2, .int .i64 (de : Int)] 29) cY_v8)
            have cOX_v10 : v10.heap[EOX]? = some (.cells #[.int .i64 ra, .int .i64 rb, .int .i64 rc, .int .i64 (d : Int)] 29) := (hb_v10.block (EOX) (Array.getElem?_eq_some_iff.1 (show (v8.alloc (.cells #[.int .i64 p0, .int .i64 p1, .int .i64 p2, .int .i64 (de : Int)] 29)).heap[EOX]? = some (.cells #[.int .i64 ra, .int .i64 rb, .int .i64 rc, .int .i64 (d : Int)] 29) from (heap_old (o := .cells #[.int .i64 p0, .int .i64 p1, .int .i64 p2, .int .i64 (de : Int)] 29) cOX_v8))).1).trans (heap_old (o := .cells #[.int .i64 p0, .int .i64 p1, .int .i64 p2, .int .i64 (de : Int)] 29) cOX_v8)
            have cOY_v10 : v10.heap[EOY]? = some (.cells #[.int .i64 ta, .int .i64 tb, .int .i64 tc, .int .i64 (e : Int)] 29) := (hb_v10.block (EOY) (Array.getElem?_eq_some_iff.1 (show (v8.alloc (.cells #[.int .i64 p0, .int .i64 p1, .int .i64 p2, .int .i64 (de : Int)] 29)).heap[EOY]? = some (.cells #[.int .i64 ta, .int .i64 tb, .int .i64 tc, .int .i64 (e : Int)] 29) from (heap_old (o := .cells #[.int .i64 p0, .int .i64 p1, .int .i64 p2, .int .i64 (de : Int)] 29) cOY_v8))).1).trans (heap_old (o := .cells #[.int .i64 p0, .int .i64 p1, .int .i64 p2, .int .i64 (de : Int)] 29) cOY_v8)
            have cDD_v10 : v10.heap[EDD]? = some (.cells #[.int .i64 p0, .int .i64 p1, .int .i64 p2, .int .i64 (de : Int)] 29) := (hb_v10.block (EDD) (Array.getElem?_eq_some_iff.1 (show (v8.alloc (.cells #[.int .i64 p0, .int .i64 p1, .int .i64 p2, .int .i64 (de : Int)] 29)).heap[EDD]? = some (.cells #[.int .i64 p0, .int .i64 p1, .int .i64 p2, .int .i64 (de : Int)] 29) from (heap_new (by first | omega | (simp; omega))))).1).trans (heap_new (by first | omega | (simp; omega)))
            have hw_v10 : Below D w v10 := ((hw_v8.alloc (by have := hw_v8.size; first | omega | (simp; omega)) (.cells #[.int .i64 p0, .int .i64 p1, .int .i64 p2, .int .i64 (de : Int)] 29))).trans (hb_v10.mono (by first | omega | (simp; omega)))
            clear cX_v8 cY_v8 cOX_v8 cOY_v8 hb_v10 y9_0 y9_1 y9_2 y9_3 hw_v8 hs_v10
            go_wp2_with fail
            refine (RO.out _).mono ?_
            rintro e v11 ⟨rfl, hb_v11⟩
            have hs_v11 := hw_v10.size
            have cX_v11 : v11.heap[D]? = some (.cells #[.int .i64 x0, .int .i64 x1, .int .i64 x2, .int .i64 x3, .int .i64 x4, .int .i64 x5] 25) := (hb_v11.block (D) (Array.getElem?_eq_some_iff.1 (show v10.heap[D]? = some (.cells #[.int .i64 x0, .int .i64 x1, .int .i64 x2, .int .i64 x3, .int .i64 x4, .int .i64 x5] 25) from cX_v10)).1).trans cX_v10
            have cY_v11 : v11.heap[D + 1]? = some (.cells #[.int .i64 y0, .int .i64 y1, .int .i64 y2, .int .i64 y3, .int .i64 y4, .int .i64 y5] 25) := (hb_v11.block (D + 1) (Array.getElem?_eq_some_iff.1 (show v10.heap[D + 1]? = some (.cells #[.int .i64 y0, .int .i64 y1, .int .i64 y2, .int .i64 y3, .int .i64 y4, .int .i64 y5] 25) from cY_v10)).1).trans cY_v10
            have cOX_v11 : v11.heap[EOX]? = some (.cells #[.int .i64 ra, .int .i64 rb, .int .i64 rc, .int .i64 (d : Int)] 29) := (hb_v11.block (EOX) (Array.getElem?_eq_some_iff.1 (show v10.heap[EOX]? = some (.cells #[.int .i64 ra, .int .i64 rb, .int .i64 rc, .int .i64 (d : Int)] 29) from cOX_v10)).1).trans cOX_v10
            have cOY_v11 : v11.heap[EOY]? = some (.cells #[.int .i64 ta, .int .i64 tb, .int .i64 tc, .int .i64 (e : Int)] 29) := (hb_v11.block (EOY) (Array.getElem?_eq_some_iff.1 (show v10.heap[EOY]? = some (.cells #[.int .i64 ta, .int .i64 tb, .int .i64 tc, .int .i64 (e : Int)] 29) from cOY_v10)).1).trans cOY_v10
            have cDD_v11 : v11.heap[EDD]? = some (.cells #[.int .i64 p0, .int .i64 p1, .int .i64 p2, .int .i64 (de : Int)] 29) := (hb_v11.block (EDD) (Array.getElem?_eq_some_iff.1 (show v10.heap[EDD]? = some (.cells #[.int .i64 p0, .int .i64 p1, .int .i64 p2, .int .i64 (de : Int)] 29) from cDD_v10)).1).trans cDD_v10
            have hw_v11 : Below D w v11 := (hw_v10).trans (hb_v11.mono (by first | omega | (simp; omega)))
            clear cX_v10 cY_v10 cOX_v10 cOY_v10 cDD_v10 hb_v11 hw_v10 hs_v11
            obtain ⟨EO, hEO⟩ : ∃ E, v11.heap.size = E := ⟨_, rfl⟩
            have ld12 : (v11.alloc (.cells #[.int .i64 oa, .int .i64 ob, .int .i64 oc, .int .i64 (o : Int)] 29)).heap[EO]? = some (.cells #[.int .i64 oa, .int .i64 ob, .int .i64 oc, .int .i64 (o : Int)] 29) := (heap_new (by first | omega | (simp; omega)))
            have y12_0 := cell4_0 ld12
            have y12_1 := cell4_1 ld12
            have y12_2 := cell4_2 ld12
            have y12_3 := cell4_3 ld12
            clear ld12
            go_wp2_with fail
            refine (SH.out _).mono ?_
            rintro e v13 ⟨rfl, hb_v13⟩
            have hs_v13 := hw_v11.size
            have cX_v13 : v13.heap[D]? = some (.cells #[.int .i64 x0, .int .i64 x1, .int .i64 x2, .int .i64 x3, .int .i64 x4, .int .i64 x5] 25) := (hb_v13.block (D) (Array.getElem?_eq_some_iff.1 (show (v11.alloc (.cells #[.int .i64 oa, .int .i64 ob, .int .i64 oc, .int .i64 (o : Int)] 29)).heap[D]? = some (.cells #[.int .i64 x0, .int .i64 x1, .int .i64 x2, .int .i64 x3, .int .i64 x4, .int .i64 x5] 25) from (heap_old (o := .cells #[.int .i64 oa, .int .i64 ob, .int .i64 oc, .int .i64 (o : Int)] 29) cX_v11))).1).trans (heap_old (o := .cells #[.int .i64 oa, .int .i64 ob, .int .i64 oc, .int .i64 (o : Int)] 29) cX_v11)
            have cY_v13 : v13.heap[D + 1]? = some (.cells #[.int .i64 y0, .int .i64 y1, .int .i64 y2, .int .i64 y3, .int .i64 y4, .int .i64 y5] 25) := (hb_v13.block (D + 1) (Array.getElem?_eq_some_iff.1 (show (v11.alloc (.cells #[.int .i64 oa, .int .i64 ob, .int .i64 oc, .int .i64 (o : Int)] 29)).heap[D + 1]? = some (.cells #[.int .i64 y0, .int .i64 y1, .int .i64 y2, .int .i64 y3, .int .i64 y4, .int .i64 y5] 25) from (heap_old (o := .cells #[.int .i64 oa, .int .i64 ob, .int .i64 oc, .int .i64 (o : Int)] 29) cY_v11))).1).trans (heap_old (o := .cells #[.int .i64 oa, .int .i64 ob, .int .i64 oc, .int .i64 (o : Int)] 29) cY_v11)
            have cOX_v13 : v13.heap[EOX]? = some (.cells #[.int .i64 ra, .int .i64 rb, .int .i64 rc, .int .i64 (d : Int)] 29) := (hb_v13.block (EOX) (Array.getElem?_eq_some_iff.1 (show (v11.alloc (.cells #[.int .i64 oa, .int .i64 ob, .int .i64 oc, .int .i64 (o : Int)] 29)).heap[EOX]? = some (.cells #[.int .i64 ra, .int .i64 rb, .int .i64 rc, .int .i64 (d : Int)] 29) from (heap_old (o := .cells #[.int .i64 oa, .int .i64 ob, .int .i64 oc, .int .i64 (o : Int)] 29) cOX_v11))).1).trans (heap_old (o := .cells #[.int .i64 oa, .int .i64 ob, .int .i64 oc, .int .i64 (o : Int)] 29) cOX_v11)
            have cOY_v13 : v13.heap[EOY]? = some (.cells #[.int .i64 ta, .int .i64 tb, .int .i64 tc, .int .i64 (e : Int)] 29) := (hb_v13.block (EOY) (Array.getElem?_eq_some_iff.1 (show (v11.alloc (.cells #[.int .i64 oa, .int .i64 ob, .int .i64 oc, .int .i64 (o : Int)] 29)).heap[EOY]? = some (.cells #[.int .i64 ta, .int .i64 tb, .int .i64 tc, .int .i64 (e : Int)] 29) from (heap_old (o := .cells #[.int .i64 oa, .int .i64 ob, .int .i64 oc, .int .i64 (o : Int)] 29) cOY_v11))).1).trans (heap_old (o := .cells #[.int .i64 oa, .int .i64 ob, .int .i64 oc, .int .i64 (o : Int)] 29) cOY_v11)
            have cDD_v13 : v13.heap[EDD]? = some (.cells #[.int .i64 p0, .int .i64 p1, .int .i64 p2, .int .i64 (de : Int)] 29) := (hb_v13.block (EDD) (Array.getElem?_eq_some_iff.1 (show (v11.alloc (.cells #[.int .i64 oa, .int .i64 ob, .int .i64 oc, .int .i64 (o : Int)] 29)).heap[EDD]? = some (.cells #[.int .i64 p0, .int .i64 p1, .int .i64 p2, .int .i64 (de : Int)] 29) from (heap_old (o := .cells #[.int .i64 oa, .int .i64 ob, .int .i64 oc, .int .i64 (o : Int)] 29) cDD_v11))).1).trans (heap_old (o := .cells #[.int .i64 oa, .int .i64 ob, .int .i64 oc, .int .i64 (o : Int)] 29) cDD_v11)
            have cO_v13 : v13.heap[EO]? = some (.cells #[.int .i64 oa, .int .i64 ob, .int .i64 oc, .int .i64 (o : Int)] 29) := (hb_v13.block (EO) (Array.getElem?_eq_some_iff.1 (show (v11.alloc (.cells #[.int .i64 oa, .int .i64 ob, .int .i64 oc, .int .i64 (o : Int)] 29)).heap[EO]? = some (.cells #[.int .i64 oa, .int .i64 ob, .int .i64 oc, .int .i64 (o : Int)] 29) from (heap_new (by first | omega | (simp; omega))))).1).trans (heap_new (by first | omega | (simp; omega)))
            have hw_v13 : Below D w v13 := ((hw_v11.alloc (by have := hw_v11.size; first | omega | (simp; omega)) (.cells #[.int .i64 oa, .int .i64 ob, .int .i64 oc, .int .i64 (o : Int)] 29))).trans (hb_v13.mono (by first | omega | (simp; omega)))
            clear cX_v11 cY_v11 cOX_v11 cOY_v11 cDD_v11 hb_v13 y12_0 y12_1 y12_2 y12_3 hw_v11 hs_v13
            have ld14 : v13.heap[EOX]? = some (.cells #[.int .i64 ra, .int .i64 rb, .int .i64 rc, .int .i64 (d : Int)] 29) := cOX_v13
            have y14_0 := cell4_0 ld14
            have y14_1 := cell4_1 ld14
            have y14_2 := cell4_2 ld14
            have y14_3 := cell4_3 ld14
            clear ld14
            go_wp2_with fail
            refine (SX.out _).mono ?_
            rintro e v15 ⟨rfl, hb_v15⟩
            have hs_v15 := hw_v13.size
            have cX_v15 : v15.heap[D]? = some (.cells #[.int .i64 x0, .int .i64 x1, .int .i64 x2, .int .i64 x3, .int .i64 x4, .int .i64 x5] 25) := (hb_v15.block (D) (Array.getElem?_eq_some_iff.1 (show v13.heap[D]? = some (.cells #[.int .i64 x0, .int .i64 x1, .int .i64 x2, .int .i64 x3, .int .i64 x4, .int .i64 x5] 25) from cX_v13)).1).trans cX_v13
            have cY_v15 : v15.heap[D + 1]? = some (.cells #[.int .i64 y0, .int .i64 y1, .int .i64 y2, .int .i64 y3, .int .i64 y4, .int .i64 y5] 25) := (hb_v15.block (D + 1) (Array.getElem?_eq_some_iff.1 (show v13.heap[D + 1]? = some (.cells #[.int .i64 y0, .int .i64 y1, .int .i64 y2, .int .i64 y3, .int .i64 y4, .int .i64 y5] 25) from cY_v13)).1).trans cY_v13
            have cOX_v15 : v15.heap[EOX]? = some (.cells #[.int .i64 ra, .int .i64 rb, .int .i64 rc, .int .i64 (d : Int)] 29) := (hb_v15.block (EOX) (Array.getElem?_eq_some_iff.1 (show v13.heap[EOX]? = some (.cells #[.int .i64 ra, .int .i64 rb, .int .i64 rc, .int .i64 (d : Int)] 29) from cOX_v13)).1).trans cOX_v13
            have cOY_v15 : v15.heap[EOY]? = some (.cells #[.int .i64 ta, .int .i64 tb, .int .i64 tc, .int .i64 (e : Int)] 29) := (hb_v15.block (EOY) (Array.getElem?_eq_some_iff.1 (show v13.heap[EOY]? = some (.cells #[.int .i64 ta, .int .i64 tb, .int .i64 tc, .int .i64 (e : Int)] 29) from cOY_v13)).1).trans cOY_v13
            have cDD_v15 : v15.heap[EDD]? = some (.cells #[.int .i64 p0, .int .i64 p1, .int .i64 p2, .int .i64 (de : Int)] 29) := (hb_v15.block (EDD) (Array.getElem?_eq_some_iff.1 (show v13.heap[EDD]? = some (.cells #[.int .i64 p0, .int .i64 p1, .int .i64 p2, .int .i64 (de : Int)] 29) from cDD_v13)).1).trans cDD_v13
            have cO_v15 : v15.heap[EO]? = some (.cells #[.int .i64 oa, .int .i64 ob, .int .i64 oc, .int .i64 (o : Int)] 29) := (hb_v15.block (EO) (Array.getElem?_eq_some_iff.1 (show v13.heap[EO]? = some (.cells #[.int .i64 oa, .int .i64 ob, .int .i64 oc, .int .i64 (o : Int)] 29) from cO_v13)).1).trans cO_v13
            have hw_v15 : Below D w v15 := (hw_v13).trans (hb_v15.mono (by first | omega | (simp; omega)))
            clear cX_v13 cY_v13 cOX_v13 cOY_v13 cDD_v13 cO_v13 hb_v15 y14_0 y14_1 y14_2 y14_3 hw_v13 hs_v15
            have HW := Lib.hid (hw_v15)
            clear KN RX RY RA WR RO SH SX SI CA CB SO SA
            go_wp2
            go_ret
            exact ⟨rfl, by first | exact HW.out | (rw [hD]; exact HW.out)⟩
          | true =>
            go_enter Tryz.func7, Tryz.ntmps7
            have ld1 : ((w.alloc (.cells #[.int .i64 x0, .int .i64 x1, .int .i64 x2, .int .i64 x3, .int .i64 x4, .int .i64 x5] 25)).alloc (.cells #[.int .i64 y0, .int .i64 y1, .int .i64 y2, .int .i64 y3, .int .i64 y4, .int .i64 y5] 25)).heap[D]? = some (.cells #[.int .i64 x0, .int .i64 x1, .int .i64 x2, .int .i64 x3, .int .i64 x4, .int .i64 x5] 25) := (heap_old (o := .cells #[.int .i64 y0, .int .i64 y1, .int .i64 y2, .int .i64 y3, .int .i64 y4, .int .i64 y5] 25) (heap_new (by first | omega | (simp; omega))))
            have y1_0 := cell6_0 ld1
            have y1_1 := cell6_1 ld1
            have y1_2 := cell6_2 ld1
            have y1_3 := cell6_3 ld1
            have y1_4 := cell6_4 ld1
            have y1_5 := cell6_5 ld1
            clear ld1
            go_wp2_with fail
            refine (RX.out _).mono ?_
            rintro e v2 ⟨rfl, hb_v2⟩
            have cX_v2 : v2.heap[D]? = some (.cells #[.int .i64 x0, .int .i64 x1, .int .i64 x2, .int .i64 x3, .int .i64 x4, .int .i64 x5] 25) := (hb_v2.block (D) (Array.getElem?_eq_some_iff.1 (show ((w.alloc (.cells #[.int .i64 x0, .int .i64 x1, .int .i64 x2, .int .i64 x3, .int .i64 x4, .int .i64 x5] 25)).alloc (.cells #[.int .i64 y0, .int .i64 y1, .int .i64 y2, .int .i64 y3, .int .i64 y4, .int .i64 y5] 25)).heap[D]? = some (.cells #[.int .i64 x0, .int .i64 x1, .int .i64 x2, .int .i64 x3, .int .i64 x4, .int .i64 x5] 25) from (heap_old (o := .cells #[.int .i64 y0, .int .i64 y1, .int .i64 y2, .int .i64 y3, .int .i64 y4, .int .i64 y5] 25) (heap_new (by first | omega | (simp; omega)))))).1).trans (heap_old (o := .cells #[.int .i64 y0, .int .i64 y1, .int .i64 y2, .int .i64 y3, .int .i64 y4, .int .i64 y5] 25) (heap_new (by first | omega | (simp; omega))))
            have cY_v2 : v2.heap[D + 1]? = some (.cells #[.int .i64 y0, .int .i64 y1, .int .i64 y2, .int .i64 y3, .int .i64 y4, .int .i64 y5] 25) := (hb_v2.block (D + 1) (Array.getElem?_eq_some_iff.1 (show ((w.alloc (.cells #[.int .i64 x0, .int .i64 x1, .int .i64 x2, .int .i64 x3, .int .i64 x4, .int .i64 x5] 25)).alloc (.cells #[.int .i64 y0, .int .i64 y1, .int .i64 y2, .int .i64 y3, .int .i64 y4, .int .i64 y5] 25)).heap[D + 1]? = some (.cells #[.int .i64 y0, .int .i64 y1, .int .i64 y2, .int .i64 y3, .int .i64 y4, .int .i64 y5] 25) from (heap_new (by first | omega | (simp; omega))))).1).trans (heap_new (by first | omega | (simp; omega)))
            have hw_v2 : Below D w v2 := ((((Below.refl _ w).alloc (by first | omega | (simp; omega)) (.cells #[.int .i64 x0, .int .i64 x1, .int .i64 x2, .int .i64 x3, .int .i64 x4, .int .i64 x5] 25)).alloc (by first | omega | (simp; omega)) (.cells #[.int .i64 y0, .int .i64 y1, .int .i64 y2, .int .i64 y3, .int .i64 y4, .int .i64 y5] 25))).trans (hb_v2.mono (by first | omega | (simp; omega)))
            clear hb_v2 y1_0 y1_1 y1_2 y1_3 y1_4 y1_5
            obtain ⟨EOX, hEOX⟩ : ∃ E, v2.heap.size = E := ⟨_, rfl⟩
            have ld3 : (v2.alloc (.cells #[.int .i64 ra, .int .i64 rb, .int .i64 rc, .int .i64 (d : Int)] 29)).heap[D + 1]? = some (.cells #[.int .i64 y0, .int .i64 y1, .int .i64 y2, .int .i64 y3, .int .i64 y4, .int .i64 y5] 25) := (heap_old (o := .cells #[.int .i64 ra, .int .i64 rb, .int .i64 rc, .int .i64 (d : Int)] 29) cY_v2)
            have y3_0 := cell6_0 ld3
            have y3_1 := cell6_1 ld3
            have y3_2 := cell6_2 ld3
            have y3_3 := cell6_3 ld3
            have y3_4 := cell6_4 ld3
            have y3_5 := cell6_5 ld3
            clear ld3
            go_wp2_with fail
            refine (RY.out _).mono ?_
            rintro e v4 ⟨rfl, hb_v4⟩
            have hs_v4 := hw_v2.size
            have cX_v4 : v4.heap[D]? = some (.cells #[.int .i64 x0, .int .i64 x1, .int .i64 x2, .int .i64 x3, .int .i64 x4, .int .i64 x5] 25) := (hb_v4.block (D) (Array.getElem?_eq_some_iff.1 (show (v2.alloc (.cells #[.int .i64 ra, .int .i64 rb, .int .i64 rc, .int .i64 (d : Int)] 29)).heap[D]? = some (.cells #[.int .i64 x0, .int .i64 x1, .int .i64 x2, .int .i64 x3, .int .i64 x4, .int .i64 x5] 25) from (heap_old (o := .cells #[.int .i64 ra, .int .i64 rb, .int .i64 rc, .int .i64 (d : Int)] 29) cX_v2))).1).trans (heap_old (o := .cells #[.int .i64 ra, .int .i64 rb, .int .i64 rc, .int .i64 (d : Int)] 29) cX_v2)
            have cY_v4 : v4.heap[D + 1]? = some (.cells #[.int .i64 y0, .int .i64 y1, .int .i64 y2, .int .i64 y3, .int .i64 y4, .int .i64 y5] 25) := (hb_v4.block (D + 1) (Array.getElem?_eq_some_iff.1 (show (v2.alloc (.cells #[.int .i64 ra, .int .i64 rb, .int .i64 rc, .int .i64 (d : Int)] 29)).heap[D + 1]? = some (.cells #[.int .i64 y0, .int .i64 y1, .int .i64 y2, .int .i64 y3, .int .i64 y4, .int .i64 y5] 25) from (heap_old (o := .cells #[.int .i64 ra, .int .i64 rb, .int .i64 rc, .int .i64 (d : Int)] 29) cY_v2))).1).trans (heap_old (o := .cells #[.int .i64 ra, .int .i64 rb, .int .i64 rc, .int .i64 (d : Int)] 29) cY_v2)
            have cOX_v4 : v4.heap[EOX]? = some (.cells #[.int .i64 ra, .int .i64 rb, .int .i64 rc, .int .i64 (d : Int)] 29) := (hb_v4.block (EOX) (Array.getElem?_eq_some_iff.1 (show (v2.alloc (.cells #[.int .i64 ra, .int .i64 rb, .int .i64 rc, .int .i64 (d : Int)] 29)).heap[EOX]? = some (.cells #[.int .i64 ra, .int .i64 rb, .int .i64 rc, .int .i64 (d : Int)] 29) from (heap_new (by first | omega | (simp; omega))))).1).trans (heap_new (by first | omega | (simp; omega)))
            have hw_v4 : Below D w v4 := ((hw_v2.alloc (by have := hw_v2.size; first | omega | (simp; omega)) (.cells #[.int .i64 ra, .int .i64 rb, .int .i64 rc, .int .i64 (d : Int)] 29))).trans (hb_v4.mono (by first | omega | (simp; omega)))
            clear cX_v2 cY_v2 hb_v4 y3_0 y3_1 y3_2 y3_3 y3_4 y3_5 hw_v2 hs_v4
            obtain ⟨EOY, hEOY⟩ : ∃ E, v4.heap.size = E := ⟨_, rfl⟩
            have G1 : Gi (v4.alloc (.cells #[.int .i64 ta, .int .i64 tb, .int .i64 tc, .int .i64 (e : Int)] 29)) := G.below (by rw [hD]; exact (hw_v4.alloc (by have := hw_v4.size; first | omega | (simp; omega)) (.cells #[.int .i64 ta, .int .i64 tb, .int .i64 tc, .int .i64 (e : Int)] 29)))
            have N1 : Nm (v4.alloc (.cells #[.int .i64 ta, .int .i64 tb, .int .i64 tc, .int .i64 (e : Int)] 29)) := N.below (by rw [hD]; exact (hw_v4.alloc (by have := hw_v4.size; first | omega | (simp; omega)) (.cells #[.int .i64 ta, .int .i64 tb, .int .i64 tc, .int .i64 (e : Int)] 29)))
            go_wp2_with fail
            refine (KN.out _ G1 N1).mono ?_
            rintro e v5 ⟨rfl, hb_v5⟩
            have hs_v5 := hw_v4.size
            have cX_v5 : v5.heap[D]? = some (.cells #[.int .i64 x0, .int .i64 x1, .int .i64 x2, .int .i64 x3, .int .i64 x4, .int .i64 x5] 25) := (hb_v5.block (D) (Array.getElem?_eq_some_iff.1 (show (v4.alloc (.cells #[.int .i64 ta, .int .i64 tb, .int .i64 tc, .int .i64 (e : Int)] 29)).heap[D]? = some (.cells #[.int .i64 x0, .int .i64 x1, .int .i64 x2, .int .i64 x3, .int .i64 x4, .int .i64 x5] 25) from (heap_old (o := .cells #[.int .i64 ta, .int .i64 tb, .int .i64 tc, .int .i64 (e : Int)] 29) cX_v4))).1).trans (heap_old (o := .cells #[.int .i64 ta, .int .i64 tb, .int .i64 tc, .int .i64 (e : Int)] 29) cX_v4)
            have cY_v5 : v5.heap[D + 1]? = some (.cells #[.int .i64 y0, .int .i64 y1, .int .i64 y2, .int .i64 y3, .int .i64 y4, .int .i64 y5] 25) := (hb_v5.block (D + 1) (Array.getElem?_eq_some_iff.1 (show (v4.alloc (.cells #[.int .i64 ta, .int .i64 tb, .int .i64 tc, .int .i64 (e : Int)] 29)).heap[D + 1]? = some (.cells #[.int .i64 y0, .int .i64 y1, .int .i64 y2, .int .i64 y3, .int .i64 y4, .int .i64 y5] 25) from (heap_old (o := .cells #[.int .i64 ta, .int .i64 tb, .int .i64 tc, .int .i64 (e : Int)] 29) cY_v4))).1).trans (heap_old (o := .cells #[.int .i64 ta, .int .i64 tb, .int .i64 tc, .int .i64 (e : Int)] 29) cY_v4)
            have cOX_v5 : v5.heap[EOX]? = some (.cells #[.int .i64 ra, .int .i64 rb, .int .i64 rc, .int .i64 (d : Int)] 29) := (hb_v5.block (EOX) (Array.getElem?_eq_some_iff.1 (show (v4.alloc (.cells #[.int .i64 ta, .int .i64 tb, .int .i64 tc, .int .i64 (e : Int)] 29)).heap[EOX]? = some (.cells #[.int .i64 ra, .int .i64 rb, .int .i64 rc, .int .i64 (d : Int)] 29) from (heap_old (o := .cells #[.int .i64 ta, .int .i64 tb, .int .i64 tc, .int .i64 (e : Int)] 29) cOX_v4))).1).trans (heap_old (o := .cells #[.int .i64 ta, .int .i64 tb, .int .i64 tc, .int .i64 (e : Int)] 29) cOX_v4)
            have cOY_v5 : v5.heap[EOY]? = some (.cells #[.int .i64 ta, .int .i64 tb, .int .i64 tc, .int .i64 (e : Int)] 29) := (hb_v5.block (EOY) (Array.getElem?_eq_some_iff.1 (show (v4.alloc (.cells #[.int .i64 ta, .int .i64 tb, .int .i64 tc, .int .i64 (e : Int)] 29)).heap[EOY]? = some (.cells #[.int .i64 ta, .int .i64 tb, .int .i64 tc, .int .i64 (e : Int)] 29) from (heap_new (by first | omega | (simp; omega))))).1).trans (heap_new (by first | omega | (simp; omega)))
            have hw_v5 : Below D w v5 := ((hw_v4.alloc (by have := hw_v4.size; first | omega | (simp; omega)) (.cells #[.int .i64 ta, .int .i64 tb, .int .i64 tc, .int .i64 (e : Int)] 29))).trans (hb_v5.mono (by first | omega | (simp; omega)))
            clear cX_v4 cY_v4 cOX_v4 hb_v5 hw_v4 hs_v5
            have ld6 : v5.heap[EOX]? = some (.cells #[.int .i64 ra, .int .i64 rb, .int .i64 rc, .int .i64 (d : Int)] 29) := cOX_v5
            have y6_0 := cell4_0 ld6
            have y6_1 := cell4_1 ld6
            have y6_2 := cell4_2 ld6
            have y6_3 := cell4_3 ld6
            clear ld6
            have ld7 : v5.heap[EOY]? = some (.cells #[.int .i64 ta, .int .i64 tb, .int .i64 tc, .int .i64 (e : Int)] 29) := cOY_v5
            have y7_0 := cell4_0 ld7
            have y7_1 := cell4_1 ld7
            have y7_2 := cell4_2 ld7
            have y7_3 := cell4_3 ld7
            clear ld7
            go_wp2_with fail
            refine (RA.out _).mono ?_
            rintro e v8 ⟨rfl, hb_v8⟩
            have hs_v8 := hw_v5.size
            have cX_v8 : v8.heap[D]? = some (.cells #[.int .i64 x0, .int .i64 x1, .int .i64 x2, .int .i64 x3, .int .i64 x4, .int .i64 x5] 25) := (hb_v8.block (D) (Array.getElem?_eq_some_iff.1 (show v5.heap[D]? = some (.cells #[.int .i64 x0, .int .i64 x1, .int .i64 x2, .int .i64 x3, .int .i64 x4, .int .i64 x5] 25) from cX_v5)).1).trans cX_v5
            have cY_v8 : v8.heap[D + 1]? = some (.cells #[.int .i64 y0, .int .i64 y1, .int .i64 y2, .int .i64 y3, .int .i64 y4, .int .i64 y5] 25) := (hb_v8.block (D + 1) (Array.getElem?_eq_some_iff.1 (show v5.heap[D + 1]? = some (.cells #[.int .i64 y0, .int .i64 y1, .int .i64 y2, .int .i64 y3, .int .i64 y4, .int .i64 y5] 25) from cY_v5)).1).trans cY_v5
            have cOX_v8 : v8.heap[EOX]? = some (.cells #[.int .i64 ra, .int .i64 rb, .int .i64 rc, .int .i64 (d : Int)] 29) := (hb_v8.block (EOX) (Array.getElem?_eq_some_iff.1 (show v5.heap[EOX]? = some (.cells #[.int .i64 ra, .int .i64 rb, .int .i64 rc, .int .i64 (d : Int)] 29) from cOX_v5)).1).trans cOX_v5
            have cOY_v8 : v8.heap[EOY]? = some (.cells #[.int .i64 ta, .int .i64 tb, .int .i64 tc, .int .i64 (e : Int)] 29) := (hb_v8.block (EOY) (Array.getElem?_eq_some_iff.1 (show v5.heap[EOY]? = some (.cells #[.int .i64 ta, .int .i64 tb, .int .i64 tc, .int .i64 (e : Int)] 29) from cOY_v5)).1).trans cOY_v5
            have hw_v8 : Below D w v8 := (hw_v5).trans (hb_v8.mono (by first | omega | (simp; omega)))
            clear cX_v5 cY_v5 cOX_v5 cOY_v5 hb_v8 y6_0 y6_1 y6_2 y6_3 y7_0 y7_1 y7_2 y7_3 hw_v5 hs_v8
            obtain ⟨EDD, hEDD⟩ : ∃ E, v8.heap.size = E := ⟨_, rfl⟩
            have ld9 : (v8.alloc (.cells #[.int .i64 p0, .int .i64 p1, .int .i64 p2, .int .i64 (de : Int)] 29)).heap[EDD]? = some (.cells #[.int .i64 p0, .int .i64 p1, .int .i64 p2, .int .i64 (de : Int)] 29) := (heap_new (by first | omega | (simp; omega)))
            have y9_0 := cell4_0 ld9
            have y9_1 := cell4_1 ld9
            have y9_2 := cell4_2 ld9
            have y9_3 := cell4_3 ld9
            clear ld9
            go_wp2_with fail
            refine (WR.out _).mono ?_
            rintro e v10 ⟨rfl, hb_v10⟩
            have hs_v10 := hw_v8.size
            have cX_v10 : v10.heap[D]? = some (.cells #[.int .i64 x0, .int .i64 x1, .int .i64 x2, .int .i64 x3, .int .i64 x4, .int .i64 x5] 25) := (hb_v10.block (D) (Array.getElem?_eq_some_iff.1 (show (v8.alloc (.cells #[.int .i64 p0, .int .i64 p1, .int .i64 p2, .int .i64 (de : Int)] 29)).heap[D]? = some (.cells #[.int .i64 x0, .int .i64 x1, .int .i64 x2, .int .i64 x3, .int .i64 x4, .int .i64 x5] 25) from (heap_old (o := .cells #[.int .i64 p0, .int .i64 p1, .int .i64 p2, .int .i64 (de : Int)] 29) cX_v8))).1).trans (heap_old (o := .cells #[.int .i64 p0, .int .i64 p1, .int .i64 p2, .int .i64 (de : Int)] 29) cX_v8)
            have cY_v10 : v10.heap[D + 1]? = some (.cells #[.int .i64 y0, .int .i64 y1, .int .i64 y2, .int .i64 y3, .int .i64 y4, .int .i64 y5] 25) := (hb_v10.block (D + 1) (Array.getElem?_eq_some_iff.1 (show (v8.alloc (.cells #[.int .i64 p0, .int .i64 p1, .int .i64 p2, .int .i64 (de : Int)] 29)).heap[D + 1]? = some (.cells #[.int .i64 y0, .int .i64 y1, .int .i64 y2, .int .i64 y3, .int .i64 y4, .int .i64 y5] 25) from (heap_old (o := .cells #[.int .i64 p0, .int .i64 p1, .int .i64 p2, .int .i64 (de : Int)] 29) cY_v8))).1).trans (heap_old (o := .cells #[.int .i64 p0, .int .i64 p1, .int .i64 p2, .int .i64 (de : Int)] 29) cY_v8)
            have cOX_v10 : v10.heap[EOX]? = some (.cells #[.int .i64 ra, .int .i64 rb, .int .i64 rc, .int .i64 (d : Int)] 29) := (hb_v10.block (EOX) (Array.getElem?_eq_some_iff.1 (show (v8.alloc (.cells #[.int .i64 p0, .int .i64 p1, .int .i64 p2, .int .i64 (de : Int)] 29)).heap[EOX]? = some (.cells #[.int .i64 ra, .int .i64 rb, .int .i64 rc, .int .i64 (d : Int)] 29) from (heap_old (o := .cells #[.int .i64 p0, .int .i64 p1, .int .i64 p2, .int .i64 (de : Int)] 29) cOX_v8))).1).trans (heap_old (o := .cells #[.int .i64 p0, .int .i64 p1, .int .i64 p2, .int .i64 (de : Int)] 29) cOX_v8)
            have cOY_v10 : v10.heap[EOY]? = some (.cells #[.int .i64 ta, .int .i64 tb, .int .i64 tc, .int .i64 (e : Int)] 29) := (hb_v10.block (EOY) (Array.getElem?_eq_some_iff.1 (show (v8.alloc (.cells #[.int .i64 p0, .int .i64 p1, .int .i64 p2, .int .i64 (de : Int)] 29)).heap[EOY]? = some (.cells #[.int .i64 ta, .int .i64 tb, .int .i64 tc, .int .i64 (e : Int)] 29) from (heap_old (o := .cells #[.int .i64 p0, .int .i64 p1, .int .i64 p2, .int .i64 (de : Int)] 29) cOY_v8))).1).trans (heap_old (o := .cells #[.int .i64 p0, .int .i64 p1, .int .i64 p2, .int .i64 (de : Int)] 29) cOY_v8)
            have cDD_v10 : v10.heap[EDD]? = some (.cells #[.int .i64 p0, .int .i64 p1, .int .i64 p2, .int .i64 (de : Int)] 29) := (hb_v10.block (EDD) (Array.getElem?_eq_some_iff.1 (show (v8.alloc (.cells #[.int .i64 p0, .int .i64 p1, .int .i64 p2, .int .i64 (de : Int)] 29)).heap[EDD]? = some (.cells #[.int .i64 p0, .int .i64 p1, .int .i64 p2, .int .i64 (de : Int)] 29) from (heap_new (by first | omega | (simp; omega))))).1).trans (heap_new (by first | omega | (simp; omega)))
            have hw_v10 : Below D w v10 := ((hw_v8.alloc (by have := hw_v8.size; first | omega | (simp; omega)) (.cells #[.int .i64 p0, .int .i64 p1, .int .i64 p2, .int .i64 (de : Int)] 29))).trans (hb_v10.mono (by first | omega | (simp; omega)))
            clear cX_v8 cY_v8 cOX_v8 cOY_v8 hb_v10 y9_0 y9_1 y9_2 y9_3 hw_v8 hs_v10
            go_wp2_with fail
            refine (RO.out _).mono ?_
            rintro e v11 ⟨rfl, hb_v11⟩
            have hs_v11 := hw_v10.size
            have cX_v11 : v11.heap[D]? = some (.cells #[.int .i64 x0, .int .i64 x1, .int .i64 x2, .int .i64 x3, .int .i64 x4, .int .i64 x5] 25) := (hb_v11.block (D) (Array.getElem?_eq_some_iff.1 (show v10.heap[D]? = some (.cells #[.int .i64 x0, .int .i64 x1, .int .i64 x2, .int .i64 x3, .int .i64 x4, .int .i64 x5] 25) from cX_v10)).1).trans cX_v10
            have cY_v11 : v11.heap[D + 1]? = some (.cells #[.int .i64 y0, .int .i64 y1, .int .i64 y2, .int .i64 y3, .int .i64 y4, .int .i64 y5] 25) := (hb_v11.block (D + 1) (Array.getElem?_eq_some_iff.1 (show v10.heap[D + 1]? = some (.cells #[.int .i64 y0, .int .i64 y1, .int .i64 y2, .int .i64 y3, .int .i64 y4, .int .i64 y5] 25) from cY_v10)).1).trans cY_v10
            have cOX_v11 : v11.heap[EOX]? = some (.cells #[.int .i64 ra, .int .i64 rb, .int .i64 rc, .int .i64 (d : Int)] 29) := (hb_v11.block (EOX) (Array.getElem?_eq_some_iff.1 (show v10.heap[EOX]? = some (.cells #[.int .i64 ra, .int .i64 rb, .int .i64 rc, .int .i64 (d : Int)] 29) from cOX_v10)).1).trans cOX_v10
            have cOY_v11 : v11.heap[EOY]? = some (.cells #[.int .i64 ta, .int .i64 tb, .int .i64 tc, .int .i64 (e : Int)] 29) := (hb_v11.block (EOY) (Array.getElem?_eq_some_iff.1 (show v10.heap[EOY]? = some (.cells #[.int .i64 ta, .int .i64 tb, .int .i64 tc, .int .i64 (e : Int)] 29) from cOY_v10)).1).trans cOY_v10
            have cDD_v11 : v11.heap[EDD]? = some (.cells #[.int .i64 p0, .int .i64 p1, .int .i64 p2, .int .i64 (de : Int)] 29) := (hb_v11.block (EDD) (Array.getElem?_eq_some_iff.1 (show v10.heap[EDD]? = some (.cells #[.int .i64 p0, .int .i64 p1, .int .i64 p2, .int .i64 (de : Int)] 29) from cDD_v10)).1).trans cDD_v10
            have hw_v11 : Below D w v11 := (hw_v10).trans (hb_v11.mono (by first | omega | (simp; omega)))
            clear cX_v10 cY_v10 cOX_v10 cOY_v10 cDD_v10 hb_v11 hw_v10 hs_v11
            obtain ⟨EO, hEO⟩ : ∃ E, v11.heap.size = E := ⟨_, rfl⟩
            have ld12 : (v11.alloc (.cells #[.int .i64 oa, .int .i64 ob, .int .i64 oc, .int .i64 (o : Int)] 29)).heap[EO]? = some (.cells #[.int .i64 oa, .int .i64 ob, .int .i64 oc, .int .i64 (o : Int)] 29) := (heap_new (by first | omega | (simp; omega)))
            have y12_0 := cell4_0 ld12
            have y12_1 := cell4_1 ld12
            have y12_2 := cell4_2 ld12
            have y12_3 := cell4_3 ld12
            clear ld12
            go_wp2_with fail
            refine (SH.out _).mono ?_
            rintro e v13 ⟨rfl, hb_v13⟩
            have hs_v13 := hw_v11.size
            have cX_v13 : v13.heap[D]? = some (.cells #[.int .i64 x0, .int .i64 x1, .int .i64 x2, .int .i64 x3, .int .i64 x4, .int .i64 x5] 25) := (hb_v13.block (D) (Array.getElem?_eq_some_iff.1 (show (v11.alloc (.cells #[.int .i64 oa, .int .i64 ob, .int .i64 oc, .int .i64 (o : Int)] 29)).heap[D]? = some (.cells #[.int .i64 x0, .int .i64 x1, .int .i64 x2, .int .i64 x3, .int .i64 x4, .int .i64 x5] 25) from (heap_old (o := .cells #[.int .i64 oa, .int .i64 ob, .int .i64 oc, .int .i64 (o : Int)] 29) cX_v11))).1).trans (heap_old (o := .cells #[.int .i64 oa, .int .i64 ob, .int .i64 oc, .int .i64 (o : Int)] 29) cX_v11)
            have cY_v13 : v13.heap[D + 1]? = some (.cells #[.int .i64 y0, .int .i64 y1, .int .i64 y2, .int .i64 y3, .int .i64 y4, .int .i64 y5] 25) := (hb_v13.block (D + 1) (Array.getElem?_eq_some_iff.1 (show (v11.alloc (.cells #[.int .i64 oa, .int .i64 ob, .int .i64 oc, .int .i64 (o : Int)] 29)).heap[D + 1]? = some (.cells #[.int .i64 y0, .int .i64 y1, .int .i64 y2, .int .i64 y3, .int .i64 y4, .int .i64 y5] 25) from (heap_old (o := .cells #[.int .i64 oa, .int .i64 ob, .int .i64 oc, .int .i64 (o : Int)] 29) cY_v11))).1).trans (heap_old (o := .cells #[.int .i64 oa, .int .i64 ob, .int .i64 oc, .int .i64 (o : Int)] 29) cY_v11)
            have cOX_v13 : v13.heap[EOX]? = some (.cells #[.int .i64 ra, .int .i64 rb, .int .i64 rc, .int .i64 (d : Int)] 29) := (hb_v13.block (EOX) (Array.getElem?_eq_some_iff.1 (show (v11.alloc (.cells #[.int .i64 oa, .int .i64 ob, .int .i64 oc, .int .i64 (o : Int)] 29)).heap[EOX]? = some (.cells #[.int .i64 ra, .int .i64 rb, .int .i64 rc, .int .i64 (d : Int)] 29) from (heap_old (o := .cells #[.int .i64 oa, .int .i64 ob, .int .i64 oc, .int .i64 (o : Int)] 29) cOX_v11))).1).trans (heap_old (o := .cells #[.int .i64 oa, .int .i64 ob, .int .i64 oc, .int .i64 (o : Int)] 29) cOX_v11)
            have cOY_v13 : v13.heap[EOY]? = some (.cells #[.int .i64 ta, .int .i64 tb, .int .i64 tc, .int .i64 (e : Int)] 29) := (hb_v13.block (EOY) (Array.getElem?_eq_some_iff.1 (show (v11.alloc (.cells #[.int .i64 oa, .int .i64 ob, .int .i64 oc, .int .i64 (o : Int)] 29)).heap[EOY]? = some (.cells #[.int .i64 ta, .int .i64 tb, .int .i64 tc, .int .i64 (e : Int)] 29) from (heap_old (o := .cells #[.int .i64 oa, .int .i64 ob, .int .i64 oc, .int .i64 (o : Int)] 29) cOY_v11))).1).trans (heap_old (o := .cells #[.int .i64 oa, .int .i64 ob, .int .i64 oc, .int .i64 (o : Int)] 29) cOY_v11)
            have cDD_v13 : v13.heap[EDD]? = some (.cells #[.int .i64 p0, .int .i64 p1, .int .i64 p2, .int .i64 (de : Int)] 29) := (hb_v13.block (EDD) (Array.getElem?_eq_some_iff.1 (show (v11.alloc (.cells #[.int .i64 oa, .int .i64 ob, .int .i64 oc, .int .i64 (o : Int)] 29)).heap[EDD]? = some (.cells #[.int .i64 p0, .int .i64 p1, .int .i64 p2, .int .i64 (de : Int)] 29) from (heap_old (o := .cells #[.int .i64 oa, .int .i64 ob, .int .i64 oc, .int .i64 (o : Int)] 29) cDD_v11))).1).trans (heap_old (o := .cells #[.int .i64 oa, .int .i64 ob, .int .i64 oc, .int .i64 (o : Int)] 29) cDD_v11)
            have cO_v13 : v13.heap[EO]? = some (.cells #[.int .i64 oa, .int .i64 ob, .int .i64 oc, .int .i64 (o : Int)] 29) := (hb_v13.block (EO) (Array.getElem?_eq_some_iff.1 (show (v11.alloc (.cells #[.int .i64 oa, .int .i64 ob, .int .i64 oc, .int .i64 (o : Int)] 29)).heap[EO]? = some (.cells #[.int .i64 oa, .int .i64 ob, .int .i64 oc, .int .i64 (o : Int)] 29) from (heap_new (by first | omega | (simp; omega))))).1).trans (heap_new (by first | omega | (simp; omega)))
            have hw_v13 : Below D w v13 := ((hw_v11.alloc (by have := hw_v11.size; first | omega | (simp; omega)) (.cells #[.int .i64 oa, .int .i64 ob, .int .i64 oc, .int .i64 (o : Int)] 29))).trans (hb_v13.mono (by first | omega | (simp; omega)))
            clear cX_v11 cY_v11 cOX_v11 cOY_v11 cDD_v11 hb_v13 y12_0 y12_1 y12_2 y12_3 hw_v11 hs_v13
            have ld14 : v13.heap[EOX]? = some (.cells #[.int .i64 ra, .int .i64 rb, .int .i64 rc, .int .i64 (d : Int)] 29) := cOX_v13
            have y14_0 := cell4_0 ld14
            have y14_1 := cell4_1 ld14
            have y14_2 := cell4_2 ld14
            have y14_3 := cell4_3 ld14
            clear ld14
            go_wp2_with fail
            refine (SX.out _).mono ?_
            rintro e v15 ⟨rfl, hb_v15⟩
            have hs_v15 := hw_v13.size
            have cX_v15 : v15.heap[D]? = some (.cells #[.int .i64 x0, .int .i64 x1, .int .i64 x2, .int .i64 x3, .int .i64 x4, .int .i64 x5] 25) := (hb_v15.block (D) (Array.getElem?_eq_some_iff.1 (show v13.heap[D]? = some (.cells #[.int .i64 x0, .int .i64 x1, .int .i64 x2, .int .i64 x3, .int .i64 x4, .int .i64 x5] 25) from cX_v13)).1).trans cX_v13
            have cY_v15 : v15.heap[D + 1]? = some (.cells #[.int .i64 y0, .int .i64 y1, .int .i64 y2, .int .i64 y3, .int .i64 y4, .int .i64 y5] 25) := (hb_v15.block (D + 1) (Array.getElem?_eq_some_iff.1 (show v13.heap[D + 1]? = some (.cells #[.int .i64 y0, .int .i64 y1, .int .i64 y2, .int .i64 y3, .int .i64 y4, .int .i64 y5] 25) from cY_v13)).1).trans cY_v13
            have cOX_v15 : v15.heap[EOX]? = some (.cells #[.int .i64 ra, .int .i64 rb, .int .i64 rc, .int .i64 (d : Int)] 29) := (hb_v15.block (EOX) (Array.getElem?_eq_some_iff.1 (show v13.heap[EOX]? = some (.cells #[.int .i64 ra, .int .i64 rb, .int .i64 rc, .int .i64 (d : Int)] 29) from cOX_v13)).1).trans cOX_v13
            have cOY_v15 : v15.heap[EOY]? = some (.cells #[.int .i64 ta, .int .i64 tb, .int .i64 tc, .int .i64 (e : Int)] 29) := (hb_v15.block (EOY) (Array.getElem?_eq_some_iff.1 (show v13.heap[EOY]? = some (.cells #[.int .i64 ta, .int .i64 tb, .int .i64 tc, .int .i64 (e : Int)] 29) from cOY_v13)).1).trans cOY_v13
            have cDD_v15 : v15.heap[EDD]? = some (.cells #[.int .i64 p0, .int .i64 p1, .int .i64 p2, .int .i64 (de : Int)] 29) := (hb_v15.block (EDD) (Array.getElem?_eq_some_iff.1 (show v13.heap[EDD]? = some (.cells #[.int .i64 p0, .int .i64 p1, .int .i64 p2, .int .i64 (de : Int)] 29) from cDD_v13)).1).trans cDD_v13
            have cO_v15 : v15.heap[EO]? = some (.cells #[.int .i64 oa, .int .i64 ob, .int .i64 oc, .int .i64 (o : Int)] 29) := (hb_v15.block (EO) (Array.getElem?_eq_some_iff.1 (show v13.heap[EO]? = some (.cells #[.int .i64 oa, .int .i64 ob, .int .i64 oc, .int .i64 (o : Int)] 29) from cO_v13)).1).trans cO_v13
            have hw_v15 : Below D w v15 := (hw_v13).trans (hb_v15.mono (by first | omega | (simp; omega)))
            clear cX_v13 cY_v13 cOX_v13 cOY_v13 cDD_v13 cO_v13 hb_v15 y14_0 y14_1 y14_2 y14_3 hw_v13 hs_v15
            clear KN RX RY RA WR RO SH SX
            have G2 : Gi v15 := G.below (by rw [hD]; exact hw_v15)
            have N2 : Nm v15 := N.below (by rw [hD]; exact hw_v15)
            have ld16 : v15.heap[D]? = some (.cells #[.int .i64 x0, .int .i64 x1, .int .i64 x2, .int .i64 x3, .int .i64 x4, .int .i64 x5] 25) := cX_v15
            have y16_0 := cell6_0 ld16
            have y16_1 := cell6_1 ld16
            have y16_2 := cell6_2 ld16
            have y16_3 := cell6_3 ld16
            have y16_4 := cell6_4 ld16
            have y16_5 := cell6_5 ld16
            clear ld16
            go_wp2_with fail
            refine (SI.out _ G2).mono ?_
            rintro e v17 ⟨rfl, hb_v17⟩
            have hs_v17 := hw_v15.size
            have cX_v17 : v17.heap[D]? = some (.cells #[.int .i64 x0, .int .i64 x1, .int .i64 x2, .int .i64 x3, .int .i64 x4, .int .i64 x5] 25) := (hb_v17.block (D) (Array.getElem?_eq_some_iff.1 (show v15.heap[D]? = some (.cells #[.int .i64 x0, .int .i64 x1, .int .i64 x2, .int .i64 x3, .int .i64 x4, .int .i64 x5] 25) from cX_v15)).1).trans cX_v15
            have cY_v17 : v17.heap[D + 1]? = some (.cells #[.int .i64 y0, .int .i64 y1, .int .i64 y2, .int .i64 y3, .int .i64 y4, .int .i64 y5] 25) := (hb_v17.block (D + 1) (Array.getElem?_eq_some_iff.1 (show v15.heap[D + 1]? = some (.cells #[.int .i64 y0, .int .i64 y1, .int .i64 y2, .int .i64 y3, .int .i64 y4, .int .i64 y5] 25) from cY_v15)).1).trans cY_v15
            have cOX_v17 : v17.heap[EOX]? = some (.cells #[.int .i64 ra, .int .i64 rb, .int .i64 rc, .int .i64 (d : Int)] 29) := (hb_v17.block (EOX) (Array.getElem?_eq_some_iff.1 (show v15.heap[EOX]? = some (.cells #[.int .i64 ra, .int .i64 rb, .int .i64 rc, .int .i64 (d : Int)] 29) from cOX_v15)).1).trans cOX_v15
            have cOY_v17 : v17.heap[EOY]? = some (.cells #[.int .i64 ta, .int .i64 tb, .int .i64 tc, .int .i64 (e : Int)] 29) := (hb_v17.block (EOY) (Array.getElem?_eq_some_iff.1 (show v15.heap[EOY]? = some (.cells #[.int .i64 ta, .int .i64 tb, .int .i64 tc, .int .i64 (e : Int)] 29) from cOY_v15)).1).trans cOY_v15
            have cDD_v17 : v17.heap[EDD]? = some (.cells #[.int .i64 p0, .int .i64 p1, .int .i64 p2, .int .i64 (de : Int)] 29) := (hb_v17.block (EDD) (Array.getElem?_eq_some_iff.1 (show v15.heap[EDD]? = some (.cells #[.int .i64 p0, .int .i64 p1, .int .i64 p2, .int .i64 (de : Int)] 29) from cDD_v15)).1).trans cDD_v15
            have cO_v17 : v17.heap[EO]? = some (.cells #[.int .i64 oa, .int .i64 ob, .int .i64 oc, .int .i64 (o : Int)] 29) := (hb_v17.block (EO) (Array.getElem?_eq_some_iff.1 (show v15.heap[EO]? = some (.cells #[.int .i64 oa, .int .i64 ob, .int .i64 oc, .int .i64 (o : Int)] 29) from cO_v15)).1).trans cO_v15
            have hw_v17 : Below D w v17 := (hw_v15).trans (hb_v17.mono (by first | omega | (simp; omega)))
            clear cX_v15 cY_v15 cOX_v15 cOY_v15 cDD_v15 cO_v15 hb_v17 y16_0 y16_1 y16_2 y16_3 y16_4 y16_5 hw_v15 hs_v17
            have G3 : Gi v17 := G.below (by rw [hD]; exact hw_v17)
            have N3 : Nm v17 := N.below (by rw [hD]; exact hw_v17)
            have ld18 : v17.heap[D]? = some (.cells #[.int .i64 x0, .int .i64 x1, .int .i64 x2, .int .i64 x3, .int .i64 x4, .int .i64 x5] 25) := cX_v17
            have y18_0 := cell6_0 ld18
            have y18_1 := cell6_1 ld18
            have y18_2 := cell6_2 ld18
            have y18_3 := cell6_3 ld18
            have y18_4 := cell6_4 ld18
            have y18_5 := cell6_5 ld18
            clear ld18
            have ld19 : v17.heap[D + 1]? = some (.cells #[.int .i64 y0, .int .i64 y1, .int .i64 y2, .int .i64 y3, .int .i64 y4, .int .i64 y5] 25) := cY_v17
            have y19_0 := cell6_0 ld19
            have y19_1 := cell6_1 ld19
            have y19_2 := cell6_2 ld19
            have y19_3 := cell6_3 ld19
            have y19_4 := cell6_4 ld19
            have y19_5 := cell6_5 ld19
            clear ld19
            go_wp2_with fail
            refine (CA.out _ G3).mono ?_
            rintro e v20 ⟨rfl, hb_v20⟩
            have hs_v20 := hw_v17.size
            have cX_v20 : v20.heap[D]? = some (.cells #[.int .i64 x0, .int .i64 x1, .int .i64 x2, .int .i64 x3, .int .i64 x4, .int .i64 x5] 25) := (hb_v20.block (D) (Array.getElem?_eq_some_iff.1 (show v17.heap[D]? = some (.cells #[.int .i64 x0, .int .i64 x1, .int .i64 x2, .int .i64 x3, .int .i64 x4, .int .i64 x5] 25) from cX_v17)).1).trans cX_v17
            have cY_v20 : v20.heap[D + 1]? = some (.cells #[.int .i64 y0, .int .i64 y1, .int .i64 y2, .int .i64 y3, .int .i64 y4, .int .i64 y5] 25) := (hb_v20.block (D + 1) (Array.getElem?_eq_some_iff.1 (show v17.heap[D + 1]? = some (.cells #[.int .i64 y0, .int .i64 y1, .int .i64 y2, .int .i64 y3, .int .i64 y4, .int .i64 y5] 25) from cY_v17)).1).trans cY_v17
            have cOX_v20 : v20.heap[EOX]? = some (.cells #[.int .i64 ra, .int .i64 rb, .int .i64 rc, .int .i64 (d : Int)] 29) := (hb_v20.block (EOX) (Array.getElem?_eq_some_iff.1 (show v17.heap[EOX]? = some (.cells #[.int .i64 ra, .int .i64 rb, .int .i64 rc, .int .i64 (d : Int)] 29) from cOX_v17)).1).trans cOX_v17
            have cOY_v20 : v20.heap[EOY]? = some (.cells #[.int .i64 ta, .int .i64 tb, .int .i64 tc, .int .i64 (e : Int)] 29) := (hb_v20.block (EOY) (Array.getElem?_eq_some_iff.1 (show v17.heap[EOY]? = some (.cells #[.int .i64 ta, .int .i64 tb, .int .i64 tc, .int .i64 (e : Int)] 29) from cOY_v17)).1).trans cOY_v17
            have cDD_v20 : v20.heap[EDD]? = some (.cells #[.int .i64 p0, .int .i64 p1, .int .i64 p2, .int .i64 (de : Int)] 29) := (hb_v20.block (EDD) (Array.getElem?_eq_some_iff.1 (show v17.heap[EDD]? = some (.cells #[.int .i64 p0, .int .i64 p1, .int .i64 p2, .int .i64 (de : Int)] 29) from cDD_v17)).1).trans cDD_v17
            have cO_v20 : v20.heap[EO]? = some (.cells #[.int .i64 oa, .int .i64 ob, .int .i64 oc, .int .i64 (o : Int)] 29) := (hb_v20.block (EO) (Array.getElem?_eq_some_iff.1 (show v17.heap[EO]? = some (.cells #[.int .i64 oa, .int .i64 ob, .int .i64 oc, .int .i64 (o : Int)] 29) from cO_v17)).1).trans cO_v17
            have hw_v20 : Below D w v20 := (hw_v17).trans (hb_v20.mono (by first | omega | (simp; omega)))
            clear cX_v17 cY_v17 cOX_v17 cOY_v17 cDD_v17 cO_v17 hb_v20 y18_0 y18_1 y18_2 y18_3 y18_4 y18_5 y19_0 y19_1 y19_2 y19_3 y19_4 y19_5 hw_v17 hs_v20
            have G4 : Gi v20 := G.below (by rw [hD]; exact hw_v20)
            have N4 : Nm v20 := N.below (by rw [hD]; exact hw_v20)
            have ld21 : v20.heap[D]? = some (.cells #[.int .i64 x0, .int .i64 x1, .int .i64 x2, .int .i64 x3, .int .i64 x4, .int .i64 x5] 25) := cX_v20
            have y21_0 := cell6_0 ld21
            have y21_1 := cell6_1 ld21
            have y21_2 := cell6_2 ld21
            have y21_3 := cell6_3 ld21
            have y21_4 := cell6_4 ld21
            have y21_5 := cell6_5 ld21
            clear ld21
            have ld22 : v20.heap[D + 1]? = some (.cells #[.int .i64 y0, .int .i64 y1, .int .i64 y2, .int .i64 y3, .int .i64 y4, .int .i64 y5] 25) := cY_v20
            have y22_0 := cell6_0 ld22
            have y22_1 := cell6_1 ld22
            have y22_2 := cell6_2 ld22
            have y22_3 := cell6_3 ld22
            have y22_4 := cell6_4 ld22
            have y22_5 := cell6_5 ld22
            clear ld22
            go_wp2_with fail
            refine (CB.out _ G4).mono ?_
            rintro e v23 ⟨rfl, hb_v23⟩
            have hs_v23 := hw_v20.size
            have cX_v23 : v23.heap[D]? = some (.cells #[.int .i64 x0, .int .i64 x1, .int .i64 x2, .int .i64 x3, .int .i64 x4, .int .i64 x5] 25) := (hb_v23.block (D) (Array.getElem?_eq_some_iff.1 (show v20.heap[D]? = some (.cells #[.int .i64 x0, .int .i64 x1, .int .i64 x2, .int .i64 x3, .int .i64 x4, .int .i64 x5] 25) from cX_v20)).1).trans cX_v20
            have cY_v23 : v23.heap[D + 1]? = some (.cells #[.int .i64 y0, .int .i64 y1, .int .i64 y2, .int .i64 y3, .int .i64 y4, .int .i64 y5] 25) := (hb_v23.block (D + 1) (Array.getElem?_eq_some_iff.1 (show v20.heap[D + 1]? = some (.cells #[.int .i64 y0, .int .i64 y1, .int .i64 y2, .int .i64 y3, .int .i64 y4, .int .i64 y5] 25) from cY_v20)).1).trans cY_v20
            have cOX_v23 : v23.heap[EOX]? = some (.cells #[.int .i64 ra, .int .i64 rb, .int .i64 rc, .int .i64 (d : Int)] 29) := (hb_v23.block (EOX) (Array.getElem?_eq_some_iff.1 (show v20.heap[EOX]? = some (.cells #[.int .i64 ra, .int .i64 rb, .int .i64 rc, .int .i64 (d : Int)] 29) from cOX_v20)).1).trans cOX_v20
            have cOY_v23 : v23.heap[EOY]? = some (.cells #[.int .i64 ta, .int .i64 tb, .int .i64 tc, .int .i64 (e : Int)] 29) := (hb_v23.block (EOY) (Array.getElem?_eq_some_iff.1 (show v20.heap[EOY]? = some (.cells #[.int .i64 ta, .int .i64 tb, .int .i64 tc, .int .i64 (e : Int)] 29) from cOY_v20)).1).trans cOY_v20
            have cDD_v23 : v23.heap[EDD]? = some (.cells #[.int .i64 p0, .int .i64 p1, .int .i64 p2, .int .i64 (de : Int)] 29) := (hb_v23.block (EDD) (Array.getElem?_eq_some_iff.1 (show v20.heap[EDD]? = some (.cells #[.int .i64 p0, .int .i64 p1, .int .i64 p2, .int .i64 (de : Int)] 29) from cDD_v20)).1).trans cDD_v20
            have cO_v23 : v23.heap[EO]? = some (.cells #[.int .i64 oa, .int .i64 ob, .int .i64 oc, .int .i64 (o : Int)] 29) := (hb_v23.block (EO) (Array.getElem?_eq_some_iff.1 (show v20.heap[EO]? = some (.cells #[.int .i64 oa, .int .i64 ob, .int .i64 oc, .int .i64 (o : Int)] 29) from cO_v20)).1).trans cO_v20
            have hw_v23 : Below D w v23 := (hw_v20).trans (hb_v23.mono (by first | omega | (simp; omega)))
            clear cX_v20 cY_v20 cOX_v20 cOY_v20 cDD_v20 cO_v20 hb_v23 y21_0 y21_1 y21_2 y21_3 y21_4 y21_5 y22_0 y22_1 y22_2 y22_3 y22_4 y22_5 hw_v20 hs_v23
            clear SI CA CB
            have G5 : Gi v23 := G.below (by rw [hD]; exact hw_v23)
            have N5 : Nm v23 := N.below (by rw [hD]; exact hw_v23)
            have ld24 : v23.heap[EOX]? = some (.cells #[.int .i64 ra, .int .i64 rb, .int .i64 rc, .int .i64 (d : Int)] 29) := cOX_v23
            have y24_0 := cell4_0 ld24
            have y24_1 := cell4_1 ld24
            have y24_2 := cell4_2 ld24
            have y24_3 := cell4_3 ld24
            clear ld24
            go_wp2_with fail
            refine (SA.out _ G5).mono ?_
            rintro e v25 ⟨rfl, hb_v25⟩
            have hs_v25 := hw_v23.size
            have cX_v25 : v25.heap[D]? = some (.cells #[.int .i64 x0, .int .i64 x1, .int .i64 x2, .int .i64 x3, .int .i64 x4, .int .i64 x5] 25) := (hb_v25.block (D) (Array.getElem?_eq_some_iff.1 (show v23.heap[D]? = some (.cells #[.int .i64 x0, .int .i64 x1, .int .i64 x2, .int .i64 x3, .int .i64 x4, .int .i64 x5] 25) from cX_v23)).1).trans cX_v23
            have cY_v25 : v25.heap[D + 1]? = some (.cells #[.int .i64 y0, .int .i64 y1, .int .i64 y2, .int .i64 y3, .int .i64 y4, .int .i64 y5] 25) := (hb_v25.block (D + 1) (Array.getElem?_eq_some_iff.1 (show v23.heap[D + 1]? = some (.cells #[.int .i64 y0, .int .i64 y1, .int .i64 y2, .int .i64 y3, .int .i64 y4, .int .i64 y5] 25) from cY_v23)).1).trans cY_v23
            have cOX_v25 : v25.heap[EOX]? = some (.cells #[.int .i64 ra, .int .i64 rb, .int .i64 rc, .int .i64 (d : Int)] 29) := (hb_v25.block (EOX) (Array.getElem?_eq_some_iff.1 (show v23.heap[EOX]? = some (.cells #[.int .i64 ra, .int .i64 rb, .int .i64 rc, .int .i64 (d : Int)] 29) from cOX_v23)).1).trans cOX_v23
            have cOY_v25 : v25.heap[EOY]? = some (.cells #[.int .i64 ta, .int .i64 tb, .int .i64 tc, .int .i64 (e : Int)] 29) := (hb_v25.block (EOY) (Array.getElem?_eq_some_iff.1 (show v23.heap[EOY]? = some (.cells #[.int .i64 ta, .int .i64 tb, .int .i64 tc, .int .i64 (e : Int)] 29) from cOY_v23)).1).trans cOY_v23
            have cDD_v25 : v25.heap[EDD]? = some (.cells #[.int .i64 p0, .int .i64 p1, .int .i64 p2, .int .i64 (de : Int)] 29) := (hb_v25.block (EDD) (Array.getElem?_eq_some_iff.1 (show v23.heap[EDD]? = some (.cells #[.int .i64 p0, .int .i64 p1, .int .i64 p2, .int .i64 (de : Int)] 29) from cDD_v23)).1).trans cDD_v23
            have cO_v25 : v25.heap[EO]? = some (.cells #[.int .i64 oa, .int .i64 ob, .int .i64 oc, .int .i64 (o : Int)] 29) := (hb_v25.block (EO) (Array.getElem?_eq_some_iff.1 (show v23.heap[EO]? = some (.cells #[.int .i64 oa, .int .i64 ob, .int .i64 oc, .int .i64 (o : Int)] 29) from cO_v23)).1).trans cO_v23
            have hw_v25 : Below D w v25 := (hw_v23).trans (hb_v25.mono (by first | omega | (simp; omega)))
            clear cX_v23 cY_v23 cOX_v23 cOY_v23 cDD_v23 cO_v23 hb_v25 y24_0 y24_1 y24_2 y24_3 hw_v23 hs_v25
            have G6 : Gi v25 := G.below (by rw [hD]; exact hw_v25)
            have N6 : Nm v25 := N.below (by rw [hD]; exact hw_v25)
            have ld26 : v25.heap[EO]? = some (.cells #[.int .i64 oa, .int .i64 ob, .int .i64 oc, .int .i64 (o : Int)] 29) := cO_v25
            have y26_0 := cell4_0 ld26
            have y26_1 := cell4_1 ld26
            have y26_2 := cell4_2 ld26
            have y26_3 := cell4_3 ld26
            clear ld26
            go_wp2_with fail
            refine (SO.out _ G6).mono ?_
            rintro e v27 ⟨rfl, hb_v27⟩
            have hs_v27 := hw_v25.size
            have cX_v27 : v27.heap[D]? = some (.cells #[.int .i64 x0, .int .i64 x1, .int .i64 x2, .int .i64 x3, .int .i64 x4, .int .i64 x5] 25) := (hb_v27.block (D) (Array.getElem?_eq_some_iff.1 (show v25.heap[D]? = some (.cells #[.int .i64 x0, .int .i64 x1, .int .i64 x2, .int .i64 x3, .int .i64 x4, .int .i64 x5] 25) from cX_v25)).1).trans cX_v25
            have cY_v27 : v27.heap[D + 1]? = some (.cells #[.int .i64 y0, .int .i64 y1, .int .i64 y2, .int .i64 y3, .int .i64 y4, .int .i64 y5] 25) := (hb_v27.block (D + 1) (Array.getElem?_eq_some_iff.1 (show v25.heap[D + 1]? = some (.cells #[.int .i64 y0, .int .i64 y1, .int .i64 y2, .int .i64 y3, .int .i64 y4, .int .i64 y5] 25) from cY_v25)).1).trans cY_v25
            have cOX_v27 : v27.heap[EOX]? = some (.cells #[.int .i64 ra, .int .i64 rb, .int .i64 rc, .int .i64 (d : Int)] 29) := (hb_v27.block (EOX) (Array.getElem?_eq_some_iff.1 (show v25.heap[EOX]? = some (.cells #[.int .i64 ra, .int .i64 rb, .int .i64 rc, .int .i64 (d : Int)] 29) from cOX_v25)).1).trans cOX_v25
            have cOY_v27 : v27.heap[EOY]? = some (.cells #[.int .i64 ta, .int .i64 tb, .int .i64 tc, .int .i64 (e : Int)] 29) := (hb_v27.block (EOY) (Array.getElem?_eq_some_iff.1 (show v25.heap[EOY]? = some (.cells #[.int .i64 ta, .int .i64 tb, .int .i64 tc, .int .i64 (e : Int)] 29) from cOY_v25)).1).trans cOY_v25
            have cDD_v27 : v27.heap[EDD]? = some (.cells #[.int .i64 p0, .int .i64 p1, .int .i64 p2, .int .i64 (de : Int)] 29) := (hb_v27.block (EDD) (Array.getElem?_eq_some_iff.1 (show v25.heap[EDD]? = some (.cells #[.int .i64 p0, .int .i64 p1, .int .i64 p2, .int .i64 (de : Int)] 29) from cDD_v25)).1).trans cDD_v25
            have cO_v27 : v27.heap[EO]? = some (.cells #[.int .i64 oa, .int .i64 ob, .int .i64 oc, .int .i64 (o : Int)] 29) := (hb_v27.block (EO) (Array.getElem?_eq_some_iff.1 (show v25.heap[EO]? = some (.cells #[.int .i64 oa, .int .i64 ob, .int .i64 oc, .int .i64 (o : Int)] 29) from cO_v25)).1).trans cO_v25
            have hw_v27 : Below D w v27 := (hw_v25).trans (hb_v27.mono (by first | omega | (simp; omega)))
            clear cX_v25 cY_v25 cOX_v25 cOY_v25 cDD_v25 cO_v25 hb_v27 y26_0 y26_1 y26_2 y26_3 hw_v25 hs_v27
            have HW := Lib.hid (hw_v27)
            clear SA SO
            go_wp2
            go_ret
            exact ⟨rfl, by first | exact HW.out | (rw [hD]; exact HW.out)⟩
      · have HDE := Lib.hid hde
        generalize hp0 : (ra * (e : Int) + (-1) * ta * (d : Int)) = p0 at *
        generalize hp1 : (rb * (e : Int) + (-1) * tb * (d : Int)) = p1 at *
        generalize hp2 : (rc * (e : Int) + (-1) * tc * (d : Int)) = p2 at *
        generalize hdeq : d * e = de at *
        have hne : (oe == 0) = false := by rw [beq_eq_false_iff_ne]; exact ho
        clear bx bY bo hde hde2 hdc hdeq hd1 hd2 he1 he2 bq0 bq1 bq2 hp0 hp1 hp2 ROK HDE SI CA CB
        go_enter Tryz.func7, Tryz.ntmps7
        have ld1 : ((w.alloc (.cells #[.int .i64 x0, .int .i64 x1, .int .i64 x2, .int .i64 x3, .int .i64 x4, .int .i64 x5] 25)).alloc (.cells #[.int .i64 y0, .int .i64 y1, .int .i64 y2, .int .i64 y3, .int .i64 y4, .int .i64 y5] 25)).heap[D]? = some (.cells #[.int .i64 x0, .int .i64 x1, .int .i64 x2, .int .i64 x3, .int .i64 x4, .int .i64 x5] 25) := (heap_old (o := .cells #[.int .i64 y0, .int .i64 y1, .int .i64 y2, .int .i64 y3, .int .i64 y4, .int .i64 y5] 25) (heap_new (by first | omega | (simp; omega))))
        have y1_0 := cell6_0 ld1
        have y1_1 := cell6_1 ld1
        have y1_2 := cell6_2 ld1
        have y1_3 := cell6_3 ld1
        have y1_4 := cell6_4 ld1
        have y1_5 := cell6_5 ld1
        clear ld1
        go_wp2_with fail
        refine (RX.out _).mono ?_
        rintro e v2 ⟨rfl, hb_v2⟩
        have cX_v2 : v2.heap[D]? = some (.cells #[.int .i64 x0, .int .i64 x1, .int .i64 x2, .int .i64 x3, .int .i64 x4, .int .i64 x5] 25) := (hb_v2.block (D) (Array.getElem?_eq_some_iff.1 (show ((w.alloc (.cells #[.int .i64 x0, .int .i64 x1, .int .i64 x2, .int .i64 x3, .int .i64 x4, .int .i64 x5] 25)).alloc (.cells #[.int .i64 y0, .int .i64 y1, .int .i64 y2, .int .i64 y3, .int .i64 y4, .int .i64 y5] 25)).heap[D]? = some (.cells #[.int .i64 x0, .int .i64 x1, .int .i64 x2, .int .i64 x3, .int .i64 x4, .int .i64 x5] 25) from (heap_old (o := .cells #[.int .i64 y0, .int .i64 y1, .int .i64 y2, .int .i64 y3, .int .i64 y4, .int .i64 y5] 25) (heap_new (by first | omega | (simp; omega)))))).1).trans (heap_old (o := .cells #[.int .i64 y0, .int .i64 y1, .int .i64 y2, .int .i64 y3, .int .i64 y4, .int .i64 y5] 25) (heap_new (by first | omega | (simp; omega))))
        have cY_v2 : v2.heap[D + 1]? = some (.cells #[.int .i64 y0, .int .i64 y1, .int .i64 y2, .int .i64 y3, .int .i64 y4, .int .i64 y5] 25) := (hb_v2.block (D + 1) (Array.getElem?_eq_some_iff.1 (show ((w.alloc (.cells #[.int .i64 x0, .int .i64 x1, .int .i64 x2, .int .i64 x3, .int .i64 x4, .int .i64 x5] 25)).alloc (.cells #[.int .i64 y0, .int .i64 y1, .int .i64 y2, .int .i64 y3, .int .i64 y4, .int .i64 y5] 25)).heap[D + 1]? = some (.cells #[.int .i64 y0, .int .i64 y1, .int .i64 y2, .int .i64 y3, .int .i64 y4, .int .i64 y5] 25) from (heap_new (by first | omega | (simp; omega))))).1).trans (heap_new (by first | omega | (simp; omega)))
        have hw_v2 : Below D w v2 := ((((Below.refl _ w).alloc (by first | omega | (simp; omega)) (.cells #[.int .i64 x0, .int .i64 x1, .int .i64 x2, .int .i64 x3, .int .i64 x4, .int .i64 x5] 25)).alloc (by first | omega | (simp; omega)) (.cells #[.int .i64 y0, .int .i64 y1, .int .i64 y2, .int .i64 y3, .int .i64 y4, .int .i64 y5] 25))).trans (hb_v2.mono (by first | omega | (simp; omega)))
        clear hb_v2 y1_0 y1_1 y1_2 y1_3 y1_4 y1_5
        obtain ⟨EOX, hEOX⟩ : ∃ E, v2.heap.size = E := ⟨_, rfl⟩
        have ld3 : (v2.alloc (.cells #[.int .i64 ra, .int .i64 rb, .int .i64 rc, .int .i64 (d : Int)] 29)).heap[D + 1]? = some (.cells #[.int .i64 y0, .int .i64 y1, .int .i64 y2, .int .i64 y3, .int .i64 y4, .int .i64 y5] 25) := (heap_old (o := .cells #[.int .i64 ra, .int .i64 rb, .int .i64 rc, .int .i64 (d : Int)] 29) cY_v2)
        have y3_0 := cell6_0 ld3
        have y3_1 := cell6_1 ld3
        have y3_2 := cell6_2 ld3
        have y3_3 := cell6_3 ld3
        have y3_4 := cell6_4 ld3
        have y3_5 := cell6_5 ld3
        clear ld3
        go_wp2_with fail
        refine (RY.out _).mono ?_
        rintro e v4 ⟨rfl, hb_v4⟩
        have hs_v4 := hw_v2.size
        have cX_v4 : v4.heap[D]? = some (.cells #[.int .i64 x0, .int .i64 x1, .int .i64 x2, .int .i64 x3, .int .i64 x4, .int .i64 x5] 25) := (hb_v4.block (D) (Array.getElem?_eq_some_iff.1 (show (v2.alloc (.cells #[.int .i64 ra, .int .i64 rb, .int .i64 rc, .int .i64 (d : Int)] 29)).heap[D]? = some (.cells #[.int .i64 x0, .int .i64 x1, .int .i64 x2, .int .i64 x3, .int .i64 x4, .int .i64 x5] 25) from (heap_old (o := .cells #[.int .i64 ra, .int .i64 rb, .int .i64 rc, .int .i64 (d : Int)] 29) cX_v2))).1).trans (heap_old (o := .cells #[.int .i64 ra, .int .i64 rb, .int .i64 rc, .int .i64 (d : Int)] 29) cX_v2)
        have cY_v4 : v4.heap[D + 1]? = some (.cells #[.int .i64 y0, .int .i64 y1, .int .i64 y2, .int .i64 y3, .int .i64 y4, .int .i64 y5] 25) := (hb_v4.block (D + 1) (Array.getElem?_eq_some_iff.1 (show (v2.alloc (.cells #[.int .i64 ra, .int .i64 rb, .int .i64 rc, .int .i64 (d : Int)] 29)).heap[D + 1]? = some (.cells #[.int .i64 y0, .int .i64 y1, .int .i64 y2, .int .i64 y3, .int .i64 y4, .int .i64 y5] 25) from (heap_old (o := .cells #[.int .i64 ra, .int .i64 rb, .int .i64 rc, .int .i64 (d : Int)] 29) cY_v2))).1).trans (heap_old (o := .cells #[.int .i64 ra, .int .i64 rb, .int .i64 rc, .int .i64 (d : Int)] 29) cY_v2)
        have cOX_v4 : v4.heap[EOX]? = some (.cells #[.int .i64 ra, .int .i64 rb, .int .i64 rc, .int .i64 (d : Int)] 29) := (hb_v4.block (EOX) (Array.getElem?_eq_some_iff.1 (show (v2.alloc (.cells #[.int .i64 ra, .int .i64 rb, .int .i64 rc, .int .i64 (d : Int)] 29)).heap[EOX]? = some (.cells #[.int .i64 ra, .int .i64 rb, .int .i64 rc, .int .i64 (d : Int)] 29) from (heap_new (by first | omega | (simp; omega))))).1).trans (heap_new (by first | omega | (simp; omega)))
        have hw_v4 : Below D w v4 := ((hw_v2.alloc (by have := hw_v2.size; first | omega | (simp; omega)) (.cells #[.int .i64 ra, .int .i64 rb, .int .i64 rc, .int .i64 (d : Int)] 29))).trans (hb_v4.mono (by first | omega | (simp; omega)))
        clear cX_v2 cY_v2 hb_v4 y3_0 y3_1 y3_2 y3_3 y3_4 y3_5 hw_v2 hs_v4
        obtain ⟨EOY, hEOY⟩ : ∃ E, v4.heap.size = E := ⟨_, rfl⟩
        have G1 : Gi (v4.alloc (.cells #[.int .i64 ta, .int .i64 tb, .int .i64 tc, .int .i64 (e : Int)] 29)) := G.below (by rw [hD]; exact (hw_v4.alloc (by have := hw_v4.size; first | omega | (simp; omega)) (.cells #[.int .i64 ta, .int .i64 tb, .int .i64 tc, .int .i64 (e : Int)] 29)))
        have N1 : Nm (v4.alloc (.cells #[.int .i64 ta, .int .i64 tb, .int .i64 tc, .int .i64 (e : Int)] 29)) := N.below (by rw [hD]; exact (hw_v4.alloc (by have := hw_v4.size; first | omega | (simp; omega)) (.cells #[.int .i64 ta, .int .i64 tb, .int .i64 tc, .int .i64 (e : Int)] 29)))
        go_wp2_with fail
        refine (KN.out _ G1 N1).mono ?_
        rintro e v5 ⟨rfl, hb_v5⟩
        have hs_v5 := hw_v4.size
        have cX_v5 : v5.heap[D]? = some (.cells #[.int .i64 x0, .int .i64 x1, .int .i64 x2, .int .i64 x3, .int .i64 x4, .int .i64 x5] 25) := (hb_v5.block (D) (Array.getElem?_eq_some_iff.1 (show (v4.alloc (.cells #[.int .i64 ta, .int .i64 tb, .int .i64 tc, .int .i64 (e : Int)] 29)).heap[D]? = some (.cells #[.int .i64 x0, .int .i64 x1, .int .i64 x2, .int .i64 x3, .int .i64 x4, .int .i64 x5] 25) from (heap_old (o := .cells #[.int .i64 ta, .int .i64 tb, .int .i64 tc, .int .i64 (e : Int)] 29) cX_v4))).1).trans (heap_old (o := .cells #[.int .i64 ta, .int .i64 tb, .int .i64 tc, .int .i64 (e : Int)] 29) cX_v4)
        have cY_v5 : v5.heap[D + 1]? = some (.cells #[.int .i64 y0, .int .i64 y1, .int .i64 y2, .int .i64 y3, .int .i64 y4, .int .i64 y5] 25) := (hb_v5.block (D + 1) (Array.getElem?_eq_some_iff.1 (show (v4.alloc (.cells #[.int .i64 ta, .int .i64 tb, .int .i64 tc, .int .i64 (e : Int)] 29)).heap[D + 1]? = some (.cells #[.int .i64 y0, .int .i64 y1, .int .i64 y2, .int .i64 y3, .int .i64 y4, .int .i64 y5] 25) from (heap_old (o := .cells #[.int .i64 ta, .int .i64 tb, .int .i64 tc, .int .i64 (e : Int)] 29) cY_v4))).1).trans (heap_old (o := .cells #[.int .i64 ta, .int .i64 tb, .int .i64 tc, .int .i64 (e : Int)] 29) cY_v4)
        have cOX_v5 : v5.heap[EOX]? = some (.cells #[.int .i64 ra, .int .i64 rb, .int .i64 rc, .int .i64 (d : Int)] 29) := (hb_v5.block (EOX) (Array.getElem?_eq_some_iff.1 (show (v4.alloc (.cells #[.int .i64 ta, .int .i64 tb, .int .i64 tc, .int .i64 (e : Int)] 29)).heap[EOX]? = some (.cells #[.int .i64 ra, .int .i64 rb, .int .i64 rc, .int .i64 (d : Int)] 29) from (heap_old (o := .cells #[.int .i64 ta, .int .i64 tb, .int .i64 tc, .int .i64 (e : Int)] 29) cOX_v4))).1).trans (heap_old (o := .cells #[.int .i64 ta, .int .i64 tb, .int .i64 tc, .int .i64 (e : Int)] 29) cOX_v4)
        have cOY_v5 : v5.heap[EOY]? = some (.cells #[.int .i64 ta, .int .i64 tb, .int .i64 tc, .int .i64 (e : Int)] 29) := (hb_v5.block (EOY) (Array.getElem?_eq_some_iff.1 (show (v4.alloc (.cells #[.int .i64 ta, .int .i64 tb, .int .i64 tc, .int .i64 (e : Int)] 29)).heap[EOY]? = some (.cells #[.int .i64 ta, .int .i64 tb, .int .i64 tc, .int .i64 (e : Int)] 29) from (heap_new (by first | omega | (simp; omega))))).1).trans (heap_new (by first | omega | (simp; omega)))
        have hw_v5 : Below D w v5 := ((hw_v4.alloc (by have := hw_v4.size; first | omega | (simp; omega)) (.cells #[.int .i64 ta, .int .i64 tb, .int .i64 tc, .int .i64 (e : Int)] 29))).trans (hb_v5.mono (by first | omega | (simp; omega)))
        clear cX_v4 cY_v4 cOX_v4 hb_v5 hw_v4 hs_v5
        have ld6 : v5.heap[EOX]? = some (.cells #[.int .i64 ra, .int .i64 rb, .int .i64 rc, .int .i64 (d : Int)] 29) := cOX_v5
        have y6_0 := cell4_0 ld6
        have y6_1 := cell4_1 ld6
        have y6_2 := cell4_2 ld6
        have y6_3 := cell4_3 ld6
        clear ld6
        have ld7 : v5.heap[EOY]? = some (.cells #[.int .i64 ta, .int .i64 tb, .int .i64 tc, .int .i64 (e : Int)] 29) := cOY_v5
        have y7_0 := cell4_0 ld7
        have y7_1 := cell4_1 ld7
        have y7_2 := cell4_2 ld7
        have y7_3 := cell4_3 ld7
        clear ld7
        go_wp2_with fail
        refine (RA.out _).mono ?_
        rintro e v8 ⟨rfl, hb_v8⟩
        have hs_v8 := hw_v5.size
        have cX_v8 : v8.heap[D]? = some (.cells #[.int .i64 x0, .int .i64 x1, .int .i64 x2, .int .i64 x3, .int .i64 x4, .int .i64 x5] 25) := (hb_v8.block (D) (Array.getElem?_eq_some_iff.1 (show v5.heap[D]? = some (.cells #[.int .i64 x0, .int .i64 x1, .int .i64 x2, .int .i64 x3, .int .i64 x4, .int .i64 x5] 25) from cX_v5)).1).trans cX_v5
        have cY_v8 : v8.heap[D + 1]? = some (.cells #[.int .i64 y0, .int .i64 y1, .int .i64 y2, .int .i64 y3, .int .i64 y4, .int .i64 y5] 25) := (hb_v8.block (D + 1) (Array.getElem?_eq_some_iff.1 (show v5.heap[D + 1]? = some (.cells #[.int .i64 y0, .int .i64 y1, .int .i64 y2, .int .i64 y3, .int .i64 y4, .int .i64 y5] 25) from cY_v5)).1).trans cY_v5
        have cOX_v8 : v8.heap[EOX]? = some (.cells #[.int .i64 ra, .int .i64 rb, .int .i64 rc, .int .i64 (d : Int)] 29) := (hb_v8.block (EOX) (Array.getElem?_eq_some_iff.1 (show v5.heap[EOX]? = some (.cells #[.int .i64 ra, .int .i64 rb, .int .i64 rc, .int .i64 (d : Int)] 29) from cOX_v5)).1).trans cOX_v5
        have cOY_v8 : v8.heap[EOY]? = some (.cells #[.int .i64 ta, .int .i64 tb, .int .i64 tc, .int .i64 (e : Int)] 29) := (hb_v8.block (EOY) (Array.getElem?_eq_some_iff.1 (show v5.heap[EOY]? = some (.cells #[.int .i64 ta, .int .i64 tb, .int .i64 tc, .int .i64 (e : Int)] 29) from cOY_v5)).1).trans cOY_v5
        have hw_v8 : Below D w v8 := (hw_v5).trans (hb_v8.mono (by first | omega | (simp; omega)))
        clear cX_v5 cY_v5 cOX_v5 cOY_v5 hb_v8 y6_0 y6_1 y6_2 y6_3 y7_0 y7_1 y7_2 y7_3 hw_v5 hs_v8
        obtain ⟨EDD, hEDD⟩ : ∃ E, v8.heap.size = E := ⟨_, rfl⟩
        have ld9 : (v8.alloc (.cells #[.int .i64 p0, .int .i64 p1, .int .i64 p2, .int .i64 (de : Int)] 29)).heap[EDD]? = some (.cells #[.int .i64 p0, .int .i64 p1, .int .i64 p2, .int .i64 (de : Int)] 29) := (heap_new (by first | omega | (simp; omega)))
        have y9_0 := cell4_0 ld9
        have y9_1 := cell4_1 ld9
        have y9_2 := cell4_2 ld9
        have y9_3 := cell4_3 ld9
        clear ld9
        go_wp2_with fail
        refine (WR.out _).mono ?_
        rintro e v10 ⟨rfl, hb_v10⟩
        have hs_v10 := hw_v8.size
        have cX_v10 : v10.heap[D]? = some (.cells #[.int .i64 x0, .int .i64 x1, .int .i64 x2, .int .i64 x3, .int .i64 x4, .int .i64 x5] 25) := (hb_v10.block (D) (Array.getElem?_eq_some_iff.1 (show (v8.alloc (.cells #[.int .i64 p0, .int .i64 p1, .int .i64 p2, .int .i64 (de : Int)] 29)).heap[D]? = some (.cells #[.int .i64 x0, .int .i64 x1, .int .i64 x2, .int .i64 x3, .int .i64 x4, .int .i64 x5] 25) from (heap_old (o := .cells #[.int .i64 p0, .int .i64 p1, .int .i64 p2, .int .i64 (de : Int)] 29) cX_v8))).1).trans (heap_old (o := .cells #[.int .i64 p0, .int .i64 p1, .int .i64 p2, .int .i64 (de : Int)] 29) cX_v8)
        have cY_v10 : v10.heap[D + 1]? = some (.cells #[.int .i64 y0, .int .i64 y1, .int .i64 y2, .int .i64 y3, .int .i64 y4, .int .i64 y5] 25) := (hb_v10.block (D + 1) (Array.getElem?_eq_some_iff.1 (show (v8.alloc (.cells #[.int .i64 p0, .int .i64 p1, .int .i64 p2, .int .i64 (de : Int)] 29)).heap[D + 1]? = some (.cells #[.int .i64 y0, .int .i64 y1, .int .i64 y2, .int .i64 y3, .int .i64 y4, .int .i64 y5] 25) from (heap_old (o := .cells #[.int .i64 p0, .int .i64 p1, .int .i64 p2, .int .i64 (de : Int)] 29) cY_v8))).1).trans (heap_old (o := .cells #[.int .i64 p0, .int .i64 p1, .int .i64 p2, .int .i64 (de : Int)] 29) cY_v8)
        have cOX_v10 : v10.heap[EOX]? = some (.cells #[.int .i64 ra, .int .i64 rb, .int .i64 rc, .int .i64 (d : Int)] 29) := (hb_v10.block (EOX) (Array.getElem?_eq_some_iff.1 (show (v8.alloc (.cells #[.int .i64 p0, .int .i64 p1, .int .i64 p2, .int .i64 (de : Int)] 29)).heap[EOX]? = some (.cells #[.int .i64 ra, .int .i64 rb, .int .i64 rc, .int .i64 (d : Int)] 29) from (heap_old (o := .cells #[.int .i64 p0, .int .i64 p1, .int .i64 p2, .int .i64 (de : Int)] 29) cOX_v8))).1).trans (heap_old (o := .cells #[.int .i64 p0, .int .i64 p1, .int .i64 p2, .int .i64 (de : Int)] 29) cOX_v8)
        have cOY_v10 : v10.heap[EOY]? = some (.cells #[.int .i64 ta, .int .i64 tb, .int .i64 tc, .int .i64 (e : Int)] 29) := (hb_v10.block (EOY) (Array.getElem?_eq_some_iff.1 (show (v8.alloc (.cells #[.int .i64 p0, .int .i64 p1, .int .i64 p2, .int .i64 (de : Int)] 29)).heap[EOY]? = some (.cells #[.int .i64 ta, .int .i64 tb, .int .i64 tc, .int .i64 (e : Int)] 29) from (heap_old (o := .cells #[.int .i64 p0, .int .i64 p1, .int .i64 p2, .int .i64 (de : Int)] 29) cOY_v8))).1).trans (heap_old (o := .cells #[.int .i64 p0, .int .i64 p1, .int .i64 p2, .int .i64 (de : Int)] 29) cOY_v8)
        have cDD_v10 : v10.heap[EDD]? = some (.cells #[.int .i64 p0, .int .i64 p1, .int .i64 p2, .int .i64 (de : Int)] 29) := (hb_v10.block (EDD) (Array.getElem?_eq_some_iff.1 (show (v8.alloc (.cells #[.int .i64 p0, .int .i64 p1, .int .i64 p2, .int .i64 (de : Int)] 29)).heap[EDD]? = some (.cells #[.int .i64 p0, .int .i64 p1, .int .i64 p2, .int .i64 (de : Int)] 29) from (heap_new (by first | omega | (simp; omega))))).1).trans (heap_new (by first | omega | (simp; omega)))
        have hw_v10 : Below D w v10 := ((hw_v8.alloc (by have := hw_v8.size; first | omega | (simp; omega)) (.cells #[.int .i64 p0, .int .i64 p1, .int .i64 p2, .int .i64 (de : Int)] 29))).trans (hb_v10.mono (by first | omega | (simp; omega)))
        clear cX_v8 cY_v8 cOX_v8 cOY_v8 hb_v10 y9_0 y9_1 y9_2 y9_3 hw_v8 hs_v10
        go_wp2_with fail
        refine (RO.out _).mono ?_
        rintro e v11 ⟨rfl, hb_v11⟩
        have hs_v11 := hw_v10.size
        have cX_v11 : v11.heap[D]? = some (.cells #[.int .i64 x0, .int .i64 x1, .int .i64 x2, .int .i64 x3, .int .i64 x4, .int .i64 x5] 25) := (hb_v11.block (D) (Array.getElem?_eq_some_iff.1 (show v10.heap[D]? = some (.cells #[.int .i64 x0, .int .i64 x1, .int .i64 x2, .int .i64 x3, .int .i64 x4, .int .i64 x5] 25) from cX_v10)).1).trans cX_v10
        have cY_v11 : v11.heap[D + 1]? = some (.cells #[.int .i64 y0, .int .i64 y1, .int .i64 y2, .int .i64 y3, .int .i64 y4, .int .i64 y5] 25) := (hb_v11.block (D + 1) (Array.getElem?_eq_some_iff.1 (show v10.heap[D + 1]? = some (.cells #[.int .i64 y0, .int .i64 y1, .int .i64 y2, .int .i64 y3, .int .i64 y4, .int .i64 y5] 25) from cY_v10)).1).trans cY_v10
        have cOX_v11 : v11.heap[EOX]? = some (.cells #[.int .i64 ra, .int .i64 rb, .int .i64 rc, .int .i64 (d : Int)] 29) := (hb_v11.block (EOX) (Array.getElem?_eq_some_iff.1 (show v10.heap[EOX]? = some (.cells #[.int .i64 ra, .int .i64 rb, .int .i64 rc, .int .i64 (d : Int)] 29) from cOX_v10)).1).trans cOX_v10
        have cOY_v11 : v11.heap[EOY]? = some (.cells #[.int .i64 ta, .int .i64 tb, .int .i64 tc, .int .i64 (e : Int)] 29) := (hb_v11.block (EOY) (Array.getElem?_eq_some_iff.1 (show v10.heap[EOY]? = some (.cells #[.int .i64 ta, .int .i64 tb, .int .i64 tc, .int .i64 (e : Int)] 29) from cOY_v10)).1).trans cOY_v10
        have cDD_v11 : v11.heap[EDD]? = some (.cells #[.int .i64 p0, .int .i64 p1, .int .i64 p2, .int .i64 (de : Int)] 29) := (hb_v11.block (EDD) (Array.getElem?_eq_some_iff.1 (show v10.heap[EDD]? = some (.cells #[.int .i64 p0, .int .i64 p1, .int .i64 p2, .int .i64 (de : Int)] 29) from cDD_v10)).1).trans cDD_v10
        have hw_v11 : Below D w v11 := (hw_v10).trans (hb_v11.mono (by first | omega | (simp; omega)))
        clear cX_v10 cY_v10 cOX_v10 cOY_v10 cDD_v10 hb_v11 hw_v10 hs_v11
        obtain ⟨EO, hEO⟩ : ∃ E, v11.heap.size = E := ⟨_, rfl⟩
        have HW := Lib.hid ((hw_v11.alloc (by have := hw_v11.size; first | omega | (simp; omega)) (.cells #[.int .i64 oa, .int .i64 ob, .int .i64 oc, .int .i64 od] 29)))
        clear KN RX RY RA WR RO
        go_wp2
        go_ret
        exact ⟨rfl, by first | exact HW.out | (rw [hD]; exact HW.out)⟩
    · rw [hx] at RX
      clear hx
      generalize rdA x0 x1 x2 x3 x4 x5 = ra at *
      generalize rdB x0 x1 x2 x3 x4 x5 = rb at *
      generalize rdC x0 x1 x2 x3 x4 x5 = rc at *
      generalize rdD x0 x1 x2 x3 x4 x5 = rd at *
      generalize rdA y0 y1 y2 y3 y4 y5 = ta at *
      generalize rdB y0 y1 y2 y3 y4 y5 = tb at *
      generalize rdC y0 y1 y2 y3 y4 y5 = tc at *
      generalize rdD y0 y1 y2 y3 y4 y5 = td at *
      generalize Iv.rdE y0 y1 y2 y3 y4 y5 = te at *
      have hne : (te == 0) = false := by rw [beq_eq_false_iff_ne]; exact hy
      go_enter Tryz.func7, Tryz.ntmps7
      have ld1 : ((w.alloc (.cells #[.int .i64 x0, .int .i64 x1, .int .i64 x2, .int .i64 x3, .int .i64 x4, .int .i64 x5] 25)).alloc (.cells #[.int .i64 y0, .int .i64 y1, .int .i64 y2, .int .i64 y3, .int .i64 y4, .int .i64 y5] 25)).heap[D]? = some (.cells #[.int .i64 x0, .int .i64 x1, .int .i64 x2, .int .i64 x3, .int .i64 x4, .int .i64 x5] 25) := (heap_old (o := .cells #[.int .i64 y0, .int .i64 y1, .int .i64 y2, .int .i64 y3, .int .i64 y4, .int .i64 y5] 25) (heap_new (by first | omega | (simp; omega))))
      have y1_0 := cell6_0 ld1
      have y1_1 := cell6_1 ld1
      have y1_2 := cell6_2 ld1
      have y1_3 := cell6_3 ld1
      have y1_4 := cell6_4 ld1
      have y1_5 := cell6_5 ld1
      clear ld1
      go_wp2_with fail
      refine (RX.out _).mono ?_
      rintro e v2 ⟨rfl, hb_v2⟩
      have cX_v2 : v2.heap[D]? = some (.cells #[.int .i64 x0, .int .i64 x1, .int .i64 x2, .int .i64 x3, .int .i64 x4, .int .i64 x5] 25) := (hb_v2.block (D) (Array.getElem?_eq_some_iff.1 (show ((w.alloc (.cells #[.int .i64 x0, .int .i64 x1, .int .i64 x2, .int .i64 x3, .int .i64 x4, .int .i64 x5] 25)).alloc (.cells #[.int .i64 y0, .int .i64 y1, .int .i64 y2, .int .i64 y3, .int .i64 y4, .int .i64 y5] 25)).heap[D]? = some (.cells #[.int .i64 x0, .int .i64 x1, .int .i64 x2, .int .i64 x3, .int .i64 x4, .int .i64 x5] 25) from (heap_old (o := .cells #[.int .i64 y0, .int .i64 y1, .int .i64 y2, .int .i64 y3, .int .i64 y4, .int .i64 y5] 25) (heap_new (by first | omega | (simp; omega)))))).1).trans (heap_old (o := .cells #[.int .i64 y0, .int .i64 y1, .int .i64 y2, .int .i64 y3, .int .i64 y4, .int .i64 y5] 25) (heap_new (by first | omega | (simp; omega))))
      have cY_v2 : v2.heap[D + 1]? = some (.cells #[.int .i64 y0, .int .i64 y1, .int .i64 y2, .int .i64 y3, .int .i64 y4, .int .i64 y5] 25) := (hb_v2.block (D + 1) (Array.getElem?_eq_some_iff.1 (show ((w.alloc (.cells #[.int .i64 x0, .int .i64 x1, .int .i64 x2, .int .i64 x3, .int .i64 x4, .int .i64 x5] 25)).alloc (.cells #[.int .i64 y0, .int .i64 y1, .int .i64 y2, .int .i64 y3, .int .i64 y4, .int .i64 y5] 25)).heap[D + 1]? = some (.cells #[.int .i64 y0, .int .i64 y1, .int .i64 y2, .int .i64 y3, .int .i64 y4, .int .i64 y5] 25) from (heap_new (by first | omega | (simp; omega))))).1).trans (heap_new (by first | omega | (simp; omega)))
      have hw_v2 : Below D w v2 := ((((Below.refl _ w).alloc (by first | omega | (simp; omega)) (.cells #[.int .i64 x0, .int .i64 x1, .int .i64 x2, .int .i64 x3, .int .i64 x4, .int .i64 x5] 25)).alloc (by first | omega | (simp; omega)) (.cells #[.int .i64 y0, .int .i64 y1, .int .i64 y2, .int .i64 y3, .int .i64 y4, .int .i64 y5] 25))).trans (hb_v2.mono (by first | omega | (simp; omega)))
      clear hb_v2 y1_0 y1_1 y1_2 y1_3 y1_4 y1_5
      obtain ⟨EOX, hEOX⟩ : ∃ E, v2.heap.size = E := ⟨_, rfl⟩
      have ld3 : (v2.alloc (.cells #[.int .i64 ra, .int .i64 rb, .int .i64 rc, .int .i64 rd] 29)).heap[D + 1]? = some (.cells #[.int .i64 y0, .int .i64 y1, .int .i64 y2, .int .i64 y3, .int .i64 y4, .int .i64 y5] 25) := (heap_old (o := .cells #[.int .i64 ra, .int .i64 rb, .int .i64 rc, .int .i64 rd] 29) cY_v2)
      have y3_0 := cell6_0 ld3
      have y3_1 := cell6_1 ld3
      have y3_2 := cell6_2 ld3
      have y3_3 := cell6_3 ld3
      have y3_4 := cell6_4 ld3
      have y3_5 := cell6_5 ld3
      clear ld3
      go_wp2_with fail
      refine (RY.out _).mono ?_
      rintro e v4 ⟨rfl, hb_v4⟩
      have hs_v4 := hw_v2.size
      have cX_v4 : v4.heap[D]? = some (.cells #[.int .i64 x0, .int .i64 x1, .int .i64 x2, .int .i64 x3, .int .i64 x4, .int .i64 x5] 25) := (hb_v4.block (D) (Array.getElem?_eq_some_iff.1 (show (v2.alloc (.cells #[.int .i64 ra, .int .i64 rb, .int .i64 rc, .int .i64 rd] 29)).heap[D]? = some (.cells #[.int .i64 x0, .int .i64 x1, .int .i64 x2, .int .i64 x3, .int .i64 x4, .int .i64 x5] 25) from (heap_old (o := .cells #[.int .i64 ra, .int .i64 rb, .int .i64 rc, .int .i64 rd] 29) cX_v2))).1).trans (heap_old (o := .cells #[.int .i64 ra, .int .i64 rb, .int .i64 rc, .int .i64 rd] 29) cX_v2)
      have cY_v4 : v4.heap[D + 1]? = some (.cells #[.int .i64 y0, .int .i64 y1, .int .i64 y2, .int .i64 y3, .int .i64 y4, .int .i64 y5] 25) := (hb_v4.block (D + 1) (Array.getElem?_eq_some_iff.1 (show (v2.alloc (.cells #[.int .i64 ra, .int .i64 rb, .int .i64 rc, .int .i64 rd] 29)).heap[D + 1]? = some (.cells #[.int .i64 y0, .int .i64 y1, .int .i64 y2, .int .i64 y3, .int .i64 y4, .int .i64 y5] 25) from (heap_old (o := .cells #[.int .i64 ra, .int .i64 rb, .int .i64 rc, .int .i64 rd] 29) cY_v2))).1).trans (heap_old (o := .cells #[.int .i64 ra, .int .i64 rb, .int .i64 rc, .int .i64 rd] 29) cY_v2)
      have cOX_v4 : v4.heap[EOX]? = some (.cells #[.int .i64 ra, .int .i64 rb, .int .i64 rc, .int .i64 rd] 29) := (hb_v4.block (EOX) (Array.getElem?_eq_some_iff.1 (show (v2.alloc (.cells #[.int .i64 ra, .int .i64 rb, .int .i64 rc, .int .i64 rd] 29)).heap[EOX]? = some (.cells #[.int .i64 ra, .int .i64 rb, .int .i64 rc, .int .i64 rd] 29) from (heap_new (by first | omega | (simp; omega))))).1).trans (heap_new (by first | omega | (simp; omega)))
      have hw_v4 : Below D w v4 := ((hw_v2.alloc (by have := hw_v2.size; first | omega | (simp; omega)) (.cells #[.int .i64 ra, .int .i64 rb, .int .i64 rc, .int .i64 rd] 29))).trans (hb_v4.mono (by first | omega | (simp; omega)))
      clear cX_v2 cY_v2 hb_v4 y3_0 y3_1 y3_2 y3_3 y3_4 y3_5 hw_v2 hs_v4
      obtain ⟨EOY, hEOY⟩ : ∃ E, v4.heap.size = E := ⟨_, rfl⟩
      have G1 : Gi (v4.alloc (.cells #[.int .i64 ta, .int .i64 tb, .int .i64 tc, .int .i64 td] 29)) := G.below (by rw [hD]; exact (hw_v4.alloc (by have := hw_v4.size; first | omega | (simp; omega)) (.cells #[.int .i64 ta, .int .i64 tb, .int .i64 tc, .int .i64 td] 29)))
      have N1 : Nm (v4.alloc (.cells #[.int .i64 ta, .int .i64 tb, .int .i64 tc, .int .i64 td] 29)) := N.below (by rw [hD]; exact (hw_v4.alloc (by have := hw_v4.size; first | omega | (simp; omega)) (.cells #[.int .i64 ta, .int .i64 tb, .int .i64 tc, .int .i64 td] 29)))
      go_wp2_with fail
      refine (KN.out _ G1 N1).mono ?_
      rintro e v5 ⟨rfl, hb_v5⟩
      have hs_v5 := hw_v4.size
      have cX_v5 : v5.heap[D]? = some (.cells #[.int .i64 x0, .int .i64 x1, .int .i64 x2, .int .i64 x3, .int .i64 x4, .int .i64 x5] 25) := (hb_v5.block (D) (Array.getElem?_eq_some_iff.1 (show (v4.alloc (.cells #[.int .i64 ta, .int .i64 tb, .int .i64 tc, .int .i64 td] 29)).heap[D]? = some (.cells #[.int .i64 x0, .int .i64 x1, .int .i64 x2, .int .i64 x3, .int .i64 x4, .int .i64 x5] 25) from (heap_old (o := .cells #[.int .i64 ta, .int .i64 tb, .int .i64 tc, .int .i64 td] 29) cX_v4))).1).trans (heap_old (o := .cells #[.int .i64 ta, .int .i64 tb, .int .i64 tc, .int .i64 td] 29) cX_v4)
      have cY_v5 : v5.heap[D + 1]? = some (.cells #[.int .i64 y0, .int .i64 y1, .int .i64 y2, .int .i64 y3, .int .i64 y4, .int .i64 y5] 25) := (hb_v5.block (D + 1) (Array.getElem?_eq_some_iff.1 (show (v4.alloc (.cells #[.int .i64 ta, .int .i64 tb, .int .i64 tc, .int .i64 td] 29)).heap[D + 1]? = some (.cells #[.int .i64 y0, .int .i64 y1, .int .i64 y2, .int .i64 y3, .int .i64 y4, .int .i64 y5] 25) from (heap_old (o := .cells #[.int .i64 ta, .int .i64 tb, .int .i64 tc, .int .i64 td] 29) cY_v4))).1).trans (heap_old (o := .cells #[.int .i64 ta, .int .i64 tb, .int .i64 tc, .int .i64 td] 29) cY_v4)
      have cOX_v5 : v5.heap[EOX]? = some (.cells #[.int .i64 ra, .int .i64 rb, .int .i64 rc, .int .i64 rd] 29) := (hb_v5.block (EOX) (Array.getElem?_eq_some_iff.1 (show (v4.alloc (.cells #[.int .i64 ta, .int .i64 tb, .int .i64 tc, .int .i64 td] 29)).heap[EOX]? = some (.cells #[.int .i64 ra, .int .i64 rb, .int .i64 rc, .int .i64 rd] 29) from (heap_old (o := .cells #[.int .i64 ta, .int .i64 tb, .int .i64 tc, .int .i64 td] 29) cOX_v4))).1).trans (heap_old (o := .cells #[.int .i64 ta, .int .i64 tb, .int .i64 tc, .int .i64 td] 29) cOX_v4)
      have cOY_v5 : v5.heap[EOY]? = some (.cells #[.int .i64 ta, .int .i64 tb, .int .i64 tc, .int .i64 td] 29) := (hb_v5.block (EOY) (Array.getElem?_eq_some_iff.1 (show (v4.alloc (.cells #[.int .i64 ta, .int .i64 tb, .int .i64 tc, .int .i64 td] 29)).heap[EOY]? = some (.cells #[.int .i64 ta, .int .i64 tb, .int .i64 tc, .int .i64 td] 29) from (heap_new (by first | omega | (simp; omega))))).1).trans (heap_new (by first | omega | (simp; omega)))
      have hw_v5 : Below D w v5 := ((hw_v4.alloc (by have := hw_v4.size; first | omega | (simp; omega)) (.cells #[.int .i64 ta, .int .i64 tb, .int .i64 tc, .int .i64 td] 29))).trans (hb_v5.mono (by first | omega | (simp; omega)))
      clear cX_v4 cY_v4 cOX_v4 hb_v5 hw_v4 hs_v5
      have G2 : Gi v5 := G.below (by rw [hD]; exact hw_v5)
      have N2 : Nm v5 := N.below (by rw [hD]; exact hw_v5)
      go_wp2_with fail
      refine (KN.out _ G2 N2).mono ?_
      rintro e v6 ⟨rfl, hb_v6⟩
      have hs_v6 := hw_v5.size
      have cX_v6 : v6.heap[D]? = some (.cells #[.int .i64 x0, .int .i64 x1, .int .i64 x2, .int .i64 x3, .int .i64 x4, .int .i64 x5] 25) := (hb_v6.block (D) (Array.getElem?_eq_some_iff.1 (show v5.heap[D]? = some (.cells #[.int .i64 x0, .int .i64 x1, .int .i64 x2, .int .i64 x3, .int .i64 x4, .int .i64 x5] 25) from cX_v5)).1).trans cX_v5
      have cY_v6 : v6.heap[D + 1]? = some (.cells #[.int .i64 y0, .int .i64 y1, .int .i64 y2, .int .i64 y3, .int .i64 y4, .int .i64 y5] 25) := (hb_v6.block (D + 1) (Array.getElem?_eq_some_iff.1 (show v5.heap[D + 1]? = some (.cells #[.int .i64 y0, .int .i64 y1, .int .i64 y2, .int .i64 y3, .int .i64 y4, .int .i64 y5] 25) from cY_v5)).1).trans cY_v5
      have cOX_v6 : v6.heap[EOX]? = some (.cells #[.int .i64 ra, .int .i64 rb, .int .i64 rc, .int .i64 rd] 29) := (hb_v6.block (EOX) (Array.getElem?_eq_some_iff.1 (show v5.heap[EOX]? = some (.cells #[.int .i64 ra, .int .i64 rb, .int .i64 rc, .int .i64 rd] 29) from cOX_v5)).1).trans cOX_v5
      have cOY_v6 : v6.heap[EOY]? = some (.cells #[.int .i64 ta, .int .i64 tb, .int .i64 tc, .int .i64 td] 29) := (hb_v6.block (EOY) (Array.getElem?_eq_some_iff.1 (show v5.heap[EOY]? = some (.cells #[.int .i64 ta, .int .i64 tb, .int .i64 tc, .int .i64 td] 29) from cOY_v5)).1).trans cOY_v5
      have hw_v6 : Below D w v6 := (hw_v5).trans (hb_v6.mono (by first | omega | (simp; omega)))
      clear cX_v5 cY_v5 cOX_v5 cOY_v5 hb_v6 hw_v5 hs_v6
      have HW := Lib.hid (hw_v6)
      clear KN RX RY
      go_wp2
      go_ret
      exact ⟨rfl, by first | exact HW.out | (rw [hD]; exact HW.out)⟩
  · generalize rdA x0 x1 x2 x3 x4 x5 = ra at *
    generalize rdB x0 x1 x2 x3 x4 x5 = rb at *
    generalize rdC x0 x1 x2 x3 x4 x5 = rc at *
    generalize rdD x0 x1 x2 x3 x4 x5 = rd at *
    generalize rdA y0 y1 y2 y3 y4 y5 = ta at *
    generalize rdB y0 y1 y2 y3 y4 y5 = tb at *
    generalize rdC y0 y1 y2 y3 y4 y5 = tc at *
    generalize rdD y0 y1 y2 y3 y4 y5 = td at *
    generalize Iv.rdE x0 x1 x2 x3 x4 x5 = re at *
    generalize Iv.rdE y0 y1 y2 y3 y4 y5 = te at *
    have hne : (re == 0) = false := by rw [beq_eq_false_iff_ne]; exact hx
    go_enter Tryz.func7, Tryz.ntmps7
    have ld1 : ((w.alloc (.cells #[.int .i64 x0, .int .i64 x1, .int .i64 x2, .int .i64 x3, .int .i64 x4, .int .i64 x5] 25)).alloc (.cells #[.int .i64 y0, .int .i64 y1, .int .i64 y2, .int .i64 y3, .int .i64 y4, .int .i64 y5] 25)).heap[D]? = some (.cells #[.int .i64 x0, .int .i64 x1, .int .i64 x2, .int .i64 x3, .int .i64 x4, .int .i64 x5] 25) := (heap_old (o := .cells #[.int .i64 y0, .int .i64 y1, .int .i64 y2, .int .i64 y3, .int .i64 y4, .int .i64 y5] 25) (heap_new (by first | omega | (simp; omega))))
    have y1_0 := cell6_0 ld1
    have y1_1 := cell6_1 ld1
    have y1_2 := cell6_2 ld1
    have y1_3 := cell6_3 ld1
    have y1_4 := cell6_4 ld1
    have y1_5 := cell6_5 ld1
    clear ld1
    go_wp2_with fail
    refine (RX.out _).mono ?_
    rintro e v2 ⟨rfl, hb_v2⟩
    have cX_v2 : v2.heap[D]? = some (.cells #[.int .i64 x0, .int .i64 x1, .int .i64 x2, .int .i64 x3, .int .i64 x4, .int .i64 x5] 25) := (hb_v2.block (D) (Array.getElem?_eq_some_iff.1 (show ((w.alloc (.cells #[.int .i64 x0, .int .i64 x1, .int .i64 x2, .int .i64 x3, .int .i64 x4, .int .i64 x5] 25)).alloc (.cells #[.int .i64 y0, .int .i64 y1, .int .i64 y2, .int .i64 y3, .int .i64 y4, .int .i64 y5] 25)).heap[D]? = some (.cells #[.int .i64 x0, .int .i64 x1, .int .i64 x2, .int .i64 x3, .int .i64 x4, .int .i64 x5] 25) from (heap_old (o := .cells #[.int .i64 y0, .int .i64 y1, .int .i64 y2, .int .i64 y3, .int .i64 y4, .int .i64 y5] 25) (heap_new (by first | omega | (simp; omega)))))).1).trans (heap_old (o := .cells #[.int .i64 y0, .int .i64 y1, .int .i64 y2, .int .i64 y3, .int .i64 y4, .int .i64 y5] 25) (heap_new (by first | omega | (simp; omega))))
    have cY_v2 : v2.heap[D + 1]? = some (.cells #[.int .i64 y0, .int .i64 y1, .int .i64 y2, .int .i64 y3, .int .i64 y4, .int .i64 y5] 25) := (hb_v2.block (D + 1) (Array.getElem?_eq_some_iff.1 (show ((w.alloc (.cells #[.int .i64 x0, .int .i64 x1, .int .i64 x2, .int .i64 x3, .int .i64 x4, .int .i64 x5] 25)).alloc (.cells #[.int .i64 y0, .int .i64 y1, .int .i64 y2, .int .i64 y3, .int .i64 y4, .int .i64 y5] 25)).heap[D + 1]? = some (.cells #[.int .i64 y0, .int .i64 y1, .int .i64 y2, .int .i64 y3, .int .i64 y4, .int .i64 y5] 25) from (heap_new (by first | omega | (simp; omega))))).1).trans (heap_new (by first | omega | (simp; omega)))
    have hw_v2 : Below D w v2 := ((((Below.refl _ w).alloc (by first | omega | (simp; omega)) (.cells #[.int .i64 x0, .int .i64 x1, .int .i64 x2, .int .i64 x3, .int .i64 x4, .int .i64 x5] 25)).alloc (by first | omega | (simp; omega)) (.cells #[.int .i64 y0, .int .i64 y1, .int .i64 y2, .int .i64 y3, .int .i64 y4, .int .i64 y5] 25))).trans (hb_v2.mono (by first | omega | (simp; omega)))
    clear hb_v2 y1_0 y1_1 y1_2 y1_3 y1_4 y1_5
    obtain ⟨EOX, hEOX⟩ : ∃ E, v2.heap.size = E := ⟨_, rfl⟩
    have ld3 : (v2.alloc (.cells #[.int .i64 ra, .int .i64 rb, .int .i64 rc, .int .i64 rd] 29)).heap[D + 1]? = some (.cells #[.int .i64 y0, .int .i64 y1, .int .i64 y2, .int .i64 y3, .int .i64 y4, .int .i64 y5] 25) := (heap_old (o := .cells #[.int .i64 ra, .int .i64 rb, .int .i64 rc, .int .i64 rd] 29) cY_v2)
    have y3_0 := cell6_0 ld3
    have y3_1 := cell6_1 ld3
    have y3_2 := cell6_2 ld3
    have y3_3 := cell6_3 ld3
    have y3_4 := cell6_4 ld3
    have y3_5 := cell6_5 ld3
    clear ld3
    go_wp2_with fail
    refine (RY.out _).mono ?_
    rintro e v4 ⟨rfl, hb_v4⟩
    have hs_v4 := hw_v2.size
    have cX_v4 : v4.heap[D]? = some (.cells #[.int .i64 x0, .int .i64 x1, .int .i64 x2, .int .i64 x3, .int .i64 x4, .int .i64 x5] 25) := (hb_v4.block (D) (Array.getElem?_eq_some_iff.1 (show (v2.alloc (.cells #[.int .i64 ra, .int .i64 rb, .int .i64 rc, .int .i64 rd] 29)).heap[D]? = some (.cells #[.int .i64 x0, .int .i64 x1, .int .i64 x2, .int .i64 x3, .int .i64 x4, .int .i64 x5] 25) from (heap_old (o := .cells #[.int .i64 ra, .int .i64 rb, .int .i64 rc, .int .i64 rd] 29) cX_v2))).1).trans (heap_old (o := .cells #[.int .i64 ra, .int .i64 rb, .int .i64 rc, .int .i64 rd] 29) cX_v2)
    have cY_v4 : v4.heap[D + 1]? = some (.cells #[.int .i64 y0, .int .i64 y1, .int .i64 y2, .int .i64 y3, .int .i64 y4, .int .i64 y5] 25) := (hb_v4.block (D + 1) (Array.getElem?_eq_some_iff.1 (show (v2.alloc (.cells #[.int .i64 ra, .int .i64 rb, .int .i64 rc, .int .i64 rd] 29)).heap[D + 1]? = some (.cells #[.int .i64 y0, .int .i64 y1, .int .i64 y2, .int .i64 y3, .int .i64 y4, .int .i64 y5] 25) from (heap_old (o := .cells #[.int .i64 ra, .int .i64 rb, .int .i64 rc, .int .i64 rd] 29) cY_v2))).1).trans (heap_old (o := .cells #[.int .i64 ra, .int .i64 rb, .int .i64 rc, .int .i64 rd] 29) cY_v2)
    have cOX_v4 : v4.heap[EOX]? = some (.cells #[.int .i64 ra, .int .i64 rb, .int .i64 rc, .int .i64 rd] 29) := (hb_v4.block (EOX) (Array.getElem?_eq_some_iff.1 (show (v2.alloc (.cells #[.int .i64 ra, .int .i64 rb, .int .i64 rc, .int .i64 rd] 29)).heap[EOX]? = some (.cells #[.int .i64 ra, .int .i64 rb, .int .i64 rc, .int .i64 rd] 29) from (heap_new (by first | omega | (simp; omega))))).1).trans (heap_new (by first | omega | (simp; omega)))
    have hw_v4 : Below D w v4 := ((hw_v2.alloc (by have := hw_v2.size; first | omega | (simp; omega)) (.cells #[.int .i64 ra, .int .i64 rb, .int .i64 rc, .int .i64 rd] 29))).trans (hb_v4.mono (by first | omega | (simp; omega)))
    clear cX_v2 cY_v2 hb_v4 y3_0 y3_1 y3_2 y3_3 y3_4 y3_5 hw_v2 hs_v4
    obtain ⟨EOY, hEOY⟩ : ∃ E, v4.heap.size = E := ⟨_, rfl⟩
    have G1 : Gi (v4.alloc (.cells #[.int .i64 ta, .int .i64 tb, .int .i64 tc, .int .i64 td] 29)) := G.below (by rw [hD]; exact (hw_v4.alloc (by have := hw_v4.size; first | omega | (simp; omega)) (.cells #[.int .i64 ta, .int .i64 tb, .int .i64 tc, .int .i64 td] 29)))
    have N1 : Nm (v4.alloc (.cells #[.int .i64 ta, .int .i64 tb, .int .i64 tc, .int .i64 td] 29)) := N.below (by rw [hD]; exact (hw_v4.alloc (by have := hw_v4.size; first | omega | (simp; omega)) (.cells #[.int .i64 ta, .int .i64 tb, .int .i64 tc, .int .i64 td] 29)))
    go_wp2_with fail
    refine (KN.out _ G1 N1).mono ?_
    rintro e v5 ⟨rfl, hb_v5⟩
    have hs_v5 := hw_v4.size
    have cX_v5 : v5.heap[D]? = some (.cells #[.int .i64 x0, .int .i64 x1, .int .i64 x2, .int .i64 x3, .int .i64 x4, .int .i64 x5] 25) := (hb_v5.block (D) (Array.getElem?_eq_some_iff.1 (show (v4.alloc (.cells #[.int .i64 ta, .int .i64 tb, .int .i64 tc, .int .i64 td] 29)).heap[D]? = some (.cells #[.int .i64 x0, .int .i64 x1, .int .i64 x2, .int .i64 x3, .int .i64 x4, .int .i64 x5] 25) from (heap_old (o := .cells #[.int .i64 ta, .int .i64 tb, .int .i64 tc, .int .i64 td] 29) cX_v4))).1).trans (heap_old (o := .cells #[.int .i64 ta, .int .i64 tb, .int .i64 tc, .int .i64 td] 29) cX_v4)
    have cY_v5 : v5.heap[D + 1]? = some (.cells #[.int .i64 y0, .int .i64 y1, .int .i64 y2, .int .i64 y3, .int .i64 y4, .int .i64 y5] 25) := (hb_v5.block (D + 1) (Array.getElem?_eq_some_iff.1 (show (v4.alloc (.cells #[.int .i64 ta, .int .i64 tb, .int .i64 tc, .int .i64 td] 29)).heap[D + 1]? = some (.cells #[.int .i64 y0, .int .i64 y1, .int .i64 y2, .int .i64 y3, .int .i64 y4, .int .i64 y5] 25) from (heap_old (o := .cells #[.int .i64 ta, .int .i64 tb, .int .i64 tc, .int .i64 td] 29) cY_v4))).1).trans (heap_old (o := .cells #[.int .i64 ta, .int .i64 tb, .int .i64 tc, .int .i64 td] 29) cY_v4)
    have cOX_v5 : v5.heap[EOX]? = some (.cells #[.int .i64 ra, .int .i64 rb, .int .i64 rc, .int .i64 rd] 29) := (hb_v5.block (EOX) (Array.getElem?_eq_some_iff.1 (show (v4.alloc (.cells #[.int .i64 ta, .int .i64 tb, .int .i64 tc, .int .i64 td] 29)).heap[EOX]? = some (.cells #[.int .i64 ra, .int .i64 rb, .int .i64 rc, .int .i64 rd] 29) from (heap_old (o := .cells #[.int .i64 ta, .int .i64 tb, .int .i64 tc, .int .i64 td] 29) cOX_v4))).1).trans (heap_old (o := .cells #[.int .i64 ta, .int .i64 tb, .int .i64 tc, .int .i64 td] 29) cOX_v4)
    have cOY_v5 : v5.heap[EOY]? = some (.cells #[.int .i64 ta, .int .i64 tb, .int .i64 tc, .int .i64 td] 29) := (hb_v5.block (EOY) (Array.getElem?_eq_some_iff.1 (show (v4.alloc (.cells #[.int .i64 ta, .int .i64 tb, .int .i64 tc, .int .i64 td] 29)).heap[EOY]? = some (.cells #[.int .i64 ta, .int .i64 tb, .int .i64 tc, .int .i64 td] 29) from (heap_new (by first | omega | (simp; omega))))).1).trans (heap_new (by first | omega | (simp; omega)))
    have hw_v5 : Below D w v5 := ((hw_v4.alloc (by have := hw_v4.size; first | omega | (simp; omega)) (.cells #[.int .i64 ta, .int .i64 tb, .int .i64 tc, .int .i64 td] 29))).trans (hb_v5.mono (by first | omega | (simp; omega)))
    clear cX_v4 cY_v4 cOX_v4 hb_v5 hw_v4 hs_v5
    have G2 : Gi v5 := G.below (by rw [hD]; exact hw_v5)
    have N2 : Nm v5 := N.below (by rw [hD]; exact hw_v5)
    go_wp2_with fail
    refine (KN.out _ G2 N2).mono ?_
    rintro e v6 ⟨rfl, hb_v6⟩
    have hs_v6 := hw_v5.size
    have cX_v6 : v6.heap[D]? = some (.cells #[.int .i64 x0, .int .i64 x1, .int .i64 x2, .int .i64 x3, .int .i64 x4, .int .i64 x5] 25) := (hb_v6.block (D) (Array.getElem?_eq_some_iff.1 (show v5.heap[D]? = some (.cells #[.int .i64 x0, .int .i64 x1, .int .i64 x2, .int .i64 x3, .int .i64 x4, .int .i64 x5] 25) from cX_v5)).1).trans cX_v5
    have cY_v6 : v6.heap[D + 1]? = some (.cells #[.int .i64 y0, .int .i64 y1, .int .i64 y2, .int .i64 y3, .int .i64 y4, .int .i64 y5] 25) := (hb_v6.block (D + 1) (Array.getElem?_eq_some_iff.1 (show v5.heap[D + 1]? = some (.cells #[.int .i64 y0, .int .i64 y1, .int .i64 y2, .int .i64 y3, .int .i64 y4, .int .i64 y5] 25) from cY_v5)).1).trans cY_v5
    have cOX_v6 : v6.heap[EOX]? = some (.cells #[.int .i64 ra, .int .i64 rb, .int .i64 rc, .int .i64 rd] 29) := (hb_v6.block (EOX) (Array.getElem?_eq_some_iff.1 (show v5.heap[EOX]? = some (.cells #[.int .i64 ra, .int .i64 rb, .int .i64 rc, .int .i64 rd] 29) from cOX_v5)).1).trans cOX_v5
    have cOY_v6 : v6.heap[EOY]? = some (.cells #[.int .i64 ta, .int .i64 tb, .int .i64 tc, .int .i64 td] 29) := (hb_v6.block (EOY) (Array.getElem?_eq_some_iff.1 (show v5.heap[EOY]? = some (.cells #[.int .i64 ta, .int .i64 tb, .int .i64 tc, .int .i64 td] 29) from cOY_v5)).1).trans cOY_v5
    have hw_v6 : Below D w v6 := (hw_v5).trans (hb_v6.mono (by first | omega | (simp; omega)))
    clear cX_v5 cY_v5 cOX_v5 cOY_v5 hb_v6 hw_v5 hs_v6
    have HW := Lib.hid (hw_v6)
    clear KN RX RY
    go_wp2
    go_ret
    exact ⟨rfl, by first | exact HW.out | (rw [hD]; exact HW.out)⟩
end Go.Proofs.YthdoadkdofgenaaGreatDoor
