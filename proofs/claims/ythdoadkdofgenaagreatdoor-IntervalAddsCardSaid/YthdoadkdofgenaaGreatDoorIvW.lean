/- The walk of IntervalAdds. -/
import Derived.Test.YthdoadkdofgenaaGreatDoorIvMathC
import Derived.Test.YthdoadkdofgenaaGreatDoorIvS
import Derived.Test.YthdoadkdofgenaaGreatDoorIvV
import Derived.Laws.StructEq
namespace Go.Proofs.YthdoadkdofgenaaGreatDoor
open Go Go.RowKit Go.Shelf

theorem eq_size (a b c d e f : Int) : ∀ W : World, (binOp .eql 25 (.agg #[.int .i64 a, .int .i64 b, .int .i64 c, .int .i64 d, .int .i64 e, .int .i64 f]) (.agg #[.int .i64 a, .int .i64 b, .int .i64 c, .int .i64 d, .int .i64 e, .int .i64 f])).run Tryz.prog W = .ok (.bool true) W := by
  intro W
  simp [go_sem]
theorem sz_eqv {x a b c x' a' b' c' : Int} {D D' : Nat} (h1 : 0 < D) (h2 : 0 < D') (hx : x * D' = x' * D) (ha : a * D' = a' * D) (hb : b * D' = b' * D) (hc : c * D' = c' * D) :
    szN x a b c D = szN x' a' b' c' D' ∧ szD x a b c D = szD x' a' b' c' D' ∧ szE a b c D = szE a' b' c' D' := by
  have ho := Iv.okB_eqv h1 h2 ha hb hc
  have hq := Iv.qn_eqv h1 h2 hx
  unfold szN szD szE
  rw [ho, hq.1, hq.2]
  exact ⟨rfl, rfl, rfl⟩
theorem cb_sz (x x' a a' b b' c c' k : Int) {d e : Nat} (hd : 0 < d) (he : 0 < e) :
    szN (Iv.cb x x' d e k) (Iv.cb a a' d e k) (Iv.cb b b' d e k) (Iv.cb c c' d e k) (Nat.lcm d e) = szN (x * e + k * x' * d) (a * e + k * a' * d) (b * e + k * b' * d) (c * e + k * c' * d) (d * e) ∧
    szD (Iv.cb x x' d e k) (Iv.cb a a' d e k) (Iv.cb b b' d e k) (Iv.cb c c' d e k) (Nat.lcm d e) = szD (x * e + k * x' * d) (a * e + k * a' * d) (b * e + k * b' * d) (c * e + k * c' * d) (d * e) ∧
    szE (Iv.cb a a' d e k) (Iv.cb b b' d e k) (Iv.cb c c' d e k) (Nat.lcm d e) = szE (a * e + k * a' * d) (b * e + k * b' * d) (c * e + k * c' * d) (d * e) :=
  sz_eqv (Nat.lcm_pos hd he) (Nat.mul_pos hd he) (Iv.cb_eqv hd he x x' k) (Iv.cb_eqv hd he a a' k) (Iv.cb_eqv hd he b b' k) (Iv.cb_eqv hd he c c' k)

set_option maxRecDepth 100000 in
set_option maxHeartbeats 8000000 in
theorem adds_walk (x0 x1 x2 x3 x4 x5 y0 y1 y2 y3 y4 y5 : Int) (w : World) (G : Gi w) (N : Nm w) :
    Calls Tryz.prog 5 #[.agg #[.int .i64 x0, .int .i64 x1, .int .i64 x2, .int .i64 x3, .int .i64 x4, .int .i64 x5], .agg #[.int .i64 y0, .int .i64 y1, .int .i64 y2, .int .i64 y3, .int .i64 y4, .int .i64 y5]] w fun e w' => e = .returned (.bool true) ∧ Below w.heap.size w w' := by
  have KN := Lib.hid (fun W (G : Gi W) (N : Nm W) => lknown_any W G N)
  have RX := Lib.hid (fun W => lread_any x0 x1 x2 x3 x4 x5 W)
  have RY := Lib.hid (fun W => lread_any y0 y1 y2 y3 y4 y5 W)
  obtain ⟨D, hD⟩ : ∃ D, w.heap.size = D := ⟨_, rfl⟩
  by_cases hx : Iv.rdE x0 x1 x2 x3 x4 x5 = 0
  · by_cases hy : Iv.rdE y0 y1 y2 y3 y4 y5 = 0
    · obtain ⟨d, ed, hd1, hd2⟩ := rd_nat x0 x1 x2 x3 x4 x5 hx
      obtain ⟨e, ee, he1, he2⟩ := rd_nat y0 y1 y2 y3 y4 y5 hy
      have bx := rd_bounds x0 x1 x2 x3 x4 x5
      have bY := rd_bounds y0 y1 y2 y3 y4 y5
      have AD := Lib.hid (fun W => ivadd_ok x0 x1 x2 x3 x4 x5 y0 y1 y2 y3 y4 y5 d e W hx hy ed hd1 hd2 ee he1 he2)
      have SU := Lib.hid (fun W => ivsub_ok x0 x1 x2 x3 x4 x5 y0 y1 y2 y3 y4 y5 d e W hx hy ed hd1 hd2 ee he1 he2)
      rw [hx] at RX
      rw [hy] at RY
      clear hx hy
      generalize rdA x0 x1 x2 x3 x4 x5 = ra at *
      generalize rdB x0 x1 x2 x3 x4 x5 = rb at *
      generalize rdC x0 x1 x2 x3 x4 x5 = rc at *
      generalize rdD x0 x1 x2 x3 x4 x5 = rd at *
      generalize rdA y0 y1 y2 y3 y4 y5 = ta at *
      generalize rdB y0 y1 y2 y3 y4 y5 = tb at *
      generalize rdC y0 y1 y2 y3 y4 y5 = tc at *
      generalize rdD y0 y1 y2 y3 y4 y5 = td at *
      subst ed ee
      obtain ⟨fAD0, gAD0, iAD0⟩ := cb_sz ra ta ra ta rb tb rc tc 1 hd1 he1
      obtain ⟨fAD1, gAD1, iAD1⟩ := cb_sz rb tb ra ta rb tb rc tc 1 hd1 he1
      obtain ⟨fAD2, gAD2, iAD2⟩ := cb_sz rc tc ra ta rb tb rc tc 1 hd1 he1
      rw [fAD0, gAD0, fAD1, gAD1, fAD2, gAD2, iAD0] at AD
      clear fAD0 gAD0 fAD1 gAD1 fAD2 gAD2 iAD0 iAD1 iAD2
      have RA1 := Lib.hid (fun W => radd_any ra rb rc (d : Int) ta tb tc (e : Int) 1 W (by omega) (by omega) (by omega) (by omega) (by omega) (by omega) (by omega) (by omega) (by decide))
      obtain ⟨fSU0, gSU0, iSU0⟩ := cb_sz ra ta ra ta rb tb rc tc (-1) hd1 he1
      obtain ⟨fSU1, gSU1, iSU1⟩ := cb_sz rb tb ra ta rb tb rc tc (-1) hd1 he1
      obtain ⟨fSU2, gSU2, iSU2⟩ := cb_sz rc tc ra ta rb tb rc tc (-1) hd1 he1
      rw [fSU0, gSU0, fSU1, gSU1, fSU2, gSU2, iSU0] at SU
      clear fSU0 gSU0 fSU1 gSU1 fSU2 gSU2 iSU0 iSU1 iSU2
      have RA2 := Lib.hid (fun W => radd_any ra rb rc (d : Int) ta tb tc (e : Int) (-1) W (by omega) (by omega) (by omega) (by omega) (by omega) (by omega) (by omega) (by omega) (by decide))
      have hde : 0 < d * e := Nat.mul_pos hd1 he1
      have hde2 : d * e ≤ 240 * 240 := Nat.mul_le_mul hd2 he2
      have hdc : ((d : Int) * (e : Int)) = ((d * e : Nat) : Int) := by push_cast; rfl
      rw [hdc] at RA1 RA2
      have bp0 : -3000000 ≤ ra * (e : Int) + 1 * ta * (d : Int) ∧ ra * (e : Int) + 1 * ta * (d : Int) ≤ 3000000 := by
        have h1 := mulb (x := ra) (y := (e : Int)) (X := 6000) (Y := 240) (by omega) (by omega) (by omega) (by omega)
        have h2 := mulb (x := ta) (y := (d : Int)) (X := 6000) (Y := 240) (by omega) (by omega) (by omega) (by omega)
        rw [Int.one_mul]
        omega
      have bp1 : -3000000 ≤ rb * (e : Int) + 1 * tb * (d : Int) ∧ rb * (e : Int) + 1 * tb * (d : Int) ≤ 3000000 := by
        have h1 := mulb (x := rb) (y := (e : Int)) (X := 6000) (Y := 240) (by omega) (by omega) (by omega) (by omega)
        have h2 := mulb (x := tb) (y := (d : Int)) (X := 6000) (Y := 240) (by omega) (by omega) (by omega) (by omega)
        rw [Int.one_mul]
        omega
      have bp2 : -3000000 ≤ rc * (e : Int) + 1 * tc * (d : Int) ∧ rc * (e : Int) + 1 * tc * (d : Int) ≤ 3000000 := by
        have h1 := mulb (x := rc) (y := (e : Int)) (X := 6000) (Y := 240) (by omega) (by omega) (by omega) (by omega)
        have h2 := mulb (x := tc) (y := (d : Int)) (X := 6000) (Y := 240) (by omega) (by omega) (by omega) (by omega)
        rw [Int.one_mul]
        omega
      have bq0 : -3000000 ≤ ra * (e : Int) + (-1) * ta * (d : Int) ∧ ra * (e : Int) + (-1) * ta * (d : Int) ≤ 3000000 := by
        have h1 := mulb (x := ra) (y := (e : Int)) (X := 6000) (Y := 240) (by omega) (by omega) (by omega) (by omega)
        have h2 := mulb (x := ta) (y := (d : Int)) (X := 6000) (Y := 240) (by omega) (by omega) (by omega) (by omega)
        rw [show ((-1) * ta * (d : Int)) = -(ta * (d : Int)) by rw [Int.neg_mul, Int.one_mul, Int.neg_mul]]
        omega
      have bq1 : -3000000 ≤ rb * (e : Int) + (-1) * tb * (d : Int) ∧ rb * (e : Int) + (-1) * tb * (d : Int) ≤ 3000000 := by
        have h1 := mulb (x := rb) (y := (e : Int)) (X := 6000) (Y := 240) (by omega) (by omega) (by omega) (by omega)
        have h2 := mulb (x := tb) (y := (d : Int)) (X := 6000) (Y := 240) (by omega) (by omega) (by omega) (by omega)
        rw [show ((-1) * tb * (d : Int)) = -(tb * (d : Int)) by rw [Int.neg_mul, Int.one_mul, Int.neg_mul]]
        omega
      have bq2 : -3000000 ≤ rc * (e : Int) + (-1) * tc * (d : Int) ∧ rc * (e : Int) + (-1) * tc * (d : Int) ≤ 3000000 := by
        have h1 := mulb (x := rc) (y := (e : Int)) (X := 6000) (Y := 240) (by omega) (by omega) (by omega) (by omega)
        have h2 := mulb (x := tc) (y := (d : Int)) (X := 6000) (Y := 240) (by omega) (by omega) (by omega) (by omega)
        rw [show ((-1) * tc * (d : Int)) = -(tc * (d : Int)) by rw [Int.neg_mul, Int.one_mul, Int.neg_mul]]
        omega
      have RR1 := Lib.hid (fun W => lright_any (ra * (e : Int) + 1 * ta * (d : Int)) (rb * (e : Int) + 1 * tb * (d : Int)) (rc * (e : Int) + 1 * tc * (d : Int)) (d * e) W (by omega) (by omega) (by omega) (by omega) (by omega) (by omega) hde (by omega))
      have RR2 := Lib.hid (fun W => lright_any (ra * (e : Int) + (-1) * ta * (d : Int)) (rb * (e : Int) + (-1) * tb * (d : Int)) (rc * (e : Int) + (-1) * tc * (d : Int)) (d * e) W (by omega) (by omega) (by omega) (by omega) (by omega) (by omega) hde (by omega))
      generalize szN (ra * (e : Int) + 1 * ta * (d : Int)) (ra * (e : Int) + 1 * ta * (d : Int)) (rb * (e : Int) + 1 * tb * (d : Int)) (rc * (e : Int) + 1 * tc * (d : Int)) (d * e) = s0 at *
      generalize szD (ra * (e : Int) + 1 * ta * (d : Int)) (ra * (e : Int) + 1 * ta * (d : Int)) (rb * (e : Int) + 1 * tb * (d : Int)) (rc * (e : Int) + 1 * tc * (d : Int)) (d * e) = s1 at *
      generalize szN (rb * (e : Int) + 1 * tb * (d : Int)) (ra * (e : Int) + 1 * ta * (d : Int)) (rb * (e : Int) + 1 * tb * (d : Int)) (rc * (e : Int) + 1 * tc * (d : Int)) (d * e) = s2 at *
      generalize szD (rb * (e : Int) + 1 * tb * (d : Int)) (ra * (e : Int) + 1 * ta * (d : Int)) (rb * (e : Int) + 1 * tb * (d : Int)) (rc * (e : Int) + 1 * tc * (d : Int)) (d * e) = s3 at *
      generalize szN (rc * (e : Int) + 1 * tc * (d : Int)) (ra * (e : Int) + 1 * ta * (d : Int)) (rb * (e : Int) + 1 * tb * (d : Int)) (rc * (e : Int) + 1 * tc * (d : Int)) (d * e) = s4 at *
      generalize szD (rc * (e : Int) + 1 * tc * (d : Int)) (ra * (e : Int) + 1 * ta * (d : Int)) (rb * (e : Int) + 1 * tb * (d : Int)) (rc * (e : Int) + 1 * tc * (d : Int)) (d * e) = s5 at *
      generalize szE (ra * (e : Int) + 1 * ta * (d : Int)) (rb * (e : Int) + 1 * tb * (d : Int)) (rc * (e : Int) + 1 * tc * (d : Int)) (d * e) = sE at *
      generalize (ra * (e : Int) + 1 * ta * (d : Int)) = p0 at *
      generalize (rb * (e : Int) + 1 * tb * (d : Int)) = p1 at *
      generalize (rc * (e : Int) + 1 * tc * (d : Int)) = p2 at *
      generalize szN (ra * (e : Int) + (-1) * ta * (d : Int)) (ra * (e : Int) + (-1) * ta * (d : Int)) (rb * (e : Int) + (-1) * tb * (d : Int)) (rc * (e : Int) + (-1) * tc * (d : Int)) (d * e) = u0 at *
      generalize szD (ra * (e : Int) + (-1) * ta * (d : Int)) (ra * (e : Int) + (-1) * ta * (d : Int)) (rb * (e : Int) + (-1) * tb * (d : Int)) (rc * (e : Int) + (-1) * tc * (d : Int)) (d * e) = u1 at *
      generalize szN (rb * (e : Int) + (-1) * tb * (d : Int)) (ra * (e : Int) + (-1) * ta * (d : Int)) (rb * (e : Int) + (-1) * tb * (d : Int)) (rc * (e : Int) + (-1) * tc * (d : Int)) (d * e) = u2 at *
      generalize szD (rb * (e : Int) + (-1) * tb * (d : Int)) (ra * (e : Int) + (-1) * ta * (d : Int)) (rb * (e : Int) + (-1) * tb * (d : Int)) (rc * (e : Int) + (-1) * tc * (d : Int)) (d * e) = u3 at *
      generalize szN (rc * (e : Int) + (-1) * tc * (d : Int)) (ra * (e : Int) + (-1) * ta * (d : Int)) (rb * (e : Int) + (-1) * tb * (d : Int)) (rc * (e : Int) + (-1) * tc * (d : Int)) (d * e) = u4 at *
      generalize szD (rc * (e : Int) + (-1) * tc * (d : Int)) (ra * (e : Int) + (-1) * ta * (d : Int)) (rb * (e : Int) + (-1) * tb * (d : Int)) (rc * (e : Int) + (-1) * tc * (d : Int)) (d * e) = u5 at *
      generalize szE (ra * (e : Int) + (-1) * ta * (d : Int)) (rb * (e : Int) + (-1) * tb * (d : Int)) (rc * (e : Int) + (-1) * tc * (d : Int)) (d * e) = uE at *
      generalize (ra * (e : Int) + (-1) * ta * (d : Int)) = q0 at *
      generalize (rb * (e : Int) + (-1) * tb * (d : Int)) = q1 at *
      generalize (rc * (e : Int) + (-1) * tc * (d : Int)) = q2 at *
      generalize hdeq : d * e = de at *
      clear bx bY hde hde2 hdc hdeq hd1 hd2 he1 he2 bp0 bp1 bp2 bq0 bq1 bq2
      have hes := eq_size s0 s1 s2 s3 s4 s5
      have heu := eq_size u0 u1 u2 u3 u4 u5
      go_enter Tryz.func5, Tryz.ntmps5
      have G1 : Gi ((w.alloc (.cells #[.int .i64 x0, .int .i64 x1, .int .i64 x2, .int .i64 x3, .int .i64 x4, .int .i64 x5] 25)).alloc (.cells #[.int .i64 y0, .int .i64 y1, .int .i64 y2, .int .i64 y3, .int .i64 y4, .int .i64 y5] 25)) := G.below (by rw [hD]; exact (((Below.refl _ w).alloc (by first | omega | (simp; omega)) (.cells #[.int .i64 x0, .int .i64 x1, .int .i64 x2, .int .i64 x3, .int .i64 x4, .int .i64 x5] 25)).alloc (by first | omega | (simp; omega)) (.cells #[.int .i64 y0, .int .i64 y1, .int .i64 y2, .int .i64 y3, .int .i64 y4, .int .i64 y5] 25)))
      have N1 : Nm ((w.alloc (.cells #[.int .i64 x0, .int .i64 x1, .int .i64 x2, .int .i64 x3, .int .i64 x4, .int .i64 x5] 25)).alloc (.cells #[.int .i64 y0, .int .i64 y1, .int .i64 y2, .int .i64 y3, .int .i64 y4, .int .i64 y5] 25)) := N.below (by rw [hD]; exact (((Below.refl _ w).alloc (by first | omega | (simp; omega)) (.cells #[.int .i64 x0, .int .i64 x1, .int .i64 x2, .int .i64 x3, .int .i64 x4, .int .i64 x5] 25)).alloc (by first | omega | (simp; omega)) (.cells #[.int .i64 y0, .int .i64 y1, .int .i64 y2, .int .i64 y3, .int .i64 y4, .int .i64 y5] 25)))
      go_wp2_with fail
      refine (KN.out _ G1 N1).mono ?_
      rintro e v1 ⟨rfl, hb_v1⟩
      have cX_v1 : v1.heap[D]? = some (.cells #[.int .i64 x0, .int .i64 x1, .int .i64 x2, .int .i64 x3, .int .i64 x4, .int .i64 x5] 25) := (hb_v1.block (D) (Array.getElem?_eq_some_iff.1 (show ((w.alloc (.cells #[.int .i64 x0, .int .i64 x1, .int .i64 x2, .int .i64 x3, .int .i64 x4, .int .i64 x5] 25)).alloc (.cells #[.int .i64 y0, .int .i64 y1, .int .i64 y2, .int .i64 y3, .int .i64 y4, .int .i64 y5] 25)).heap[D]? = some (.cells #[.int .i64 x0, .int .i64 x1, .int .i64 x2, .int .i64 x3, .int .i64 x4, .int .i64 x5] 25) from (heap_old (o := .cells #[.int .i64 y0, .int .i64 y1, .int .i64 y2, .int .i64 y3, .int .i64 y4, .int .i64 y5] 25) (heap_new (by first | omega | (simp; omega)))))).1).trans (heap_old (o := .cells #[.int .i64 y0, .int .i64 y1, .int .i64 y2, .int .i64 y3, .int .i64 y4, .int .i64 y5] 25) (heap_new (by first | omega | (simp; omega))))
      have cY_v1 : v1.heap[D + 1]? = some (.cells #[.int .i64 y0, .int .i64 y1, .int .i64 y2, .int .i64 y3, .int .i64 y4, .int .i64 y5] 25) := (hb_v1.block (D + 1) (Array.getElem?_eq_some_iff.1 (show ((w.alloc (.cells #[.int .i64 x0, .int .i64 x1, .int .i64 x2, .int .i64 x3, .int .i64 x4, .int .i64 x5] 25)).alloc (.cells #[.int .i64 y0, .int .i64 y1, .int .i64 y2, .int .i64 y3, .int .i64 y4, .int .i64 y5] 25)).heap[D + 1]? = some (.cells #[.int .i64 y0, .int .i64 y1, .int .i64 y2, .int .i64 y3, .int .i64 y4, .int .i64 y5] 25) from (heap_new (by first | omega | (simp; omega))))).1).trans (heap_new (by first | omega | (simp; omega)))
      have hw_v1 : Below D w v1 := ((((Below.refl _ w).alloc (by first | omega | (simp; omega)) (.cells #[.int .i64 x0, .int .i64 x1, .int .i64 x2, .int .i64 x3, .int .i64 x4, .int .i64 x5] 25)).alloc (by first | omega | (simp; omega)) (.cells #[.int .i64 y0, .int .i64 y1, .int .i64 y2, .int .i64 y3, .int .i64 y4, .int .i64 y5] 25))).trans (hb_v1.mono (by first | omega | (simp; omega)))
      clear hb_v1
      have ld2 : v1.heap[D]? = some (.cells #[.int .i64 x0, .int .i64 x1, .int .i64 x2, .int .i64 x3, .int .i64 x4, .int .i64 x5] 25) := cX_v1
      have y2_0 := cell6_0 ld2
      have y2_1 := cell6_1 ld2
      have y2_2 := cell6_2 ld2
      have y2_3 := cell6_3 ld2
      have y2_4 := cell6_4 ld2
      have y2_5 := cell6_5 ld2
      clear ld2
      go_wp2_with fail
      refine (RX.out _).mono ?_
      rintro e v3 ⟨rfl, hb_v3⟩
      have hs_v3 := hw_v1.size
      have cX_v3 : v3.heap[D]? = some (.cells #[.int .i64 x0, .int .i64 x1, .int .i64 x2, .int .i64 x3, .int .i64 x4, .int .i64 x5] 25) := (hb_v3.block (D) (Array.getElem?_eq_some_iff.1 (show v1.heap[D]? = some (.cells #[.int .i64 x0, .int .i64 x1, .int .i64 x2, .int .i64 x3, .int .i64 x4, .int .i64 x5] 25) from cX_v1)).1).trans cX_v1
      have cY_v3 : v3.heap[D + 1]? = some (.cells #[.int .i64 y0, .int .i64 y1, .int .i64 y2, .int .i64 y3, .int .i64 y4, .int .i64 y5] 25) := (hb_v3.block (D + 1) (Array.getElem?_eq_some_iff.1 (show v1.heap[D + 1]? = some (.cells #[.int .i64 y0, .int .i64 y1, .int .i64 y2, .int .i64 y3, .int .i64 y4, .int .i64 y5] 25) from cY_v1)).1).trans cY_v1
      have hw_v3 : Below D w v3 := (hw_v1).trans (hb_v3.mono (by first | omega | (simp; omega)))
      clear cX_v1 cY_v1 hb_v3 y2_0 y2_1 y2_2 y2_3 y2_4 y2_5 hw_v1 hs_v3
      obtain ⟨EOX, hEOX⟩ : ∃ E, v3.heap.size = E := ⟨_, rfl⟩
      have ld4 : (v3.alloc (.cells #[.int .i64 ra, .int .i64 rb, .int .i64 rc, .int .i64 (d : Int)] 29)).heap[D + 1]? = some (.cells #[.int .i64 y0, .int .i64 y1, .int .i64 y2, .int .i64 y3, .int .i64 y4, .int .i64 y5] 25) := (heap_old (o := .cells #[.int .i64 ra, .int .i64 rb, .int .i64 rc, .int .i64 (d : Int)] 29) cY_v3)
      have y4_0 := cell6_0 ld4
      have y4_1 := cell6_1 ld4
      have y4_2 := cell6_2 ld4
      have y4_3 := cell6_3 ld4
      have y4_4 := cell6_4 ld4
      have y4_5 := cell6_5 ld4
      clear ld4
      go_wp2_with fail
      refine (RY.out _).mono ?_
      rintro e v5 ⟨rfl, hb_v5⟩
      have hs_v5 := hw_v3.size
      have cX_v5 : v5.heap[D]? = some (.cells #[.int .i64 x0, .int .i64 x1, .int .i64 x2, .int .i64 x3, .int .i64 x4, .int .i64 x5] 25) := (hb_v5.block (D) (Array.getElem?_eq_some_iff.1 (show (v3.alloc (.cells #[.int .i64 ra, .int .i64 rb, .int .i64 rc, .int .i64 (d : Int)] 29)).heap[D]? = some (.cells #[.int .i64 x0, .int .i64 x1, .int .i64 x2, .int .i64 x3, .int .i64 x4, .int .i64 x5] 25) from (heap_old (o := .cells #[.int .i64 ra, .int .i64 rb, .int .i64 rc, .int .i64 (d : Int)] 29) cX_v3))).1).trans (heap_old (o := .cells #[.int .i64 ra, .int .i64 rb, .int .i64 rc, .int .i64 (d : Int)] 29) cX_v3)
      have cY_v5 : v5.heap[D + 1]? = some (.cells #[.int .i64 y0, .int .i64 y1, .int .i64 y2, .int .i64 y3, .int .i64 y4, .int .i64 y5] 25) := (hb_v5.block (D + 1) (Array.getElem?_eq_some_iff.1 (show (v3.alloc (.cells #[.int .i64 ra, .int .i64 rb, .int .i64 rc, .int .i64 (d : Int)] 29)).heap[D + 1]? = some (.cells #[.int .i64 y0, .int .i64 y1, .int .i64 y2, .int .i64 y3, .int .i64 y4, .int .i64 y5] 25) from (heap_old (o := .cells #[.int .i64 ra, .int .i64 rb, .int .i64 rc, .int .i64 (d : Int)] 29) cY_v3))).1).trans (heap_old (o := .cells #[.int .i64 ra, .int .i64 rb, .int .i64 rc, .int .i64 (d : Int)] 29) cY_v3)
      have cOX_v5 : v5.heap[EOX]? = some (.cells #[.int .i64 ra, .int .i64 rb, .int .i64 rc, .int .i64 (d : Int)] 29) := (hb_v5.block (EOX) (Array.getElem?_eq_some_iff.1 (show (v3.alloc (.cells #[.int .i64 ra, .int .i64 rb, .int .i64 rc, .int .i64 (d : Int)] 29)).heap[EOX]? = some (.cells #[.int .i64 ra, .int .i64 rb, .int .i64 rc, .int .i64 (d : Int)] 29) from (heap_new (by first | omega | (simp; omega))))).1).trans (heap_new (by first | omega | (simp; omega)))
      have hw_v5 : Below D w v5 := ((hw_v3.alloc (by have := hw_v3.size; first | omega | (simp; omega)) (.cells #[.int .i64 ra, .int .i64 rb, .int .i64 rc, .int .i64 (d : Int)] 29))).trans (hb_v5.mono (by first | omega | (simp; omega)))
      clear cX_v3 cY_v3 hb_v5 y4_0 y4_1 y4_2 y4_3 y4_4 y4_5 hw_v3 hs_v5
      obtain ⟨EOY, hEOY⟩ : ∃ E, v5.heap.size = E := ⟨_, rfl⟩
      have ld6 : (v5.alloc (.cells #[.int .i64 ta, .int .i64 tb, .int .i64 tc, .int .i64 (e : Int)] 29)).heap[D]? = some (.cells #[.int .i64 x0, .int .i64 x1, .int .i64 x2, .int .i64 x3, .int .i64 x4, .int .i64 x5] 25) := (heap_old (o := .cells #[.int .i64 ta, .int .i64 tb, .int .i64 tc, .int .i64 (e : Int)] 29) cX_v5)
      have y6_0 := cell6_0 ld6
      have y6_1 := cell6_1 ld6
      have y6_2 := cell6_2 ld6
      have y6_3 := cell6_3 ld6
      have y6_4 := cell6_4 ld6
      have y6_5 := cell6_5 ld6
      clear ld6
      have ld7 : (v5.alloc (.cells #[.int .i64 ta, .int .i64 tb, .int .i64 tc, .int .i64 (e : Int)] 29)).heap[D + 1]? = some (.cells #[.int .i64 y0, .int .i64 y1, .int .i64 y2, .int .i64 y3, .int .i64 y4, .int .i64 y5] 25) := (heap_old (o := .cells #[.int .i64 ta, .int .i64 tb, .int .i64 tc, .int .i64 (e : Int)] 29) cY_v5)
      have y7_0 := cell6_0 ld7
      have y7_1 := cell6_1 ld7
      have y7_2 := cell6_2 ld7
      have y7_3 := cell6_3 ld7
      have y7_4 := cell6_4 ld7
      have y7_5 := cell6_5 ld7
      clear ld7
      go_wp2_with fail
      refine (AD.out _).mono ?_
      rintro e v8 ⟨rfl, hb_v8⟩
      have hs_v8 := hw_v5.size
      have cX_v8 : v8.heap[D]? = some (.cells #[.int .i64 x0, .int .i64 x1, .int .i64 x2, .int .i64 x3, .int .i64 x4, .int .i64 x5] 25) := (hb_v8.block (D) (Array.getElem?_eq_some_iff.1 (show (v5.alloc (.cells #[.int .i64 ta, .int .i64 tb, .int .i64 tc, .int .i64 (e : Int)] 29)).heap[D]? = some (.cells #[.int .i64 x0, .int .i64 x1, .int .i64 x2, .int .i64 x3, .int .i64 x4, .int .i64 x5] 25) from (heap_old (o := .cells #[.int .i64 ta, .int .i64 tb, .int .i64 tc, .int .i64 (e : Int)] 29) cX_v5))).1).trans (heap_old (o := .cells #[.int .i64 ta, .int .i64 tb, .int .i64 tc, .int .i64 (e : Int)] 29) cX_v5)
      have cY_v8 : v8.heap[D + 1]? = some (.cells #[.int .i64 y0, .int .i64 y1, .int .i64 y2, .int .i64 y3, .int .i64 y4, .int .i64 y5] 25) := (hb_v8.block (D + 1) (Array.getElem?_eq_some_iff.1 (show (v5.alloc (.cells #[.int .i64 ta, .int .i64 tb, .int .i64 tc, .int .i64 (e : Int)] 29)).heap[D + 1]? = some (.cells #[.int .i64 y0, .int .i64 y1, .int .i64 y2, .int .i64 y3, .int .i64 y4, .int .i64 y5] 25) from (heap_old (o := .cells #[.int .i64 ta, .int .i64 tb, .int .i64 tc, .int .i64 (e : Int)] 29) cY_v5))).1).trans (heap_old (o := .cells #[.int .i64 ta, .int .i64 tb, .int .i64 tc, .int .i64 (e : Int)] 29) cY_v5)
      have cOX_v8 : v8.heap[EOX]? = some (.cells #[.int .i64 ra, .int .i64 rb, .int .i64 rc, .int .i64 (d : Int)] 29) := (hb_v8.block (EOX) (Array.getElem?_eq_some_iff.1 (show (v5.alloc (.cells #[.int .i64 ta, .int .i64 tb, .int .i64 tc, .int .i64 (e : Int)] 29)).heap[EOX]? = some (.cells #[.int .i64 ra, .int .i64 rb, .int .i64 rc, .int .i64 (d : Int)] 29) from (heap_old (o := .cells #[.int .i64 ta, .int .i64 tb, .int .i64 tc, .int .i64 (e : Int)] 29) cOX_v5))).1).trans (heap_old (o := .cells #[.int .i64 ta, .int .i64 tb, .int .i64 tc, .int .i64 (e : Int)] 29) cOX_v5)
      have cOY_v8 : v8.heap[EOY]? = some (.cells #[.int .i64 ta, .int .i64 tb, .int .i64 tc, .int .i64 (e : Int)] 29) := (hb_v8.block (EOY) (Array.getElem?_eq_some_iff.1 (show (v5.alloc (.cells #[.int .i64 ta, .int .i64 tb, .int .i64 tc, .int .i64 (e : Int)] 29)).heap[EOY]? = some (.cells #[.int .i64 ta, .int .i64 tb, .int .i64 tc, .int .i64 (e : Int)] 29) from (heap_new (by first | omega | (simp; omega))))).1).trans (heap_new (by first | omega | (simp; omega)))
      have hw_v8 : Below D w v8 := ((hw_v5.alloc (by have := hw_v5.size; first | omega | (simp; omega)) (.cells #[.int .i64 ta, .int .i64 tb, .int .i64 tc, .int .i64 (e : Int)] 29))).trans (hb_v8.mono (by first | omega | (simp; omega)))
      clear cX_v5 cY_v5 cOX_v5 hb_v8 y6_0 y6_1 y6_2 y6_3 y6_4 y6_5 y7_0 y7_1 y7_2 y7_3 y7_4 y7_5 hw_v5 hs_v8
      obtain ⟨ES, hES⟩ : ∃ E, v8.heap.size = E := ⟨_, rfl⟩
      have ld9 : (v8.alloc (.cells #[.int .i64 s0, .int .i64 s1, .int .i64 s2, .int .i64 s3, .int .i64 s4, .int .i64 s5] 25)).heap[D]? = some (.cells #[.int .i64 x0, .int .i64 x1, .int .i64 x2, .int .i64 x3, .int .i64 x4, .int .i64 x5] 25) := (heap_old (o := .cells #[.int .i64 s0, .int .i64 s1, .int .i64 s2, .int .i64 s3, .int .i64 s4, .int .i64 s5] 25) cX_v8)
      have y9_0 := cell6_0 ld9
      have y9_1 := cell6_1 ld9
      have y9_2 := cell6_2 ld9
      have y9_3 := cell6_3 ld9
      have y9_4 := cell6_4 ld9
      have y9_5 := cell6_5 ld9
      clear ld9
      have ld10 : (v8.alloc (.cells #[.int .i64 s0, .int .i64 s1, .int .i64 s2, .int .i64 s3, .int .i64 s4, .int .i64 s5] 25)).heap[D + 1]? = some (.cells #[.int .i64 y0, .int .i64 y1, .int .i64 y2, .int .i64 y3, .int .i64 y4, .int .i64 y5] 25) := (heap_old (o := .cells #[.int .i64 s0, .int .i64 s1, .int .i64 s2, .int .i64 s3, .int .i64 s4, .int .i64 s5] 25) cY_v8)
      have y10_0 := cell6_0 ld10
      have y10_1 := cell6_1 ld10
      have y10_2 := cell6_2 ld10
      have y10_3 := cell6_3 ld10
      have y10_4 := cell6_4 ld10
      have y10_5 := cell6_5 ld10
      clear ld10
      go_wp2_with fail
      refine (SU.out _).mono ?_
      rintro e v11 ⟨rfl, hb_v11⟩
      have hs_v11 := hw_v8.size
      have cX_v11 : v11.heap[D]? = some (.cells #[.int .i64 x0, .int .i64 x1, .int .i64 x2, .int .i64 x3, .int .i64 x4, .int .i64 x5] 25) := (hb_v11.block (D) (Array.getElem?_eq_some_iff.1 (show (v8.alloc (.cells #[.int .i64 s0, .int .i64 s1, .int .i64 s2, .int .i64 s3, .int .i64 s4, .int .i64 s5] 25)).heap[D]? = some (.cells #[.int .i64 x0, .int .i64 x1, .int .i64 x2, .int .i64 x3, .int .i64 x4, .int .i64 x5] 25) from (heap_old (o := .cells #[.int .i64 s0, .int .i64 s1, .int .i64 s2, .int .i64 s3, .int .i64 s4, .int .i64 s5] 25) cX_v8))).1).trans (heap_old (o := .cells #[.int .i64 s0, .int .i64 s1, .int .i64 s2, .int .i64 s3, .int .i64 s4, .int .i64 s5] 25) cX_v8)
      have cY_v11 : v11.heap[D + 1]? = some (.cells #[.int .i64 y0, .int .i64 y1, .int .i64 y2, .int .i64 y3, .int .i64 y4, .int .i64 y5] 25) := (hb_v11.block (D + 1) (Array.getElem?_eq_some_iff.1 (show (v8.alloc (.cells #[.int .i64 s0, .int .i64 s1, .int .i64 s2, .int .i64 s3, .int .i64 s4, .int .i64 s5] 25)).heap[D + 1]? = some (.cells #[.int .i64 y0, .int .i64 y1, .int .i64 y2, .int .i64 y3, .int .i64 y4, .int .i64 y5] 25) from (heap_old (o := .cells #[.int .i64 s0, .int .i64 s1, .int .i64 s2, .int .i64 s3, .int .i64 s4, .int .i64 s5] 25) cY_v8))).1).trans (heap_old (o := .cells #[.int .i64 s0, .int .i64 s1, .int .i64 s2, .int .i64 s3, .int .i64 s4, .int .i64 s5] 25) cY_v8)
      have cOX_v11 : v11.heap[EOX]? = some (.cells #[.int .i64 ra, .int .i64 rb, .int .i64 rc, .int .i64 (d : Int)] 29) := (hb_v11.block (EOX) (Array.getElem?_eq_some_iff.1 (show (v8.alloc (.cells #[.int .i64 s0, .int .i64 s1, .int .i64 s2, .int .i64 s3, .int .i64 s4, .int .i64 s5] 25)).heap[EOX]? = some (.cells #[.int .i64 ra, .int .i64 rb, .int .i64 rc, .int .i64 (d : Int)] 29) from (heap_old (o := .cells #[.int .i64 s0, .int .i64 s1, .int .i64 s2, .int .i64 s3, .int .i64 s4, .int .i64 s5] 25) cOX_v8))).1).trans (heap_old (o := .cells #[.int .i64 s0, .int .i64 s1, .int .i64 s2, .int .i64 s3, .int .i64 s4, .int .i64 s5] 25) cOX_v8)
      have cOY_v11 : v11.heap[EOY]? = some (.cells #[.int .i64 ta, .int .i64 tb, .int .i64 tc, .int .i64 (e : Int)] 29) := (hb_v11.block (EOY) (Array.getElem?_eq_some_iff.1 (show (v8.alloc (.cells #[.int .i64 s0, .int .i64 s1, .int .i64 s2, .int .i64 s3, .int .i64 s4, .int .i64 s5] 25)).heap[EOY]? = some (.cells #[.int .i64 ta, .int .i64 tb, .int .i64 tc, .int .i64 (e : Int)] 29) from (heap_old (o := .cells #[.int .i64 s0, .int .i64 s1, .int .i64 s2, .int .i64 s3, .int .i64 s4, .int .i64 s5] 25) cOY_v8))).1).trans (heap_old (o := .cells #[.int .i64 s0, .int .i64 s1, .int .i64 s2, .int .i64 s3, .int .i64 s4, .int .i64 s5] 25) cOY_v8)
      have cS_v11 : v11.heap[ES]? = some (.cells #[.int .i64 s0, .int .i64 s1, .int .i64 s2, .int .i64 s3, .int .i64 s4, .int .i64 s5] 25) := (hb_v11.block (ES) (Array.getElem?_eq_some_iff.1 (show (v8.alloc (.cells #[.int .i64 s0, .int .i64 s1, .int .i64 s2, .int .i64 s3, .int .i64 s4, .int .i64 s5] 25)).heap[ES]? = some (.cells #[.int .i64 s0, .int .i64 s1, .int .i64 s2, .int .i64 s3, .int .i64 s4, .int .i64 s5] 25) from (heap_new (by first | omega | (simp; omega))))).1).trans (heap_new (by first | omega | (simp; omega)))
      have hw_v11 : Below D w v11 := ((hw_v8.alloc (by have := hw_v8.size; first | omega | (simp; omega)) (.cells #[.int .i64 s0, .int .i64 s1, .int .i64 s2, .int .i64 s3, .int .i64 s4, .int .i64 s5] 25))).trans (hb_v11.mono (by first | omega | (simp; omega)))
      clear cX_v8 cY_v8 cOX_v8 cOY_v8 hb_v11 y9_0 y9_1 y9_2 y9_3 y9_4 y9_5 y10_0 y10_1 y10_2 y10_3 y10_4 y10_5 hw_v8 hs_v11
      obtain ⟨ET, hET⟩ : ∃ E, v11.heap.size = E := ⟨_, rfl⟩
      have ld12 : (v11.alloc (.cells #[.int .i64 u0, .int .i64 u1, .int .i64 u2, .int .i64 u3, .int .i64 u4, .int .i64 u5] 25)).heap[EOX]? = some (.cells #[.int .i64 ra, .int .i64 rb, .int .i64 rc, .int .i64 (d : Int)] 29) := (heap_old (o := .cells #[.int .i64 u0, .int .i64 u1, .int .i64 u2, .int .i64 u3, .int .i64 u4, .int .i64 u5] 25) cOX_v11)
      have y12_0 := cell4_0 ld12
      have y12_1 := cell4_1 ld12
      have y12_2 := cell4_2 ld12
      have y12_3 := cell4_3 ld12
      clear ld12
      have ld13 : (v11.alloc (.cells #[.int .i64 u0, .int .i64 u1, .int .i64 u2, .int .i64 u3, .int .i64 u4, .int .i64 u5] 25)).heap[EOY]? = some (.cells #[.int .i64 ta, .int .i64 tb, .int .i64 tc, .int .i64 (e : Int)] 29) := (heap_old (o := .cells #[.int .i64 u0, .int .i64 u1, .int .i64 u2, .int .i64 u3, .int .i64 u4, .int .i64 u5] 25) cOY_v11)
      have y13_0 := cell4_0 ld13
      have y13_1 := cell4_1 ld13
      have y13_2 := cell4_2 ld13
      have y13_3 := cell4_3 ld13
      clear ld13
      go_wp2_with fail
      refine (RA1.out _).mono ?_
      rintro e v14 ⟨rfl, hb_v14⟩
      have hs_v14 := hw_v11.size
      have cX_v14 : v14.heap[D]? = some (.cells #[.int .i64 x0, .int .i64 x1, .int .i64 x2, .int .i64 x3, .int .i64 x4, .int .i64 x5] 25) := (hb_v14.block (D) (Array.getElem?_eq_some_iff.1 (show (v11.alloc (.cells #[.int .i64 u0, .int .i64 u1, .int .i64 u2, .int .i64 u3, .int .i64 u4, .int .i64 u5] 25)).heap[D]? = some (.cells #[.int .i64 x0, .int .i64 x1, .int .i64 x2, .int .i64 x3, .int .i64 x4, .int .i64 x5] 25) from (heap_old (o := .cells #[.int .i64 u0, .int .i64 u1, .int .i64 u2, .int .i64 u3, .int .i64 u4, .int .i64 u5] 25) cX_v11))).1).trans (heap_old (o := .cells #[.int .i64 u0, .int .i64 u1, .int .i64 u2, .int .i64 u3, .int .i64 u4, .int .i64 u5] 25) cX_v11)
      have cY_v14 : v14.heap[D + 1]? = some (.cells #[.int .i64 y0, .int .i64 y1, .int .i64 y2, .int .i64 y3, .int .i64 y4, .int .i64 y5] 25) := (hb_v14.block (D + 1) (Array.getElem?_eq_some_iff.1 (show (v11.alloc (.cells #[.int .i64 u0, .int .i64 u1, .int .i64 u2, .int .i64 u3, .int .i64 u4, .int .i64 u5] 25)).heap[D + 1]? = some (.cells #[.int .i64 y0, .int .i64 y1, .int .i64 y2, .int .i64 y3, .int .i64 y4, .int .i64 y5] 25) from (heap_old (o := .cells #[.int .i64 u0, .int .i64 u1, .int .i64 u2, .int .i64 u3, .int .i64 u4, .int .i64 u5] 25) cY_v11))).1).trans (heap_old (o := .cells #[.int .i64 u0, .int .i64 u1, .int .i64 u2, .int .i64 u3, .int .i64 u4, .int .i64 u5] 25) cY_v11)
      have cOX_v14 : v14.heap[EOX]? = some (.cells #[.int .i64 ra, .int .i64 rb, .int .i64 rc, .int .i64 (d : Int)] 29) := (hb_v14.block (EOX) (Array.getElem?_eq_some_iff.1 (show (v11.alloc (.cells #[.int .i64 u0, .int .i64 u1, .int .i64 u2, .int .i64 u3, .int .i64 u4, .int .i64 u5] 25)).heap[EOX]? = some (.cells #[.int .i64 ra, .int .i64 rb, .int .i64 rc, .int .i64 (d : Int)] 29) from (heap_old (o := .cells #[.int .i64 u0, .int .i64 u1, .int .i64 u2, .int .i64 u3, .int .i64 u4, .int .i64 u5] 25) cOX_v11))).1).trans (heap_old (o := .cells #[.int .i64 u0, .int .i64 u1, .int .i64 u2, .int .i64 u3, .int .i64 u4, .int .i64 u5] 25) cOX_v11)
      have cOY_v14 : v14.heap[EOY]? = some (.cells #[.int .i64 ta, .int .i64 tb, .int .i64 tc, .int .i64 (e : Int)] 29) := (hb_v14.block (EOY) (Array.getElem?_eq_some_iff.1 (show (v11.alloc (.cells #[.int .i64 u0, .int .i64 u1, .int .i64 u2, .int .i64 u3, .int .i64 u4, .int .i64 u5] 25)).heap[EOY]? = some (.cells #[.int .i64 ta, .int .i64 tb, .int .i64 tc, .int .i64 (e : Int)] 29) from (heap_old (o := .cells #[.int .i64 u0, .int .i64 u1, .int .i64 u2, .int .i64 u3, .int .i64 u4, .int .i64 u5] 25) cOY_v11))).1).trans (heap_old (o := .cells #[.int .i64 u0, .int .i64 u1, .int .i64 u2, .int .i64 u3, .int .i64 u4, .int .i64 u5] 25) cOY_v11)
      have cS_v14 : v14.heap[ES]? = some (.cells #[.int .i64 s0, .int .i64 s1, .int .i64 s2, .int .i64 s3, .int .i64 s4, .int .i64 s5] 25) := (hb_v14.block (ES) (Array.getElem?_eq_some_iff.1 (show (v11.alloc (.cells #[.int .i64 u0, .int .i64 u1, .int .i64 u2, .int .i64 u3, .int .i64 u4, .int .i64 u5] 25)).heap[ES]? = some (.cells #[.int .i64 s0, .int .i64 s1, .int .i64 s2, .int .i64 s3, .int .i64 s4, .int .i64 s5] 25) from (heap_old (o := .cells #[.int .i64 u0, .int .i64 u1, .int .i64 u2, .int .i64 u3, .int .i64 u4, .int .i64 u5] 25) cS_v11))).1).trans (heap_old (o := .cells #[.int .i64 u0, .int .i64 u1, .int .i64 u2, .int .i64 u3, .int .i64 u4, .int .i64 u5] 25) cS_v11)
      have cT_v14 : v14.heap[ET]? = some (.cells #[.int .i64 u0, .int .i64 u1, .int .i64 u2, .int .i64 u3, .int .i64 u4, .int .i64 u5] 25) := (hb_v14.block (ET) (Array.getElem?_eq_some_iff.1 (show (v11.alloc (.cells #[.int .i64 u0, .int .i64 u1, .int .i64 u2, .int .i64 u3, .int .i64 u4, .int .i64 u5] 25)).heap[ET]? = some (.cells #[.int .i64 u0, .int .i64 u1, .int .i64 u2, .int .i64 u3, .int .i64 u4, .int .i64 u5] 25) from (heap_new (by first | omega | (simp; omega))))).1).trans (heap_new (by first | omega | (simp; omega)))
      have hw_v14 : Below D w v14 := ((hw_v11.alloc (by have := hw_v11.size; first | omega | (simp; omega)) (.cells #[.int .i64 u0, .int .i64 u1, .int .i64 u2, .int .i64 u3, .int .i64 u4, .int .i64 u5] 25))).trans (hb_v14.mono (by first | omega | (simp; omega)))
      clear cX_v11 cY_v11 cOX_v11 cOY_v11 cS_v11 hb_v14 y12_0 y12_1 y12_2 y12_3 y13_0 y13_1 y13_2 y13_3 hw_v11 hs_v14
      go_wp2_with fail
      refine (RR1.out _).mono ?_
      rintro e v15 ⟨rfl, hb_v15⟩
      have hs_v15 := hw_v14.size
      have cX_v15 : v15.heap[D]? = some (.cells #[.int .i64 x0, .int .i64 x1, .int .i64 x2, .int .i64 x3, .int .i64 x4, .int .i64 x5] 25) := (hb_v15.block (D) (Array.getElem?_eq_some_iff.1 (show v14.heap[D]? = some (.cells #[.int .i64 x0, .int .i64 x1, .int .i64 x2, .int .i64 x3, .int .i64 x4, .int .i64 x5] 25) from cX_v14)).1).trans cX_v14
      have cY_v15 : v15.heap[D + 1]? = some (.cells #[.int .i64 y0, .int .i64 y1, .int .i64 y2, .int .i64 y3, .int .i64 y4, .int .i64 y5] 25) := (hb_v15.block (D + 1) (Array.getElem?_eq_some_iff.1 (show v14.heap[D + 1]? = some (.cells #[.int .i64 y0, .int .i64 y1, .int .i64 y2, .int .i64 y3, .int .i64 y4, .int .i64 y5] 25) from cY_v14)).1).trans cY_v14
      have cOX_v15 : v15.heap[EOX]? = some (.cells #[.int .i64 ra, .int .i64 rb, .int .i64 rc, .int .i64 (d : Int)] 29) := (hb_v15.block (EOX) (Array.getElem?_eq_some_iff.1 (show v14.heap[EOX]? = some (.cells #[.int .i64 ra, .int .i64 rb, .int .i64 rc, .int .i64 (d : Int)] 29) from cOX_v14)).1).trans cOX_v14
      have cOY_v15 : v15.heap[EOY]? = some (.cells #[.int .i64 ta, .int .i64 tb, .int .i64 tc, .int .i64 (e : Int)] 29) := (hb_v15.block (EOY) (Array.getElem?_eq_some_iff.1 (show v14.heap[EOY]? = some (.cells #[.int .i64 ta, .int .i64 tb, .int .i64 tc, .int .i64 (e : Int)] 29) from cOY_v14)).1).trans cOY_v14
      have cS_v15 : v15.heap[ES]? = some (.cells #[.int .i64 s0, .int .i64 s1, .int .i64 s2, .int .i64 s3, .int .i64 s4, .int .i64 s5] 25) := (hb_v15.block (ES) (Array.getElem?_eq_some_iff.1 (show v14.heap[ES]? = some (.cells #[.int .i64 s0, .int .i64 s1, .int .i64 s2, .int .i64 s3, .int .i64 s4, .int .i64 s5] 25) from cS_v14)).1).trans cS_v14
      have cT_v15 : v15.heap[ET]? = some (.cells #[.int .i64 u0, .int .i64 u1, .int .i64 u2, .int .i64 u3, .int .i64 u4, .int .i64 u5] 25) := (hb_v15.block (ET) (Array.getElem?_eq_some_iff.1 (show v14.heap[ET]? = some (.cells #[.int .i64 u0, .int .i64 u1, .int .i64 u2, .int .i64 u3, .int .i64 u4, .int .i64 u5] 25) from cT_v14)).1).trans cT_v14
      have hw_v15 : Below D w v15 := (hw_v14).trans (hb_v15.mono (by first | omega | (simp; omega)))
      clear cX_v14 cY_v14 cOX_v14 cOY_v14 cS_v14 cT_v14 hb_v15 hw_v14 hs_v15
      obtain ⟨EU, hEU⟩ : ∃ E, v15.heap.size = E := ⟨_, rfl⟩
      have ld16 : (v15.alloc (.cells #[.int .i64 s0, .int .i64 s1, .int .i64 s2, .int .i64 s3, .int .i64 s4, .int .i64 s5] 25)).heap[EOX]? = some (.cells #[.int .i64 ra, .int .i64 rb, .int .i64 rc, .int .i64 (d : Int)] 29) := (heap_old (o := .cells #[.int .i64 s0, .int .i64 s1, .int .i64 s2, .int .i64 s3, .int .i64 s4, .int .i64 s5] 25) cOX_v15)
      have y16_0 := cell4_0 ld16
      have y16_1 := cell4_1 ld16
      have y16_2 := cell4_2 ld16
      have y16_3 := cell4_3 ld16
      clear ld16
      have ld17 : (v15.alloc (.cells #[.int .i64 s0, .int .i64 s1, .int .i64 s2, .int .i64 s3, .int .i64 s4, .int .i64 s5] 25)).heap[EOY]? = some (.cells #[.int .i64 ta, .int .i64 tb, .int .i64 tc, .int .i64 (e : Int)] 29) := (heap_old (o := .cells #[.int .i64 s0, .int .i64 s1, .int .i64 s2, .int .i64 s3, .int .i64 s4, .int .i64 s5] 25) cOY_v15)
      have y17_0 := cell4_0 ld17
      have y17_1 := cell4_1 ld17
      have y17_2 := cell4_2 ld17
      have y17_3 := cell4_3 ld17
      clear ld17
      go_wp2_with fail
      refine (RA2.out _).mono ?_
      rintro e v18 ⟨rfl, hb_v18⟩
      have hs_v18 := hw_v15.size
      have cX_v18 : v18.heap[D]? = some (.cells #[.int .i64 x0, .int .i64 x1, .int .i64 x2, .int .i64 x3, .int .i64 x4, .int .i64 x5] 25) := (hb_v18.block (D) (Array.getElem?_eq_some_iff.1 (show (v15.alloc (.cells #[.int .i64 s0, .int .i64 s1, .int .i64 s2, .int .i64 s3, .int .i64 s4, .int .i64 s5] 25)).heap[D]? = some (.cells #[.int .i64 x0, .int .i64 x1, .int .i64 x2, .int .i64 x3, .int .i64 x4, .int .i64 x5] 25) from (heap_old (o := .cells #[.int .i64 s0, .int .i64 s1, .int .i64 s2, .int .i64 s3, .int .i64 s4, .int .i64 s5] 25) cX_v15))).1).trans (heap_old (o := .cells #[.int .i64 s0, .int .i64 s1, .int .i64 s2, .int .i64 s3, .int .i64 s4, .int .i64 s5] 25) cX_v15)
      have cY_v18 : v18.heap[D + 1]? = some (.cells #[.int .i64 y0, .int .i64 y1, .int .i64 y2, .int .i64 y3, .int .i64 y4, .int .i64 y5] 25) := (hb_v18.block (D + 1) (Array.getElem?_eq_some_iff.1 (show (v15.alloc (.cells #[.int .i64 s0, .int .i64 s1, .int .i64 s2, .int .i64 s3, .int .i64 s4, .int .i64 s5] 25)).heap[D + 1]? = some (.cells #[.int .i64 y0, .int .i64 y1, .int .i64 y2, .int .i64 y3, .int .i64 y4, .int .i64 y5] 25) from (heap_old (o := .cells #[.int .i64 s0, .int .i64 s1, .int .i64 s2, .int .i64 s3, .int .i64 s4, .int .i64 s5] 25) cY_v15))).1).trans (heap_old (o := .cells #[.int .i64 s0, .int .i64 s1, .int .i64 s2, .int .i64 s3, .int .i64 s4, .int .i64 s5] 25) cY_v15)
      have cOX_v18 : v18.heap[EOX]? = some (.cells #[.int .i64 ra, .int .i64 rb, .int .i64 rc, .int .i64 (d : Int)] 29) := (hb_v18.block (EOX) (Array.getElem?_eq_some_iff.1 (show (v15.alloc (.cells #[.int .i64 s0, .int .i64 s1, .int .i64 s2, .int .i64 s3, .int .i64 s4, .int .i64 s5] 25)).heap[EOX]? = some (.cells #[.int .i64 ra, .int .i64 rb, .int .i64 rc, .int .i64 (d : Int)] 29) from (heap_old (o := .cells #[.int .i64 s0, .int .i64 s1, .int .i64 s2, .int .i64 s3, .int .i64 s4, .int .i64 s5] 25) cOX_v15))).1).trans (heap_old (o := .cells #[.int .i64 s0, .int .i64 s1, .int .i64 s2, .int .i64 s3, .int .i64 s4, .int .i64 s5] 25) cOX_v15)
      have cOY_v18 : v18.heap[EOY]? = some (.cells #[.int .i64 ta, .int .i64 tb, .int .i64 tc, .int .i64 (e : Int)] 29) := (hb_v18.block (EOY) (Array.getElem?_eq_some_iff.1 (show (v15.alloc (.cells #[.int .i64 s0, .int .i64 s1, .int .i64 s2, .int .i64 s3, .int .i64 s4, .int .i64 s5] 25)).heap[EOY]? = some (.cells #[.int .i64 ta, .int .i64 tb, .int .i64 tc, .int .i64 (e : Int)] 29) from (heap_old (o := .cells #[.int .i64 s0, .int .i64 s1, .int .i64 s2, .int .i64 s3, .int .i64 s4, .int .i64 s5] 25) cOY_v15))).1).trans (heap_old (o := .cells #[.int .i64 s0, .int .i64 s1, .int .i64 s2, .int .i64 s3, .int .i64 s4, .int .i64 s5] 25) cOY_v15)
      have cS_v18 : v18.heap[ES]? = some (.cells #[.int .i64 s0, .int .i64 s1, .int .i64 s2, .int .i64 s3, .int .i64 s4, .int .i64 s5] 25) := (hb_v18.block (ES) (Array.getElem?_eq_some_iff.1 (show (v15.alloc (.cells #[.int .i64 s0, .int .i64 s1, .int .i64 s2, .int .i64 s3, .int .i64 s4, .int .i64 s5] 25)).heap[ES]? = some (.cells #[.int .i64 s0, .int .i64 s1, .int .i64 s2, .int .i64 s3, .int .i64 s4, .int .i64 s5] 25) from (heap_old (o := .cells #[.int .i64 s0, .int .i64 s1, .int .i64 s2, .int .i64 s3, .int .i64 s4, .int .i64 s5] 25) cS_v15))).1).trans (heap_old (o := .cells #[.int .i64 s0, .int .i64 s1, .int .i64 s2, .int .i64 s3, .int .i64 s4, .int .i64 s5] 25) cS_v15)
      have cT_v18 : v18.heap[ET]? = some (.cells #[.int .i64 u0, .int .i64 u1, .int .i64 u2, .int .i64 u3, .int .i64 u4, .int .i64 u5] 25) := (hb_v18.block (ET) (Array.getElem?_eq_some_iff.1 (show (v15.alloc (.cells #[.int .i64 s0, .int .i64 s1, .int .i64 s2, .int .i64 s3, .int .i64 s4, .int .i64 s5] 25)).heap[ET]? = some (.cells #[.int .i64 u0, .int .i64 u1, .int .i64 u2, .int .i64 u3, .int .i64 u4, .int .i64 u5] 25) from (heap_old (o := .cells #[.int .i64 s0, .int .i64 s1, .int .i64 s2, .int .i64 s3, .int .i64 s4, .int .i64 s5] 25) cT_v15))).1).trans (heap_old (o := .cells #[.int .i64 s0, .int .i64 s1, .int .i64 s2, .int .i64 s3, .int .i64 s4, .int .i64 s5] 25) cT_v15)
      have cU_v18 : v18.heap[EU]? = some (.cells #[.int .i64 s0, .int .i64 s1, .int .i64 s2, .int .i64 s3, .int .i64 s4, .int .i64 s5] 25) := (hb_v18.block (EU) (Array.getElem?_eq_some_iff.1 (show (v15.alloc (.cells #[.int .i64 s0, .int .i64 s1, .int .i64 s2, .int .i64 s3, .int .i64 s4, .int .i64 s5] 25)).heap[EU]? = some (.cells #[.int .i64 s0, .int .i64 s1, .int .i64 s2, .int .i64 s3, .int .i64 s4, .int .i64 s5] 25) from (heap_new (by first | omega | (simp; omega))))).1).trans (heap_new (by first | omega | (simp; omega)))
      have hw_v18 : Below D w v18 := ((hw_v15.alloc (by have := hw_v15.size; first | omega | (simp; omega)) (.cells #[.int .i64 s0, .int .i64 s1, .int .i64 s2, .int .i64 s3, .int .i64 s4, .int .i64 s5] 25))).trans (hb_v18.mono (by first | omega | (simp; omega)))
      clear cX_v15 cY_v15 cOX_v15 cOY_v15 cS_v15 cT_v15 hb_v18 y16_0 y16_1 y16_2 y16_3 y17_0 y17_1 y17_2 y17_3 hw_v15 hs_v18
      go_wp2_with fail
      refine (RR2.out _).mono ?_
      rintro e v19 ⟨rfl, hb_v19⟩
      have hs_v19 := hw_v18.size
      have cX_v19 : v19.heap[D]? = some (.cells #[.int .i64 x0, .int .i64 x1, .int .i64 x2, .int .i64 x3, .int .i64 x4, .int .i64 x5] 25) := (hb_v19.block (D) (Array.getElem?_eq_some_iff.1 (show v18.heap[D]? = some (.cells #[.int .i64 x0, .int .i64 x1, .int .i64 x2, .int .i64 x3, .int .i64 x4, .int .i64 x5] 25) from cX_v18)).1).trans cX_v18
      have cY_v19 : v19.heap[D + 1]? = some (.cells #[.int .i64 y0, .int .i64 y1, .int .i64 y2, .int .i64 y3, .int .i64 y4, .int .i64 y5] 25) := (hb_v19.block (D + 1) (Array.getElem?_eq_some_iff.1 (show v18.heap[D + 1]? = some (.cells #[.int .i64 y0, .int .i64 y1, .int .i64 y2, .int .i64 y3, .int .i64 y4, .int .i64 y5] 25) from cY_v18)).1).trans cY_v18
      have cOX_v19 : v19.heap[EOX]? = some (.cells #[.int .i64 ra, .int .i64 rb, .int .i64 rc, .int .i64 (d : Int)] 29) := (hb_v19.block (EOX) (Array.getElem?_eq_some_iff.1 (show v18.heap[EOX]? = some (.cells #[.int .i64 ra, .int .i64 rb, .int .i64 rc, .int .i64 (d : Int)] 29) from cOX_v18)).1).trans cOX_v18
      have cOY_v19 : v19.heap[EOY]? = some (.cells #[.int .i64 ta, .int .i64 tb, .int .i64 tc, .int .i64 (e : Int)] 29) := (hb_v19.block (EOY) (Array.getElem?_eq_some_iff.1 (show v18.heap[EOY]? = some (.cells #[.int .i64 ta, .int .i64 tb, .int .i64 tc, .int .i64 (e : Int)] 29) from cOY_v18)).1).trans cOY_v18
      have cS_v19 : v19.heap[ES]? = some (.cells #[.int .i64 s0, .int .i64 s1, .int .i64 s2, .int .i64 s3, .int .i64 s4, .int .i64 s5] 25) := (hb_v19.block (ES) (Array.getElem?_eq_some_iff.1 (show v18.heap[ES]? = some (.cells #[.int .i64 s0, .int .i64 s1, .int .i64 s2, .int .i64 s3, .int .i64 s4, .int .i64 s5] 25) from cS_v18)).1).trans cS_v18
      have cT_v19 : v19.heap[ET]? = some (.cells #[.int .i64 u0, .int .i64 u1, .int .i64 u2, .int .i64 u3, .int .i64 u4, .int .i64 u5] 25) := (hb_v19.block (ET) (Array.getElem?_eq_some_iff.1 (show v18.heap[ET]? = some (.cells #[.int .i64 u0, .int .i64 u1, .int .i64 u2, .int .i64 u3, .int .i64 u4, .int .i64 u5] 25) from cT_v18)).1).trans cT_v18
      have cU_v19 : v19.heap[EU]? = some (.cells #[.int .i64 s0, .int .i64 s1, .int .i64 s2, .int .i64 s3, .int .i64 s4, .int .i64 s5] 25) := (hb_v19.block (EU) (Array.getElem?_eq_some_iff.1 (show v18.heap[EU]? = some (.cells #[.int .i64 s0, .int .i64 s1, .int .i64 s2, .int .i64 s3, .int .i64 s4, .int .i64 s5] 25) from cU_v18)).1).trans cU_v18
      have hw_v19 : Below D w v19 := (hw_v18).trans (hb_v19.mono (by first | omega | (simp; omega)))
      clear cX_v18 cY_v18 cOX_v18 cOY_v18 cS_v18 cT_v18 cU_v18 hb_v19 hw_v18 hs_v19
      obtain ⟨EV, hEV⟩ : ∃ E, v19.heap.size = E := ⟨_, rfl⟩
      clear AD SU RA1 RR1 RA2 RR2
      have HW := Lib.hid ((hw_v19.alloc (by have := hw_v19.size; first | omega | (simp; omega)) (.cells #[.int .i64 u0, .int .i64 u1, .int .i64 u2, .int .i64 u3, .int .i64 u4, .int .i64 u5] 25)))
      have ld20 : (v19.alloc (.cells #[.int .i64 u0, .int .i64 u1, .int .i64 u2, .int .i64 u3, .int .i64 u4, .int .i64 u5] 25)).heap[ES]? = some (.cells #[.int .i64 s0, .int .i64 s1, .int .i64 s2, .int .i64 s3, .int .i64 s4, .int .i64 s5] 25) := (heap_old (o := .cells #[.int .i64 u0, .int .i64 u1, .int .i64 u2, .int .i64 u3, .int .i64 u4, .int .i64 u5] 25) cS_v19)
      have y20_0 := cell6_0 ld20
      have y20_1 := cell6_1 ld20
      have y20_2 := cell6_2 ld20
      have y20_3 := cell6_3 ld20
      have y20_4 := cell6_4 ld20
      have y20_5 := cell6_5 ld20
      clear ld20
      have ld21 : (v19.alloc (.cells #[.int .i64 u0, .int .i64 u1, .int .i64 u2, .int .i64 u3, .int .i64 u4, .int .i64 u5] 25)).heap[ET]? = some (.cells #[.int .i64 u0, .int .i64 u1, .int .i64 u2, .int .i64 u3, .int .i64 u4, .int .i64 u5] 25) := (heap_old (o := .cells #[.int .i64 u0, .int .i64 u1, .int .i64 u2, .int .i64 u3, .int .i64 u4, .int .i64 u5] 25) cT_v19)
      have y21_0 := cell6_0 ld21
      have y21_1 := cell6_1 ld21
      have y21_2 := cell6_2 ld21
      have y21_3 := cell6_3 ld21
      have y21_4 := cell6_4 ld21
      have y21_5 := cell6_5 ld21
      clear ld21
      have ld22 : (v19.alloc (.cells #[.int .i64 u0, .int .i64 u1, .int .i64 u2, .int .i64 u3, .int .i64 u4, .int .i64 u5] 25)).heap[EU]? = some (.cells #[.int .i64 s0, .int .i64 s1, .int .i64 s2, .int .i64 s3, .int .i64 s4, .int .i64 s5] 25) := (heap_old (o := .cells #[.int .i64 u0, .int .i64 u1, .int .i64 u2, .int .i64 u3, .int .i64 u4, .int .i64 u5] 25) cU_v19)
      have y22_0 := cell6_0 ld22
      have y22_1 := cell6_1 ld22
      have y22_2 := cell6_2 ld22
      have y22_3 := cell6_3 ld22
      have y22_4 := cell6_4 ld22
      have y22_5 := cell6_5 ld22
      clear ld22
      have ld23 : (v19.alloc (.cells #[.int .i64 u0, .int .i64 u1, .int .i64 u2, .int .i64 u3, .int .i64 u4, .int .i64 u5] 25)).heap[EV]? = some (.cells #[.int .i64 u0, .int .i64 u1, .int .i64 u2, .int .i64 u3, .int .i64 u4, .int .i64 u5] 25) := (heap_new (by first | omega | (simp; omega)))
      have y23_0 := cell6_0 ld23
      have y23_1 := cell6_1 ld23
      have y23_2 := cell6_2 ld23
      have y23_3 := cell6_3 ld23
      have y23_4 := cell6_4 ld23
      have y23_5 := cell6_5 ld23
      clear ld23
      clear KN RX RY
      go_wp2
      go_ret
      exact ⟨rfl, by first | exact HW.out | (rw [hD]; exact HW.out)⟩
    · have AD := Lib.hid (fun W => ivadd_e2 x0 x1 x2 x3 x4 x5 y0 y1 y2 y3 y4 y5 W hx hy)
      have SU := Lib.hid (fun W => ivsub_e2 x0 x1 x2 x3 x4 x5 y0 y1 y2 y3 y4 y5 W hx hy)
      rw [hx] at RX
      generalize rdA x0 x1 x2 x3 x4 x5 = ra at *
      generalize rdB x0 x1 x2 x3 x4 x5 = rb at *
      generalize rdC x0 x1 x2 x3 x4 x5 = rc at *
      generalize rdD x0 x1 x2 x3 x4 x5 = rd at *
      generalize rdA y0 y1 y2 y3 y4 y5 = ta at *
      generalize rdB y0 y1 y2 y3 y4 y5 = tb at *
      generalize rdC y0 y1 y2 y3 y4 y5 = tc at *
      generalize rdD y0 y1 y2 y3 y4 y5 = td at *
      generalize Iv.rdE y0 y1 y2 y3 y4 y5 = te at *
      have hne : (te == 0) = false := by rw [beq_eq_false_iff_ne]; exact hy
      have hez := eq_size 0 0 0 0 0 0
      go_enter Tryz.func5, Tryz.ntmps5
      have G1 : Gi ((w.alloc (.cells #[.int .i64 x0, .int .i64 x1, .int .i64 x2, .int .i64 x3, .int .i64 x4, .int .i64 x5] 25)).alloc (.cells #[.int .i64 y0, .int .i64 y1, .int .i64 y2, .int .i64 y3, .int .i64 y4, .int .i64 y5] 25)) := G.below (by rw [hD]; exact (((Below.refl _ w).alloc (by first | omega | (simp; omega)) (.cells #[.int .i64 x0, .int .i64 x1, .int .i64 x2, .int .i64 x3, .int .i64 x4, .int .i64 x5] 25)).alloc (by first | omega | (simp; omega)) (.cells #[.int .i64 y0, .int .i64 y1, .int .i64 y2, .int .i64 y3, .int .i64 y4, .int .i64 y5] 25)))
      have N1 : Nm ((w.alloc (.cells #[.int .i64 x0, .int .i64 x1, .int .i64 x2, .int .i64 x3, .int .i64 x4, .int .i64 x5] 25)).alloc (.cells #[.int .i64 y0, .int .i64 y1, .int .i64 y2, .int .i64 y3, .int .i64 y4, .int .i64 y5] 25)) := N.below (by rw [hD]; exact (((Below.refl _ w).alloc (by first | omega | (simp; omega)) (.cells #[.int .i64 x0, .int .i64 x1, .int .i64 x2, .int .i64 x3, .int .i64 x4, .int .i64 x5] 25)).alloc (by first | omega | (simp; omega)) (.cells #[.int .i64 y0, .int .i64 y1, .int .i64 y2, .int .i64 y3, .int .i64 y4, .int .i64 y5] 25)))
      go_wp2_with fail
      refine (KN.out _ G1 N1).mono ?_
      rintro e v1 ⟨rfl, hb_v1⟩
      have cX_v1 : v1.heap[D]? = some (.cells #[.int .i64 x0, .int .i64 x1, .int .i64 x2, .int .i64 x3, .int .i64 x4, .int .i64 x5] 25) := (hb_v1.block (D) (Array.getElem?_eq_some_iff.1 (show ((w.alloc (.cells #[.int .i64 x0, .int .i64 x1, .int .i64 x2, .int .i64 x3, .int .i64 x4, .int .i64 x5] 25)).alloc (.cells #[.int .i64 y0, .int .i64 y1, .int .i64 y2, .int .i64 y3, .int .i64 y4, .int .i64 y5] 25)).heap[D]? = some (.cells #[.int .i64 x0, .int .i64 x1, .int .i64 x2, .int .i64 x3, .int .i64 x4, .int .i64 x5] 25) from (heap_old (o := .cells #[.int .i64 y0, .int .i64 y1, .int .i64 y2, .int .i64 y3, .int .i64 y4, .int .i64 y5] 25) (heap_new (by first | omega | (simp; omega)))))).1).trans (heap_old (o := .cells #[.int .i64 y0, .int .i64 y1, .int .i64 y2, .int .i64 y3, .int .i64 y4, .int .i64 y5] 25) (heap_new (by first | omega | (simp; omega))))
      have cY_v1 : v1.heap[D + 1]? = some (.cells #[.int .i64 y0, .int .i64 y1, .int .i64 y2, .int .i64 y3, .int .i64 y4, .int .i64 y5] 25) := (hb_v1.block (D + 1) (Array.getElem?_eq_some_iff.1 (show ((w.alloc (.cells #[.int .i64 x0, .int .i64 x1, .int .i64 x2, .int .i64 x3, .int .i64 x4, .int .i64 x5] 25)).alloc (.cells #[.int .i64 y0, .int .i64 y1, .int .i64 y2, .int .i64 y3, .int .i64 y4, .int .i64 y5] 25)).heap[D + 1]? = some (.cells #[.int .i64 y0, .int .i64 y1, .int .i64 y2, .int .i64 y3, .int .i64 y4, .int .i64 y5] 25) from (heap_new (by first | omega | (simp; omega))))).1).trans (heap_new (by first | omega | (simp; omega)))
      have hw_v1 : Below D w v1 := ((((Below.refl _ w).alloc (by first | omega | (simp; omega)) (.cells #[.int .i64 x0, .int .i64 x1, .int .i64 x2, .int .i64 x3, .int .i64 x4, .int .i64 x5] 25)).alloc (by first | omega | (simp; omega)) (.cells #[.int .i64 y0, .int .i64 y1, .int .i64 y2, .int .i64 y3, .int .i64 y4, .int .i64 y5] 25))).trans (hb_v1.mono (by first | omega | (simp; omega)))
      clear hb_v1
      have ld2 : v1.heap[D]? = some (.cells #[.int .i64 x0, .int .i64 x1, .int .i64 x2, .int .i64 x3, .int .i64 x4, .int .i64 x5] 25) := cX_v1
      have y2_0 := cell6_0 ld2
      have y2_1 := cell6_1 ld2
      have y2_2 := cell6_2 ld2
      have y2_3 := cell6_3 ld2
      have y2_4 := cell6_4 ld2
      have y2_5 := cell6_5 ld2
      clear ld2
      go_wp2_with fail
      refine (RX.out _).mono ?_
      rintro e v3 ⟨rfl, hb_v3⟩
      have hs_v3 := hw_v1.size
      have cX_v3 : v3.heap[D]? = some (.cells #[.int .i64 x0, .int .i64 x1, .int .i64 x2, .int .i64 x3, .int .i64 x4, .int .i64 x5] 25) := (hb_v3.block (D) (Array.getElem?_eq_some_iff.1 (show v1.heap[D]? = some (.cells #[.int .i64 x0, .int .i64 x1, .int .i64 x2, .int .i64 x3, .int .i64 x4, .int .i64 x5] 25) from cX_v1)).1).trans cX_v1
      have cY_v3 : v3.heap[D + 1]? = some (.cells #[.int .i64 y0, .int .i64 y1, .int .i64 y2, .int .i64 y3, .int .i64 y4, .int .i64 y5] 25) := (hb_v3.block (D + 1) (Array.getElem?_eq_some_iff.1 (show v1.heap[D + 1]? = some (.cells #[.int .i64 y0, .int .i64 y1, .int .i64 y2, .int .i64 y3, .int .i64 y4, .int .i64 y5] 25) from cY_v1)).1).trans cY_v1
      have hw_v3 : Below D w v3 := (hw_v1).trans (hb_v3.mono (by first | omega | (simp; omega)))
      clear cX_v1 cY_v1 hb_v3 y2_0 y2_1 y2_2 y2_3 y2_4 y2_5 hw_v1 hs_v3
      obtain ⟨EOX, hEOX⟩ : ∃ E, v3.heap.size = E := ⟨_, rfl⟩
      have ld4 : (v3.alloc (.cells #[.int .i64 ra, .int .i64 rb, .int .i64 rc, .int .i64 rd] 29)).heap[D + 1]? = some (.cells #[.int .i64 y0, .int .i64 y1, .int .i64 y2, .int .i64 y3, .int .i64 y4, .int .i64 y5] 25) := (heap_old (o := .cells #[.int .i64 ra, .int .i64 rb, .int .i64 rc, .int .i64 rd] 29) cY_v3)
      have y4_0 := cell6_0 ld4
      have y4_1 := cell6_1 ld4
      have y4_2 := cell6_2 ld4
      have y4_3 := cell6_3 ld4
      have y4_4 := cell6_4 ld4
      have y4_5 := cell6_5 ld4
      clear ld4
      go_wp2_with fail
      refine (RY.out _).mono ?_
      rintro e v5 ⟨rfl, hb_v5⟩
      have hs_v5 := hw_v3.size
      have cX_v5 : v5.heap[D]? = some (.cells #[.int .i64 x0, .int .i64 x1, .int .i64 x2, .int .i64 x3, .int .i64 x4, .int .i64 x5] 25) := (hb_v5.block (D) (Array.getElem?_eq_some_iff.1 (show (v3.alloc (.cells #[.int .i64 ra, .int .i64 rb, .int .i64 rc, .int .i64 rd] 29)).heap[D]? = some (.cells #[.int .i64 x0, .int .i64 x1, .int .i64 x2, .int .i64 x3, .int .i64 x4, .int .i64 x5] 25) from (heap_old (o := .cells #[.int .i64 ra, .int .i64 rb, .int .i64 rc, .int .i64 rd] 29) cX_v3))).1).trans (heap_old (o := .cells #[.int .i64 ra, .int .i64 rb, .int .i64 rc, .int .i64 rd] 29) cX_v3)
      have cY_v5 : v5.heap[D + 1]? = some (.cells #[.int .i64 y0, .int .i64 y1, .int .i64 y2, .int .i64 y3, .int .i64 y4, .int .i64 y5] 25) := (hb_v5.block (D + 1) (Array.getElem?_eq_some_iff.1 (show (v3.alloc (.cells #[.int .i64 ra, .int .i64 rb, .int .i64 rc, .int .i64 rd] 29)).heap[D + 1]? = some (.cells #[.int .i64 y0, .int .i64 y1, .int .i64 y2, .int .i64 y3, .int .i64 y4, .int .i64 y5] 25) from (heap_old (o := .cells #[.int .i64 ra, .int .i64 rb, .int .i64 rc, .int .i64 rd] 29) cY_v3))).1).trans (heap_old (o := .cells #[.int .i64 ra, .int .i64 rb, .int .i64 rc, .int .i64 rd] 29) cY_v3)
      have cOX_v5 : v5.heap[EOX]? = some (.cells #[.int .i64 ra, .int .i64 rb, .int .i64 rc, .int .i64 rd] 29) := (hb_v5.block (EOX) (Array.getElem?_eq_some_iff.1 (show (v3.alloc (.cells #[.int .i64 ra, .int .i64 rb, .int .i64 rc, .int .i64 rd] 29)).heap[EOX]? = some (.cells #[.int .i64 ra, .int .i64 rb, .int .i64 rc, .int .i64 rd] 29) from (heap_new (by first | omega | (simp; omega))))).1).trans (heap_new (by first | omega | (simp; omega)))
      have hw_v5 : Below D w v5 := ((hw_v3.alloc (by have := hw_v3.size; first | omega | (simp; omega)) (.cells #[.int .i64 ra, .int .i64 rb, .int .i64 rc, .int .i64 rd] 29))).trans (hb_v5.mono (by first | omega | (simp; omega)))
      clear cX_v3 cY_v3 hb_v5 y4_0 y4_1 y4_2 y4_3 y4_4 y4_5 hw_v3 hs_v5
      obtain ⟨EOY, hEOY⟩ : ∃ E, v5.heap.size = E := ⟨_, rfl⟩
      have ld6 : (v5.alloc (.cells #[.int .i64 ta, .int .i64 tb, .int .i64 tc, .int .i64 td] 29)).heap[D]? = some (.cells #[.int .i64 x0, .int .i64 x1, .int .i64 x2, .int .i64 x3, .int .i64 x4, .int .i64 x5] 25) := (heap_old (o := .cells #[.int .i64 ta, .int .i64 tb, .int .i64 tc, .int .i64 td] 29) cX_v5)
      have y6_0 := cell6_0 ld6
      have y6_1 := cell6_1 ld6
      have y6_2 := cell6_2 ld6
      have y6_3 := cell6_3 ld6
      have y6_4 := cell6_4 ld6
      have y6_5 := cell6_5 ld6
      clear ld6
      have ld7 : (v5.alloc (.cells #[.int .i64 ta, .int .i64 tb, .int .i64 tc, .int .i64 td] 29)).heap[D + 1]? = some (.cells #[.int .i64 y0, .int .i64 y1, .int .i64 y2, .int .i64 y3, .int .i64 y4, .int .i64 y5] 25) := (heap_old (o := .cells #[.int .i64 ta, .int .i64 tb, .int .i64 tc, .int .i64 td] 29) cY_v5)
      have y7_0 := cell6_0 ld7
      have y7_1 := cell6_1 ld7
      have y7_2 := cell6_2 ld7
      have y7_3 := cell6_3 ld7
      have y7_4 := cell6_4 ld7
      have y7_5 := cell6_5 ld7
      clear ld7
      go_wp2_with fail
      refine (AD.out _).mono ?_
      rintro e v8 ⟨rfl, hb_v8⟩
      have hs_v8 := hw_v5.size
      have cX_v8 : v8.heap[D]? = some (.cells #[.int .i64 x0, .int .i64 x1, .int .i64 x2, .int .i64 x3, .int .i64 x4, .int .i64 x5] 25) := (hb_v8.block (D) (Array.getElem?_eq_some_iff.1 (show (v5.alloc (.cells #[.int .i64 ta, .int .i64 tb, .int .i64 tc, .int .i64 td] 29)).heap[D]? = some (.cells #[.int .i64 x0, .int .i64 x1, .int .i64 x2, .int .i64 x3, .int .i64 x4, .int .i64 x5] 25) from (heap_old (o := .cells #[.int .i64 ta, .int .i64 tb, .int .i64 tc, .int .i64 td] 29) cX_v5))).1).trans (heap_old (o := .cells #[.int .i64 ta, .int .i64 tb, .int .i64 tc, .int .i64 td] 29) cX_v5)
      have cY_v8 : v8.heap[D + 1]? = some (.cells #[.int .i64 y0, .int .i64 y1, .int .i64 y2, .int .i64 y3, .int .i64 y4, .int .i64 y5] 25) := (hb_v8.block (D + 1) (Array.getElem?_eq_some_iff.1 (show (v5.alloc (.cells #[.int .i64 ta, .int .i64 tb, .int .i64 tc, .int .i64 td] 29)).heap[D + 1]? = some (.cells #[.int .i64 y0, .int .i64 y1, .int .i64 y2, .int .i64 y3, .int .i64 y4, .int .i64 y5] 25) from (heap_old (o := .cells #[.int .i64 ta, .int .i64 tb, .int .i64 tc, .int .i64 td] 29) cY_v5))).1).trans (heap_old (o := .cells #[.int .i64 ta, .int .i64 tb, .int .i64 tc, .int .i64 td] 29) cY_v5)
      have cOX_v8 : v8.heap[EOX]? = some (.cells #[.int .i64 ra, .int .i64 rb, .int .i64 rc, .int .i64 rd] 29) := (hb_v8.block (EOX) (Array.getElem?_eq_some_iff.1 (show (v5.alloc (.cells #[.int .i64 ta, .int .i64 tb, .int .i64 tc, .int .i64 td] 29)).heap[EOX]? = some (.cells #[.int .i64 ra, .int .i64 rb, .int .i64 rc, .int .i64 rd] 29) from (heap_old (o := .cells #[.int .i64 ta, .int .i64 tb, .int .i64 tc, .int .i64 td] 29) cOX_v5))).1).trans (heap_old (o := .cells #[.int .i64 ta, .int .i64 tb, .int .i64 tc, .int .i64 td] 29) cOX_v5)
      have cOY_v8 : v8.heap[EOY]? = some (.cells #[.int .i64 ta, .int .i64 tb, .int .i64 tc, .int .i64 td] 29) := (hb_v8.block (EOY) (Array.getElem?_eq_some_iff.1 (show (v5.alloc (.cells #[.int .i64 ta, .int .i64 tb, .int .i64 tc, .int .i64 td] 29)).heap[EOY]? = some (.cells #[.int .i64 ta, .int .i64 tb, .int .i64 tc, .int .i64 td] 29) from (heap_new (by first | omega | (simp; omega))))).1).trans (heap_new (by first | omega | (simp; omega)))
      have hw_v8 : Below D w v8 := ((hw_v5.alloc (by have := hw_v5.size; first | omega | (simp; omega)) (.cells #[.int .i64 ta, .int .i64 tb, .int .i64 tc, .int .i64 td] 29))).trans (hb_v8.mono (by first | omega | (simp; omega)))
      clear cX_v5 cY_v5 cOX_v5 hb_v8 y6_0 y6_1 y6_2 y6_3 y6_4 y6_5 y7_0 y7_1 y7_2 y7_3 y7_4 y7_5 hw_v5 hs_v8
      obtain ⟨ES, hES⟩ : ∃ E, v8.heap.size = E := ⟨_, rfl⟩
      have ld9 : (v8.alloc (.cells #[.int .i64 0, .int .i64 0, .int .i64 0, .int .i64 0, .int .i64 0, .int .i64 0] 25)).heap[D]? = some (.cells #[.int .i64 x0, .int .i64 x1, .int .i64 x2, .int .i64 x3, .int .i64 x4, .int .i64 x5] 25) := (heap_old (o := .cells #[.int .i64 0, .int .i64 0, .int .i64 0, .int .i64 0, .int .i64 0, .int .i64 0] 25) cX_v8)
      have y9_0 := cell6_0 ld9
      have y9_1 := cell6_1 ld9
      have y9_2 := cell6_2 ld9
      have y9_3 := cell6_3 ld9
      have y9_4 := cell6_4 ld9
      have y9_5 := cell6_5 ld9
      clear ld9
      have ld10 : (v8.alloc (.cells #[.int .i64 0, .int .i64 0, .int .i64 0, .int .i64 0, .int .i64 0, .int .i64 0] 25)).heap[D + 1]? = some (.cells #[.int .i64 y0, .int .i64 y1, .int .i64 y2, .int .i64 y3, .int .i64 y4, .int .i64 y5] 25) := (heap_old (o := .cells #[.int .i64 0, .int .i64 0, .int .i64 0, .int .i64 0, .int .i64 0, .int .i64 0] 25) cY_v8)
      have y10_0 := cell6_0 ld10
      have y10_1 := cell6_1 ld10
      have y10_2 := cell6_2 ld10
      have y10_3 := cell6_3 ld10
      have y10_4 := cell6_4 ld10
      have y10_5 := cell6_5 ld10
      clear ld10
      go_wp2_with fail
      refine (SU.out _).mono ?_
      rintro e v11 ⟨rfl, hb_v11⟩
      have hs_v11 := hw_v8.size
      have cX_v11 : v11.heap[D]? = some (.cells #[.int .i64 x0, .int .i64 x1, .int .i64 x2, .int .i64 x3, .int .i64 x4, .int .i64 x5] 25) := (hb_v11.block (D) (Array.getElem?_eq_some_iff.1 (show (v8.alloc (.cells #[.int .i64 0, .int .i64 0, .int .i64 0, .int .i64 0, .int .i64 0, .int .i64 0] 25)).heap[D]? = some (.cells #[.int .i64 x0, .int .i64 x1, .int .i64 x2, .int .i64 x3, .int .i64 x4, .int .i64 x5] 25) from (heap_old (o := .cells #[.int .i64 0, .int .i64 0, .int .i64 0, .int .i64 0, .int .i64 0, .int .i64 0] 25) cX_v8))).1).trans (heap_old (o := .cells #[.int .i64 0, .int .i64 0, .int .i64 0, .int .i64 0, .int .i64 0, .int .i64 0] 25) cX_v8)
      have cY_v11 : v11.heap[D + 1]? = some (.cells #[.int .i64 y0, .int .i64 y1, .int .i64 y2, .int .i64 y3, .int .i64 y4, .int .i64 y5] 25) := (hb_v11.block (D + 1) (Array.getElem?_eq_some_iff.1 (show (v8.alloc (.cells #[.int .i64 0, .int .i64 0, .int .i64 0, .int .i64 0, .int .i64 0, .int .i64 0] 25)).heap[D + 1]? = some (.cells #[.int .i64 y0, .int .i64 y1, .int .i64 y2, .int .i64 y3, .int .i64 y4, .int .i64 y5] 25) from (heap_old (o := .cells #[.int .i64 0, .int .i64 0, .int .i64 0, .int .i64 0, .int .i64 0, .int .i64 0] 25) cY_v8))).1).trans (heap_old (o := .cells #[.int .i64 0, .int .i64 0, .int .i64 0, .int .i64 0, .int .i64 0, .int .i64 0] 25) cY_v8)
      have cOX_v11 : v11.heap[EOX]? = some (.cells #[.int .i64 ra, .int .i64 rb, .int .i64 rc, .int .i64 rd] 29) := (hb_v11.block (EOX) (Array.getElem?_eq_some_iff.1 (show (v8.alloc (.cells #[.int .i64 0, .int .i64 0, .int .i64 0, .int .i64 0, .int .i64 0, .int .i64 0] 25)).heap[EOX]? = some (.cells #[.int .i64 ra, .int .i64 rb, .int .i64 rc, .int .i64 rd] 29) from (heap_old (o := .cells #[.int .i64 0, .int .i64 0, .int .i64 0, .int .i64 0, .int .i64 0, .int .i64 0] 25) cOX_v8))).1).trans (heap_old (o := .cells #[.int .i64 0, .int .i64 0, .int .i64 0, .int .i64 0, .int .i64 0, .int .i64 0] 25) cOX_v8)
      have cOY_v11 : v11.heap[EOY]? = some (.cells #[.int .i64 ta, .int .i64 tb, .int .i64 tc, .int .i64 td] 29) := (hb_v11.block (EOY) (Array.getElem?_eq_some_iff.1 (show (v8.alloc (.cells #[.int .i64 0, .int .i64 0, .int .i64 0, .int .i64 0, .int .i64 0, .int .i64 0] 25)).heap[EOY]? = some (.cells #[.int .i64 ta, .int .i64 tb, .int .i64 tc, .int .i64 td] 29) from (heap_old (o := .cells #[.int .i64 0, .int .i64 0, .int .i64 0, .int .i64 0, .int .i64 0, .int .i64 0] 25) cOY_v8))).1).trans (heap_old (o := .cells #[.int .i64 0, .int .i64 0, .int .i64 0, .int .i64 0, .int .i64 0, .int .i64 0] 25) cOY_v8)
      have cS_v11 : v11.heap[ES]? = some (.cells #[.int .i64 0, .int .i64 0, .int .i64 0, .int .i64 0, .int .i64 0, .int .i64 0] 25) := (hb_v11.block (ES) (Array.getElem?_eq_some_iff.1 (show (v8.alloc (.cells #[.int .i64 0, .int .i64 0, .int .i64 0, .int .i64 0, .int .i64 0, .int .i64 0] 25)).heap[ES]? = some (.cells #[.int .i64 0, .int .i64 0, .int .i64 0, .int .i64 0, .int .i64 0, .int .i64 0] 25) from (heap_new (by first | omega | (simp; omega))))).1).trans (heap_new (by first | omega | (simp; omega)))
      have hw_v11 : Below D w v11 := ((hw_v8.alloc (by have := hw_v8.size; first | omega | (simp; omega)) (.cells #[.int .i64 0, .int .i64 0, .int .i64 0, .int .i64 0, .int .i64 0, .int .i64 0] 25))).trans (hb_v11.mono (by first | omega | (simp; omega)))
      clear cX_v8 cY_v8 cOX_v8 cOY_v8 hb_v11 y9_0 y9_1 y9_2 y9_3 y9_4 y9_5 y10_0 y10_1 y10_2 y10_3 y10_4 y10_5 hw_v8 hs_v11
      obtain ⟨ET, hET⟩ : ∃ E, v11.heap.size = E := ⟨_, rfl⟩
      clear AD SU
      have HW := Lib.hid ((hw_v11.alloc (by have := hw_v11.size; first | omega | (simp; omega)) (.cells #[.int .i64 0, .int .i64 0, .int .i64 0, .int .i64 0, .int .i64 0, .int .i64 0] 25)))
      have ld12 : (v11.alloc (.cells #[.int .i64 0, .int .i64 0, .int .i64 0, .int .i64 0, .int .i64 0, .int .i64 0] 25)).heap[ES]? = some (.cells #[.int .i64 0, .int .i64 0, .int .i64 0, .int .i64 0, .int .i64 0, .int .i64 0] 25) := (heap_old (o := .cells #[.int .i64 0, .int .i64 0, .int .i64 0, .int .i64 0, .int .i64 0, .int .i64 0] 25) cS_v11)
      have y12_0 := cell6_0 ld12
      have y12_1 := cell6_1 ld12
      have y12_2 := cell6_2 ld12
      have y12_3 := cell6_3 ld12
      have y12_4 := cell6_4 ld12
      have y12_5 := cell6_5 ld12
      clear ld12
      have ld13 : (v11.alloc (.cells #[.int .i64 0, .int .i64 0, .int .i64 0, .int .i64 0, .int .i64 0, .int .i64 0] 25)).heap[ET]? = some (.cells #[.int .i64 0, .int .i64 0, .int .i64 0, .int .i64 0, .int .i64 0, .int .i64 0] 25) := (heap_new (by first | omega | (simp; omega)))
      have y13_0 := cell6_0 ld13
      have y13_1 := cell6_1 ld13
      have y13_2 := cell6_2 ld13
      have y13_3 := cell6_3 ld13
      have y13_4 := cell6_4 ld13
      have y13_5 := cell6_5 ld13
      clear ld13
      clear KN RX RY
      go_wp2
      go_ret
      exact ⟨rfl, by first | exact HW.out | (rw [hD]; exact HW.out)⟩
  · have AD := Lib.hid (fun W => ivadd_e1 x0 x1 x2 x3 x4 x5 y0 y1 y2 y3 y4 y5 W hx)
    have SU := Lib.hid (fun W => ivsub_e1 x0 x1 x2 x3 x4 x5 y0 y1 y2 y3 y4 y5 W hx)
    generalize rdA x0 x1 x2 x3 x4 x5 = ra at *
    generalize rdB x0 x1 x2 x3 x4 x5 = rb at *
    generalize rdC x0 x1 x2 x3 x4 x5 = rc at *
    generalize rdD x0 x1 x2 x3 x4 x5 = rd at *
    generalize rdA y0 y1 y2 y3 y4 y5 = ta at *
    generalize rdB y0 y1 y2 y3 y4 y5 = tb at *
    generalize rdC y0 y1 y2 y3 y4 y5 = tc at *
    generalize rdD y0 y1 y2 y3 y4 y5 = td at *
    generalize Iv.rdE x0 x1 x2 x3 x4 x5 = re at *
    generalize Iv.rdE y0 y1 y2 y3 y4 y5 = te at *
    have hne : (re == 0) = false := by rw [beq_eq_false_iff_ne]; exact hx
    have hez := eq_size 0 0 0 0 0 0
    go_enter Tryz.func5, Tryz.ntmps5
    have G1 : Gi ((w.alloc (.cells #[.int .i64 x0, .int .i64 x1, .int .i64 x2, .int .i64 x3, .int .i64 x4, .int .i64 x5] 25)).alloc (.cells #[.int .i64 y0, .int .i64 y1, .int .i64 y2, .int .i64 y3, .int .i64 y4, .int .i64 y5] 25)) := G.below (by rw [hD]; exact (((Below.refl _ w).alloc (by first | omega | (simp; omega)) (.cells #[.int .i64 x0, .int .i64 x1, .int .i64 x2, .int .i64 x3, .int .i64 x4, .int .i64 x5] 25)).alloc (by first | omega | (simp; omega)) (.cells #[.int .i64 y0, .int .i64 y1, .int .i64 y2, .int .i64 y3, .int .i64 y4, .int .i64 y5] 25)))
    have N1 : Nm ((w.alloc (.cells #[.int .i64 x0, .int .i64 x1, .int .i64 x2, .int .i64 x3, .int .i64 x4, .int .i64 x5] 25)).alloc (.cells #[.int .i64 y0, .int .i64 y1, .int .i64 y2, .int .i64 y3, .int .i64 y4, .int .i64 y5] 25)) := N.below (by rw [hD]; exact (((Below.refl _ w).alloc (by first | omega | (simp; omega)) (.cells #[.int .i64 x0, .int .i64 x1, .int .i64 x2, .int .i64 x3, .int .i64 x4, .int .i64 x5] 25)).alloc (by first | omega | (simp; omega)) (.cells #[.int .i64 y0, .int .i64 y1, .int .i64 y2, .int .i64 y3, .int .i64 y4, .int .i64 y5] 25)))
    go_wp2_with fail
    refine (KN.out _ G1 N1).mono ?_
    rintro e v1 ⟨rfl, hb_v1⟩
    have cX_v1 : v1.heap[D]? = some (.cells #[.int .i64 x0, .int .i64 x1, .int .i64 x2, .int .i64 x3, .int .i64 x4, .int .i64 x5] 25) := (hb_v1.block (D) (Array.getElem?_eq_some_iff.1 (show ((w.alloc (.cells #[.int .i64 x0, .int .i64 x1, .int .i64 x2, .int .i64 x3, .int .i64 x4, .int .i64 x5] 25)).alloc (.cells #[.int .i64 y0, .int .i64 y1, .int .i64 y2, .int .i64 y3, .int .i64 y4, .int .i64 y5] 25)).heap[D]? = some (.cells #[.int .i64 x0, .int .i64 x1, .int .i64 x2, .int .i64 x3, .int .i64 x4, .int .i64 x5] 25) from (heap_old (o := .cells #[.int .i64 y0, .int .i64 y1, .int .i64 y2, .int .i64 y3, .int .i64 y4, .int .i64 y5] 25) (heap_new (by first | omega | (simp; omega)))))).1).trans (heap_old (o := .cells #[.int .i64 y0, .int .i64 y1, .int .i64 y2, .int .i64 y3, .int .i64 y4, .int .i64 y5] 25) (heap_new (by first | omega | (simp; omega))))
    have cY_v1 : v1.heap[D + 1]? = some (.cells #[.int .i64 y0, .int .i64 y1, .int .i64 y2, .int .i64 y3, .int .i64 y4, .int .i64 y5] 25) := (hb_v1.block (D + 1) (Array.getElem?_eq_some_iff.1 (show ((w.alloc (.cells #[.int .i64 x0, .int .i64 x1, .int .i64 x2, .int .i64 x3, .int .i64 x4, .int .i64 x5] 25)).alloc (.cells #[.int .i64 y0, .int .i64 y1, .int .i64 y2, .int .i64 y3, .int .i64 y4, .int .i64 y5] 25)).heap[D + 1]? = some (.cells #[.int .i64 y0, .int .i64 y1, .int .i64 y2, .int .i64 y3, .int .i64 y4, .int .i64 y5] 25) from (heap_new (by first | omega | (simp; omega))))).1).trans (heap_new (by first | omega | (simp; omega)))
    have hw_v1 : Below D w v1 := ((((Below.refl _ w).alloc (by first | omega | (simp; omega)) (.cells #[.int .i64 x0, .int .i64 x1, .int .i64 x2, .int .i64 x3, .int .i64 x4, .int .i64 x5] 25)).alloc (by first | omega | (simp; omega)) (.cells #[.int .i64 y0, .int .i64 y1, .int .i64 y2, .int .i64 y3, .int .i64 y4, .int .i64 y5] 25))).trans (hb_v1.mono (by first | omega | (simp; omega)))
    clear hb_v1
    have ld2 : v1.heap[D]? = some (.cells #[.int .i64 x0, .int .i64 x1, .int .i64 x2, .int .i64 x3, .int .i64 x4, .int .i64 x5] 25) := cX_v1
    have y2_0 := cell6_0 ld2
    have y2_1 := cell6_1 ld2
    have y2_2 := cell6_2 ld2
    have y2_3 := cell6_3 ld2
    have y2_4 := cell6_4 ld2
    have y2_5 := cell6_5 ld2
    clear ld2
    go_wp2_with fail
    refine (RX.out _).mono ?_
    rintro e v3 ⟨rfl, hb_v3⟩
    have hs_v3 := hw_v1.size
    have cX_v3 : v3.heap[D]? = some (.cells #[.int .i64 x0, .int .i64 x1, .int .i64 x2, .int .i64 x3, .int .i64 x4, .int .i64 x5] 25) := (hb_v3.block (D) (Array.getElem?_eq_some_iff.1 (show v1.heap[D]? = some (.cells #[.int .i64 x0, .int .i64 x1, .int .i64 x2, .int .i64 x3, .int .i64 x4, .int .i64 x5] 25) from cX_v1)).1).trans cX_v1
    have cY_v3 : v3.heap[D + 1]? = some (.cells #[.int .i64 y0, .int .i64 y1, .int .i64 y2, .int .i64 y3, .int .i64 y4, .int .i64 y5] 25) := (hb_v3.block (D + 1) (Array.getElem?_eq_some_iff.1 (show v1.heap[D + 1]? = some (.cells #[.int .i64 y0, .int .i64 y1, .int .i64 y2, .int .i64 y3, .int .i64 y4, .int .i64 y5] 25) from cY_v1)).1).trans cY_v1
    have hw_v3 : Below D w v3 := (hw_v1).trans (hb_v3.mono (by first | omega | (simp; omega)))
    clear cX_v1 cY_v1 hb_v3 y2_0 y2_1 y2_2 y2_3 y2_4 y2_5 hw_v1 hs_v3
    obtain ⟨EOX, hEOX⟩ : ∃ E, v3.heap.size = E := ⟨_, rfl⟩
    have ld4 : (v3.alloc (.cells #[.int .i64 ra, .int .i64 rb, .int .i64 rc, .int .i64 rd] 29)).heap[D + 1]? = some (.cells #[.int .i64 y0, .int .i64 y1, .int .i64 y2, .int .i64 y3, .int .i64 y4, .int .i64 y5] 25) := (heap_old (o := .cells #[.int .i64 ra, .int .i64 rb, .int .i64 rc, .int .i64 rd] 29) cY_v3)
    have y4_0 := cell6_0 ld4
    have y4_1 := cell6_1 ld4
    have y4_2 := cell6_2 ld4
    have y4_3 := cell6_3 ld4
    have y4_4 := cell6_4 ld4
    have y4_5 := cell6_5 ld4
    clear ld4
    go_wp2_with fail
    refine (RY.out _).mono ?_
    rintro e v5 ⟨rfl, hb_v5⟩
    have hs_v5 := hw_v3.size
    have cX_v5 : v5.heap[D]? = some (.cells #[.int .i64 x0, .int .i64 x1, .int .i64 x2, .int .i64 x3, .int .i64 x4, .int .i64 x5] 25) := (hb_v5.block (D) (Array.getElem?_eq_some_iff.1 (show (v3.alloc (.cells #[.int .i64 ra, .int .i64 rb, .int .i64 rc, .int .i64 rd] 29)).heap[D]? = some (.cells #[.int .i64 x0, .int .i64 x1, .int .i64 x2, .int .i64 x3, .int .i64 x4, .int .i64 x5] 25) from (heap_old (o := .cells #[.int .i64 ra, .int .i64 rb, .int .i64 rc, .int .i64 rd] 29) cX_v3))).1).trans (heap_old (o := .cells #[.int .i64 ra, .int .i64 rb, .int .i64 rc, .int .i64 rd] 29) cX_v3)
    have cY_v5 : v5.heap[D + 1]? = some (.cells #[.int .i64 y0, .int .i64 y1, .int .i64 y2, .int .i64 y3, .int .i64 y4, .int .i64 y5] 25) := (hb_v5.block (D + 1) (Array.getElem?_eq_some_iff.1 (show (v3.alloc (.cells #[.int .i64 ra, .int .i64 rb, .int .i64 rc, .int .i64 rd] 29)).heap[D + 1]? = some (.cells #[.int .i64 y0, .int .i64 y1, .int .i64 y2, .int .i64 y3, .int .i64 y4, .int .i64 y5] 25) from (heap_old (o := .cells #[.int .i64 ra, .int .i64 rb, .int .i64 rc, .int .i64 rd] 29) cY_v3))).1).trans (heap_old (o := .cells #[.int .i64 ra, .int .i64 rb, .int .i64 rc, .int .i64 rd] 29) cY_v3)
    have cOX_v5 : v5.heap[EOX]? = some (.cells #[.int .i64 ra, .int .i64 rb, .int .i64 rc, .int .i64 rd] 29) := (hb_v5.block (EOX) (Array.getElem?_eq_some_iff.1 (show (v3.alloc (.cells #[.int .i64 ra, .int .i64 rb, .int .i64 rc, .int .i64 rd] 29)).heap[EOX]? = some (.cells #[.int .i64 ra, .int .i64 rb, .int .i64 rc, .int .i64 rd] 29) from (heap_new (by first | omega | (simp; omega))))).1).trans (heap_new (by first | omega | (simp; omega)))
    have hw_v5 : Below D w v5 := ((hw_v3.alloc (by have := hw_v3.size; first | omega | (simp; omega)) (.cells #[.int .i64 ra, .int .i64 rb, .int .i64 rc, .int .i64 rd] 29))).trans (hb_v5.mono (by first | omega | (simp; omega)))
    clear cX_v3 cY_v3 hb_v5 y4_0 y4_1 y4_2 y4_3 y4_4 y4_5 hw_v3 hs_v5
    obtain ⟨EOY, hEOY⟩ : ∃ E, v5.heap.size = E := ⟨_, rfl⟩
    have ld6 : (v5.alloc (.cells #[.int .i64 ta, .int .i64 tb, .int .i64 tc, .int .i64 td] 29)).heap[D]? = some (.cells #[.int .i64 x0, .int .i64 x1, .int .i64 x2, .int .i64 x3, .int .i64 x4, .int .i64 x5] 25) := (heap_old (o := .cells #[.int .i64 ta, .int .i64 tb, .int .i64 tc, .int .i64 td] 29) cX_v5)
    have y6_0 := cell6_0 ld6
    have y6_1 := cell6_1 ld6
    have y6_2 := cell6_2 ld6
    have y6_3 := cell6_3 ld6
    have y6_4 := cell6_4 ld6
    have y6_5 := cell6_5 ld6
    clear ld6
    have ld7 : (v5.alloc (.cells #[.int .i64 ta, .int .i64 tb, .int .i64 tc, .int .i64 td] 29)).heap[D + 1]? = some (.cells #[.int .i64 y0, .int .i64 y1, .int .i64 y2, .int .i64 y3, .int .i64 y4, .int .i64 y5] 25) := (heap_old (o := .cells #[.int .i64 ta, .int .i64 tb, .int .i64 tc, .int .i64 td] 29) cY_v5)
    have y7_0 := cell6_0 ld7
    have y7_1 := cell6_1 ld7
    have y7_2 := cell6_2 ld7
    have y7_3 := cell6_3 ld7
    have y7_4 := cell6_4 ld7
    have y7_5 := cell6_5 ld7
    clear ld7
    go_wp2_with fail
    refine (AD.out _).mono ?_
    rintro e v8 ⟨rfl, hb_v8⟩
    have hs_v8 := hw_v5.size
    have cX_v8 : v8.heap[D]? = some (.cells #[.int .i64 x0, .int .i64 x1, .int .i64 x2, .int .i64 x3, .int .i64 x4, .int .i64 x5] 25) := (hb_v8.block (D) (Array.getElem?_eq_some_iff.1 (show (v5.alloc (.cells #[.int .i64 ta, .int .i64 tb, .int .i64 tc, .int .i64 td] 29)).heap[D]? = some (.cells #[.int .i64 x0, .int .i64 x1, .int .i64 x2, .int .i64 x3, .int .i64 x4, .int .i64 x5] 25) from (heap_old (o := .cells #[.int .i64 ta, .int .i64 tb, .int .i64 tc, .int .i64 td] 29) cX_v5))).1).trans (heap_old (o := .cells #[.int .i64 ta, .int .i64 tb, .int .i64 tc, .int .i64 td] 29) cX_v5)
    have cY_v8 : v8.heap[D + 1]? = some (.cells #[.int .i64 y0, .int .i64 y1, .int .i64 y2, .int .i64 y3, .int .i64 y4, .int .i64 y5] 25) := (hb_v8.block (D + 1) (Array.getElem?_eq_some_iff.1 (show (v5.alloc (.cells #[.int .i64 ta, .int .i64 tb, .int .i64 tc, .int .i64 td] 29)).heap[D + 1]? = some (.cells #[.int .i64 y0, .int .i64 y1, .int .i64 y2, .int .i64 y3, .int .i64 y4, .int .i64 y5] 25) from (heap_old (o := .cells #[.int .i64 ta, .int .i64 tb, .int .i64 tc, .int .i64 td] 29) cY_v5))).1).trans (heap_old (o := .cells #[.int .i64 ta, .int .i64 tb, .int .i64 tc, .int .i64 td] 29) cY_v5)
    have cOX_v8 : v8.heap[EOX]? = some (.cells #[.int .i64 ra, .int .i64 rb, .int .i64 rc, .int .i64 rd] 29) := (hb_v8.block (EOX) (Array.getElem?_eq_some_iff.1 (show (v5.alloc (.cells #[.int .i64 ta, .int .i64 tb, .int .i64 tc, .int .i64 td] 29)).heap[EOX]? = some (.cells #[.int .i64 ra, .int .i64 rb, .int .i64 rc, .int .i64 rd] 29) from (heap_old (o := .cells #[.int .i64 ta, .int .i64 tb, .int .i64 tc, .int .i64 td] 29) cOX_v5))).1).trans (heap_old (o := .cells #[.int .i64 ta, .int .i64 tb, .int .i64 tc, .int .i64 td] 29) cOX_v5)
    have cOY_v8 : v8.heap[EOY]? = some (.cells #[.int .i64 ta, .int .i64 tb, .int .i64 tc, .int .i64 td] 29) := (hb_v8.block (EOY) (Array.getElem?_eq_some_iff.1 (show (v5.alloc (.cells #[.int .i64 ta, .int .i64 tb, .int .i64 tc, .int .i64 td] 29)).heap[EOY]? = some (.cells #[.int .i64 ta, .int .i64 tb, .int .i64 tc, .int .i64 td] 29) from (heap_new (by first | omega | (simp; omega))))).1).trans (heap_new (by first | omega | (simp; omega)))
    have hw_v8 : Below D w v8 := ((hw_v5.alloc (by have := hw_v5.size; first | omega | (simp; omega)) (.cells #[.int .i64 ta, .int .i64 tb, .int .i64 tc, .int .i64 td] 29))).trans (hb_v8.mono (by first | omega | (simp; omega)))
    clear cX_v5 cY_v5 cOX_v5 hb_v8 y6_0 y6_1 y6_2 y6_3 y6_4 y6_5 y7_0 y7_1 y7_2 y7_3 y7_4 y7_5 hw_v5 hs_v8
    obtain ⟨ES, hES⟩ : ∃ E, v8.heap.size = E := ⟨_, rfl⟩
    have ld9 : (v8.alloc (.cells #[.int .i64 0, .int .i64 0, .int .i64 0, .int .i64 0, .int .i64 0, .int .i64 0] 25)).heap[D]? = some (.cells #[.int .i64 x0, .int .i64 x1, .int .i64 x2, .int .i64 x3, .int .i64 x4, .int .i64 x5] 25) := (heap_old (o := .cells #[.int .i64 0, .int .i64 0, .int .i64 0, .int .i64 0, .int .i64 0, .int .i64 0] 25) cX_v8)
    have y9_0 := cell6_0 ld9
    have y9_1 := cell6_1 ld9
    have y9_2 := cell6_2 ld9
    have y9_3 := cell6_3 ld9
    have y9_4 := cell6_4 ld9
    have y9_5 := cell6_5 ld9
    clear ld9
    have ld10 : (v8.alloc (.cells #[.int .i64 0, .int .i64 0, .int .i64 0, .int .i64 0, .int .i64 0, .int .i64 0] 25)).heap[D + 1]? = some (.cells #[.int .i64 y0, .int .i64 y1, .int .i64 y2, .int .i64 y3, .int .i64 y4, .int .i64 y5] 25) := (heap_old (o := .cells #[.int .i64 0, .int .i64 0, .int .i64 0, .int .i64 0, .int .i64 0, .int .i64 0] 25) cY_v8)
    have y10_0 := cell6_0 ld10
    have y10_1 := cell6_1 ld10
    have y10_2 := cell6_2 ld10
    have y10_3 := cell6_3 ld10
    have y10_4 := cell6_4 ld10
    have y10_5 := cell6_5 ld10
    clear ld10
    go_wp2_with fail
    refine (SU.out _).mono ?_
    rintro e v11 ⟨rfl, hb_v11⟩
    have hs_v11 := hw_v8.size
    have cX_v11 : v11.heap[D]? = some (.cells #[.int .i64 x0, .int .i64 x1, .int .i64 x2, .int .i64 x3, .int .i64 x4, .int .i64 x5] 25) := (hb_v11.block (D) (Array.getElem?_eq_some_iff.1 (show (v8.alloc (.cells #[.int .i64 0, .int .i64 0, .int .i64 0, .int .i64 0, .int .i64 0, .int .i64 0] 25)).heap[D]? = some (.cells #[.int .i64 x0, .int .i64 x1, .int .i64 x2, .int .i64 x3, .int .i64 x4, .int .i64 x5] 25) from (heap_old (o := .cells #[.int .i64 0, .int .i64 0, .int .i64 0, .int .i64 0, .int .i64 0, .int .i64 0] 25) cX_v8))).1).trans (heap_old (o := .cells #[.int .i64 0, .int .i64 0, .int .i64 0, .int .i64 0, .int .i64 0, .int .i64 0] 25) cX_v8)
    have cY_v11 : v11.heap[D + 1]? = some (.cells #[.int .i64 y0, .int .i64 y1, .int .i64 y2, .int .i64 y3, .int .i64 y4, .int .i64 y5] 25) := (hb_v11.block (D + 1) (Array.getElem?_eq_some_iff.1 (show (v8.alloc (.cells #[.int .i64 0, .int .i64 0, .int .i64 0, .int .i64 0, .int .i64 0, .int .i64 0] 25)).heap[D + 1]? = some (.cells #[.int .i64 y0, .int .i64 y1, .int .i64 y2, .int .i64 y3, .int .i64 y4, .int .i64 y5] 25) from (heap_old (o := .cells #[.int .i64 0, .int .i64 0, .int .i64 0, .int .i64 0, .int .i64 0, .int .i64 0] 25) cY_v8))).1).trans (heap_old (o := .cells #[.int .i64 0, .int .i64 0, .int .i64 0, .int .i64 0, .int .i64 0, .int .i64 0] 25) cY_v8)
    have cOX_v11 : v11.heap[EOX]? = some (.cells #[.int .i64 ra, .int .i64 rb, .int .i64 rc, .int .i64 rd] 29) := (hb_v11.block (EOX) (Array.getElem?_eq_some_iff.1 (show (v8.alloc (.cells #[.int .i64 0, .int .i64 0, .int .i64 0, .int .i64 0, .int .i64 0, .int .i64 0] 25)).heap[EOX]? = some (.cells #[.int .i64 ra, .int .i64 rb, .int .i64 rc, .int .i64 rd] 29) from (heap_old (o := .cells #[.int .i64 0, .int .i64 0, .int .i64 0, .int .i64 0, .int .i64 0, .int .i64 0] 25) cOX_v8))).1).trans (heap_old (o := .cells #[.int .i64 0, .int .i64 0, .int .i64 0, .int .i64 0, .int .i64 0, .int .i64 0] 25) cOX_v8)
    have cOY_v11 : v11.heap[EOY]? = some (.cells #[.int .i64 ta, .int .i64 tb, .int .i64 tc, .int .i64 td] 29) := (hb_v11.block (EOY) (Array.getElem?_eq_some_iff.1 (show (v8.alloc (.cells #[.int .i64 0, .int .i64 0, .int .i64 0, .int .i64 0, .int .i64 0, .int .i64 0] 25)).heap[EOY]? = some (.cells #[.int .i64 ta, .int .i64 tb, .int .i64 tc, .int .i64 td] 29) from (heap_old (o := .cells #[.int .i64 0, .int .i64 0, .int .i64 0, .int .i64 0, .int .i64 0, .int .i64 0] 25) cOY_v8))).1).trans (heap_old (o := .cells #[.int .i64 0, .int .i64 0, .int .i64 0, .int .i64 0, .int .i64 0, .int .i64 0] 25) cOY_v8)
    have cS_v11 : v11.heap[ES]? = some (.cells #[.int .i64 0, .int .i64 0, .int .i64 0, .int .i64 0, .int .i64 0, .int .i64 0] 25) := (hb_v11.block (ES) (Array.getElem?_eq_some_iff.1 (show (v8.alloc (.cells #[.int .i64 0, .int .i64 0, .int .i64 0, .int .i64 0, .int .i64 0, .int .i64 0] 25)).heap[ES]? = some (.cells #[.int .i64 0, .int .i64 0, .int .i64 0, .int .i64 0, .int .i64 0, .int .i64 0] 25) from (heap_new (by first | omega | (simp; omega))))).1).trans (heap_new (by first | omega | (simp; omega)))
    have hw_v11 : Below D w v11 := ((hw_v8.alloc (by have := hw_v8.size; first | omega | (simp; omega)) (.cells #[.int .i64 0, .int .i64 0, .int .i64 0, .int .i64 0, .int .i64 0, .int .i64 0] 25))).trans (hb_v11.mono (by first | omega | (simp; omega)))
    clear cX_v8 cY_v8 cOX_v8 cOY_v8 hb_v11 y9_0 y9_1 y9_2 y9_3 y9_4 y9_5 y10_0 y10_1 y10_2 y10_3 y10_4 y10_5 hw_v8 hs_v11
    obtain ⟨ET, hET⟩ : ∃ E, v11.heap.size = E := ⟨_, rfl⟩
    clear AD SU
    have HW := Lib.hid ((hw_v11.alloc (by have := hw_v11.size; first | omega | (simp; omega)) (.cells #[.int .i64 0, .int .i64 0, .int .i64 0, .int .i64 0, .int .i64 0, .int .i64 0] 25)))
    have ld12 : (v11.alloc (.cells #[.int .i64 0, .int .i64 0, .int .i64 0, .int .i64 0, .int .i64 0, .int .i64 0] 25)).heap[ES]? = some (.cells #[.int .i64 0, .int .i64 0, .int .i64 0, .int .i64 0, .int .i64 0, .int .i64 0] 25) := (heap_old (o := .cells #[.int .i64 0, .int .i64 0, .int .i64 0, .int .i64 0, .int .i64 0, .int .i64 0] 25) cS_v11)
    have y12_0 := cell6_0 ld12
    have y12_1 := cell6_1 ld12
    have y12_2 := cell6_2 ld12
    have y12_3 := cell6_3 ld12
    have y12_4 := cell6_4 ld12
    have y12_5 := cell6_5 ld12
    clear ld12
    have ld13 : (v11.alloc (.cells #[.int .i64 0, .int .i64 0, .int .i64 0, .int .i64 0, .int .i64 0, .int .i64 0] 25)).heap[ET]? = some (.cells #[.int .i64 0, .int .i64 0, .int .i64 0, .int .i64 0, .int .i64 0, .int .i64 0] 25) := (heap_new (by first | omega | (simp; omega)))
    have y13_0 := cell6_0 ld13
    have y13_1 := cell6_1 ld13
    have y13_2 := cell6_2 ld13
    have y13_3 := cell6_3 ld13
    have y13_4 := cell6_4 ld13
    have y13_5 := cell6_5 ld13
    clear ld13
    clear KN RX RY
    go_wp2
    go_ret
    exact ⟨rfl, by first | exact HW.out | (rw [hD]; exact HW.out)⟩
end Go.Proofs.YthdoadkdofgenaaGreatDoor
