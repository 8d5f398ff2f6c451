/- The walk of IntervalReduces. -/
import Derived.Test.YthdoadkdofgenaaGreatDoorIvO
import Derived.Test.YthdoadkdofgenaaGreatDoorIvS
import Derived.Test.YthdoadkdofgenaaGreatDoorIvEa
import Derived.Test.YthdoadkdofgenaaGreatDoorIvWl
import Derived.Test.YthdoadkdofgenaaGreatDoorIvBl
namespace Go.Proofs.YthdoadkdofgenaaGreatDoor
open Go Go.RowKit Go.Shelf

theorem oc_rest (z : Int) {d : Nat} (hd : 0 < d) : 0 ≤ z - Iv.oc z d * ((d : Int) * Iv.L2) ∧ z - Iv.oc z d * ((d : Int) * Iv.L2) < (d : Int) * Iv.L2 := by
  have hp : (0 : Int) < (d : Int) * Iv.L2 := by unfold Iv.L2; omega
  have h1 : Iv.oc z d * ((d : Int) * Iv.L2) ≤ z := Int.ediv_mul_le z (by omega)
  have h2 : z < (Iv.oc z d + 1) * ((d : Int) * Iv.L2) := Int.lt_ediv_add_one_mul_self z hp
  rw [Int.add_mul, Int.one_mul] at h2
  omega
theorem oc_zero {z z' : Int} {D D' : Nat} (hD : 0 < D) (hD' : 0 < D') (h : z * D' = z' * D) (h0 : 0 ≤ z') (h1 : z' < (D' : Int) * Iv.L2) : Iv.oc z D = 0 := by
  have a1 : (0 : Int) * D' ≤ z * D' := by
    rw [h, Int.zero_mul]
    exact Int.mul_nonneg h0 (by omega)
  have a2 : z * D' < ((D : Int) * Iv.L2) * D' := by
    rw [h, show ((D : Int) * Iv.L2) * (D' : Int) = ((D' : Int) * Iv.L2) * D by ac_rfl]
    exact Int.mul_lt_mul_of_pos_right h1 (by omega)
  exact Int.ediv_eq_zero_of_lt (Int.le_of_mul_le_mul_right a1 (by omega)) (Int.lt_of_mul_lt_mul_right a2 (by omega))
/-- Reduce of a rest. -/
theorem reduce_again (a b c : Int) (d : Nat) (hd : 0 < d) (hok : Iv.okB a b c d = true) (h0 : 0 ≤ Iv.lg a b c) (h1 : Iv.lg a b c < (d : Int) * Iv.L2) (w : World) (G : Gi w) :
    Calls Tryz.prog 21 #[.agg #[.int .i64 (FracMath.qn a d), .int .i64 (FracMath.qd a d), .int .i64 (FracMath.qn b d), .int .i64 (FracMath.qd b d), .int .i64 (FracMath.qn c d), .int .i64 (FracMath.qd c d)]] w fun e w' => e = .returned (.tuple #[.agg #[.int .i64 (szN a a b c d), .int .i64 (szD a a b c d), .int .i64 (szN b a b c d), .int .i64 (szD b a b c d), .int .i64 (szN c a b c d), .int .i64 (szD c a b c d)], .int .i64 0, .int .i64 0]) ∧ Below w.heap.size w w' := by
  obtain ⟨e0, o, eo, o1, o2, wa, wb, wc⟩ := rd_of_wr hd hok
  have hz := oc_zero o1 hd (Iv.lg_eqv wa wb wc) h0 h1
  have h := ivreduce_ok (FracMath.qn a d) (FracMath.qd a d) (FracMath.qn b d) (FracMath.qd b d) (FracMath.qn c d) (FracMath.qd c d) o w G e0 eo o1 o2 _ 0 hz rfl
  rw [Int.zero_mul, Int.sub_zero] at h
  obtain ⟨u1, u2, u3⟩ := sz_eqv o1 hd wa wa wb wc
  obtain ⟨v1, v2, _⟩ := sz_eqv o1 hd wb wa wb wc
  obtain ⟨w1, w2, _⟩ := sz_eqv o1 hd wc wa wb wc
  rw [u1, u2, u3, v1, v2, w1, w2, show szE a b c d = 0 by unfold szE; rw [hok]; rfl, ite_self] at h
  exact h
set_option maxRecDepth 100000 in
set_option maxHeartbeats 8000000 in
theorem reduces_walk (x0 x1 x2 x3 x4 x5 : Int) (w : World) (G : Gi w) (N : Nm w) :
    Calls Tryz.prog 8 #[.agg #[.int .i64 x0, .int .i64 x1, .int .i64 x2, .int .i64 x3, .int .i64 x4, .int .i64 x5]] w fun e w' => e = .returned (.bool true) ∧ Below w.heap.size w w' := by
  have KN := Lib.hid (fun W (G : Gi W) (N : Nm W) => lknown_any W G N)
  have RX := Lib.hid (fun W => lread_any x0 x1 x2 x3 x4 x5 W)
  obtain ⟨D, hD⟩ : ∃ D, w.heap.size = D := ⟨_, rfl⟩
  by_cases hx : Iv.rdE x0 x1 x2 x3 x4 x5 = 0
  · obtain ⟨d, ed, hd1, hd2⟩ := rd_nat x0 x1 x2 x3 x4 x5 hx
    have bx := rd_bounds x0 x1 x2 x3 x4 x5
    have RD := Lib.hid (fun W G F ap => ivreduce_ok x0 x1 x2 x3 x4 x5 d W G hx ed hd1 hd2 ap F)
    rw [hx] at RX
    clear hx
    generalize rdA x0 x1 x2 x3 x4 x5 = ra at *
    generalize rdB x0 x1 x2 x3 x4 x5 = rb at *
    generalize rdC x0 x1 x2 x3 x4 x5 = rc at *
    generalize rdD x0 x1 x2 x3 x4 x5 = rd at *
    subst ed
    have SX := Lib.hid (fun W => short_c ra rb rc (d : Int) W)
    obtain ⟨lx, hbx⟩ : ∃ x, (le9 ra && (le9 rb && le9 rc)) = x := ⟨_, rfl⟩
    rw [hbx] at SX
    cases lx with
    | false =>
      clear RD hbx bx
      go_enter Tryz.func8, Tryz.ntmps8
      have ld1 : (w.alloc (.cells #[.int .i64 x0, .int .i64 x1, .int .i64 x2, .int .i64 x3, .int .i64 x4, .int .i64 x5] 25)).heap[D]? = some (.cells #[.int .i64 x0, .int .i64 x1, .int .i64 x2, .int .i64 x3, .int .i64 x4, .int .i64 x5] 25) := (heap_new (by first | omega | (simp; omega)))
      have y1_0 := cell6_0 ld1
      have y1_1 := cell6_1 ld1
      have y1_2 := cell6_2 ld1
      have y1_3 := cell6_3 ld1
      have y1_4 := cell6_4 ld1
      have y1_5 := cell6_5 ld1
      clear ld1
      go_wp2_with fail
      refine (RX.out _).mono ?_
      rintro e v2 ⟨rfl, hb_v2⟩
      have cX_v2 : v2.heap[D]? = some (.cells #[.int .i64 x0, .int .i64 x1, .int .i64 x2, .int .i64 x3, .int .i64 x4, .int .i64 x5] 25) := (hb_v2.block (D) (Array.getElem?_eq_some_iff.1 (show (w.alloc (.cells #[.int .i64 x0, .int .i64 x1, .int .i64 x2, .int .i64 x3, .int .i64 x4, .int .i64 x5] 25)).heap[D]? = some (.cells #[.int .i64 x0, .int .i64 x1, .int .i64 x2, .int .i64 x3, .int .i64 x4, .int .i64 x5] 25) from (heap_new (by first | omega | (simp; omega))))).1).trans (heap_new (by first | omega | (simp; omega)))
      have hw_v2 : Below D w v2 := (((Below.refl _ w).alloc (by first | omega | (simp; omega)) (.cells #[.int .i64 x0, .int .i64 x1, .int .i64 x2, .int .i64 x3, .int .i64 x4, .int .i64 x5] 25))).trans (hb_v2.mono (by first | omega | (simp; omega)))
      clear hb_v2 y1_0 y1_1 y1_2 y1_3 y1_4 y1_5
      obtain ⟨EOX, hEOX⟩ : ∃ E, v2.heap.size = E := ⟨_, rfl⟩
      have G1 : Gi (v2.alloc (.cells #[.int .i64 ra, .int .i64 rb, .int .i64 rc, .int .i64 (d : Int)] 29)) := G.below (by rw [hD]; exact (hw_v2.alloc (by have := hw_v2.size; first | omega | (simp; omega)) (.cells #[.int .i64 ra, .int .i64 rb, .int .i64 rc, .int .i64 (d : Int)] 29)))
      have N1 : Nm (v2.alloc (.cells #[.int .i64 ra, .int .i64 rb, .int .i64 rc, .int .i64 (d : Int)] 29)) := N.below (by rw [hD]; exact (hw_v2.alloc (by have := hw_v2.size; first | omega | (simp; omega)) (.cells #[.int .i64 ra, .int .i64 rb, .int .i64 rc, .int .i64 (d : Int)] 29)))
      go_wp2_with fail
      refine (KN.out _ G1 N1).mono ?_
      rintro e v3 ⟨rfl, hb_v3⟩
      have hs_v3 := hw_v2.size
      have cX_v3 : v3.heap[D]? = some (.cells #[.int .i64 x0, .int .i64 x1, .int .i64 x2, .int .i64 x3, .int .i64 x4, .int .i64 x5] 25) := (hb_v3.block (D) (Array.getElem?_eq_some_iff.1 (show (v2.alloc (.cells #[.int .i64 ra, .int .i64 rb, .int .i64 rc, .int .i64 (d : Int)] 29)).heap[D]? = some (.cells #[.int .i64 x0, .int .i64 x1, .int .i64 x2, .int .i64 x3, .int .i64 x4, .int .i64 x5] 25) from (heap_old (o := .cells #[.int .i64 ra, .int .i64 rb, .int .i64 rc, .int .i64 (d : Int)] 29) cX_v2))).1).trans (heap_old (o := .cells #[.int .i64 ra, .int .i64 rb, .int .i64 rc, .int .i64 (d : Int)] 29) cX_v2)
      have cOX_v3 : v3.heap[EOX]? = some (.cells #[.int .i64 ra, .int .i64 rb, .int .i64 rc, .int .i64 (d : Int)] 29) := (hb_v3.block (EOX) (Array.getElem?_eq_some_iff.1 (show (v2.alloc (.cells #[.int .i64 ra, .int .i64 rb, .int .i64 rc, .int .i64 (d : Int)] 29)).heap[EOX]? = some (.cells #[.int .i64 ra, .int .i64 rb, .int .i64 rc, .int .i64 (d : Int)] 29) from (heap_new (by first | omega | (simp; omega))))).1).trans (heap_new (by first | omega | (simp; omega)))
      have hw_v3 : Below D w v3 := ((hw_v2.alloc (by have := hw_v2.size; first | omega | (simp; omega)) (.cells #[.int .i64 ra, .int .i64 rb, .int .i64 rc, .int .i64 (d : Int)] 29))).trans (hb_v3.mono (by first | omega | (simp; omega)))
      clear cX_v2 hb_v3 hw_v2 hs_v3
      have ld4 : v3.heap[EOX]? = some (.cells #[.int .i64 ra, .int .i64 rb, .int .i64 rc, .int .i64 (d : Int)] 29) := cOX_v3
      have y4_0 := cell4_0 ld4
      have y4_1 := cell4_1 ld4
      have y4_2 := cell4_2 ld4
      have y4_3 := cell4_3 ld4
      clear ld4
      go_wp2_with fail
      refine (SX.out _).mono ?_
      rintro e v5 ⟨rfl, hb_v5⟩
      have hs_v5 := hw_v3.size
      have cX_v5 : v5.heap[D]? = some (.cells #[.int .i64 x0, .int .i64 x1, .int .i64 x2, .int .i64 x3, .int .i64 x4, .int .i64 x5] 25) := (hb_v5.block (D) (Array.getElem?_eq_some_iff.1 (show v3.heap[D]? = some (.cells #[.int .i64 x0, .int .i64 x1, .int .i64 x2, .int .i64 x3, .int .i64 x4, .int .i64 x5] 25) from cX_v3)).1).trans cX_v3
      have cOX_v5 : v5.heap[EOX]? = some (.cells #[.int .i64 ra, .int .i64 rb, .int .i64 rc, .int .i64 (d : Int)] 29) := (hb_v5.block (EOX) (Array.getElem?_eq_some_iff.1 (show v3.heap[EOX]? = some (.cells #[.int .i64 ra, .int .i64 rb, .int .i64 rc, .int .i64 (d : Int)] 29) from cOX_v3)).1).trans cOX_v3
      have hw_v5 : Below D w v5 := (hw_v3).trans (hb_v5.mono (by first | omega | (simp; omega)))
      clear cX_v3 cOX_v3 hb_v5 y4_0 y4_1 y4_2 y4_3 hw_v3 hs_v5
      have G2 : Gi v5 := G.below (by rw [hD]; exact hw_v5)
      have N2 : Nm v5 := N.below (by rw [hD]; exact hw_v5)
      go_wp2_with fail
      refine (KN.out _ G2 N2).mono ?_
      rintro e v6 ⟨rfl, hb_v6⟩
      have hs_v6 := hw_v5.size
      have cX_v6 : v6.heap[D]? = some (.cells #[.int .i64 x0, .int .i64 x1, .int .i64 x2, .int .i64 x3, .int .i64 x4, .int .i64 x5] 25) := (hb_v6.block (D) (Array.getElem?_eq_some_iff.1 (show v5.heap[D]? = some (.cells #[.int .i64 x0, .int .i64 x1, .int .i64 x2, .int .i64 x3, .int .i64 x4, .int .i64 x5] 25) from cX_v5)).1).trans cX_v5
      have cOX_v6 : v6.heap[EOX]? = some (.cells #[.int .i64 ra, .int .i64 rb, .int .i64 rc, .int .i64 (d : Int)] 29) := (hb_v6.block (EOX) (Array.getElem?_eq_some_iff.1 (show v5.heap[EOX]? = some (.cells #[.int .i64 ra, .int .i64 rb, .int .i64 rc, .int .i64 (d : Int)] 29) from cOX_v5)).1).trans cOX_v5
      have hw_v6 : Below D w v6 := (hw_v5).trans (hb_v6.mono (by first | omega | (simp; omega)))
      clear cX_v5 cOX_v5 hb_v6 hw_v5 hs_v6
      have HW := Lib.hid (hw_v6)
      clear KN RX SX
      go_wp2
      go_ret
      exact ⟨rfl, by first | exact HW.out | (rw [hD]; exact HW.out)⟩
    | true =>
      simp only [Bool.and_eq_true] at hbx
      obtain ⟨k0, k1, k2⟩ := hbx
      have k0 := le9_t k0
      have k1 := le9_t k1
      have k2 := le9_t k2
      obtain ⟨F, hF⟩ : ∃ F, Iv.oc (Iv.lg ra rb rc) d = F := ⟨_, rfl⟩
      have RD := Lib.hid (fun W G => RD.out W G F _ hF rfl)
      have OC := Lib.hid (fun W G => rocts_any ra rb rc d W G k0 k1 k2 hd1 hd2)
      have RA := Lib.hid (roff_any ra rb rc F d k0 k1 k2 hd1 hd2 (by omega) (by omega)).1
      have rs := oc_rest (Iv.lg ra rb rc) hd1
      rw [hF] at OC rs
      rw [← Iv.lg_low] at rs
      have ob := Iv.oct_bound (n := F) k0 k1 k2 hd1 hd2 (by omega) (by omega)
      obtain ⟨a, hea⟩ : ∃ a, ra - F * (d : Int) = a := ⟨_, rfl⟩
      rw [hea] at RD RA rs ob
      have RR := Lib.hid (fun W => lright_any a rb rc d W (by omega) (by omega) (by omega) (by omega) (by omega) (by omega) hd1 (by omega))
      have AG := Lib.hid (fun hok W G => reduce_again a rb rc d hd1 hok rs.1 rs.2 W G)
      have hE5 : Iv.okB a rb rc d = false → szE a rb rc d = 4 ∧ ∀ x, szN x a rb rc d = 0 ∧ szD x a rb rc d = 0 := fun h => by
        refine ⟨by unfold szE; rw [h]; rfl, fun x => ⟨?_, ?_⟩⟩
        · unfold szN; rw [h]; rfl
        · unfold szD; rw [h]; rfl
      have hE4 : Iv.okB a rb rc d = true → szE a rb rc d = 0 ∧ ∀ x, szN x a rb rc d = FracMath.qn x d ∧ szD x a rb rc d = FracMath.qd x d := fun h => by
        refine ⟨by unfold szE; rw [h]; rfl, fun x => ⟨?_, ?_⟩⟩
        · unfold szN; rw [h]; rfl
        · unfold szD; rw [h]; rfl
      cases hob : Iv.okB a rb rc d with
      | false =>
        obtain ⟨h5, h6⟩ := hE5 hob
        simp only [hob, h5, (h6 a).1, (h6 a).2, (h6 rb).1, (h6 rb).2, (h6 rc).1, (h6 rc).2, if_false, Bool.false_eq_true] at RD RR
        clear AG hE4 hE5 hob h5 h6 rs ob hF hea bx k0 k1 k2
        have hez := eq_size 0 0 0 0 0 0
        go_enter Tryz.func8, Tryz.ntmps8
        have ld1 : (w.alloc (.cells #[.int .i64 x0, .int .i64 x1, .int .i64 x2, .int .i64 x3, .int .i64 x4, .int .i64 x5] 25)).heap[D]? = some (.cells #[.int .i64 x0, .int .i64 x1, .int .i64 x2, .int .i64 x3, .int .i64 x4, .int .i64 x5] 25) := (heap_new (by first | omega | (simp; omega)))
        have y1_0 := cell6_0 ld1
        have y1_1 := cell6_1 ld1
        have y1_2 := cell6_2 ld1
        have y1_3 := cell6_3 ld1
        have y1_4 := cell6_4 ld1
        have y1_5 := cell6_5 ld1
        clear ld1
        go_wp2_with fail
        refine (RX.out _).mono ?_
        rintro e v2 ⟨rfl, hb_v2⟩
        have cX_v2 : v2.heap[D]? = some (.cells #[.int .i64 x0, .int .i64 x1, .int .i64 x2, .int .i64 x3, .int .i64 x4, .int .i64 x5] 25) := (hb_v2.block (D) (Array.getElem?_eq_some_iff.1 (show (w.alloc (.cells #[.int .i64 x0, .int .i64 x1, .int .i64 x2, .int .i64 x3, .int .i64 x4, .int .i64 x5] 25)).heap[D]? = some (.cells #[.int .i64 x0, .int .i64 x1, .int .i64 x2, .int .i64 x3, .int .i64 x4, .int .i64 x5] 25) from (heap_new (by first | omega | (simp; omega))))).1).trans (heap_new (by first | omega | (simp; omega)))
        have hw_v2 : Below D w v2 := (((Below.refl _ w).alloc (by first | omega | (simp; omega)) (.cells #[.int .i64 x0, .int .i64 x1, .int .i64 x2, .int .i64 x3, .int .i64 x4, .int .i64 x5] 25))).trans (hb_v2.mono (by first | omega | (simp; omega)))
        clear hb_v2 y1_0 y1_1 y1_2 y1_3 y1_4 y1_5
        obtain ⟨EOX, hEOX⟩ : ∃ E, v2.heap.size = E := ⟨_, rfl⟩
        have G1 : Gi (v2.alloc (.cells #[.int .i64 ra, .int .i64 rb, .int .i64 rc, .int .i64 (d : Int)] 29)) := G.below (by rw [hD]; exact (hw_v2.alloc (by have := hw_v2.size; first | omega | (simp; omega)) (.cells #[.int .i64 ra, .int .i64 rb, .int .i64 rc, .int .i64 (d : Int)] 29)))
        have N1 : Nm (v2.alloc (.cells #[.int .i64 ra, .int .i64 rb, .int .i64 rc, .int .i64 (d : Int)] 29)) := N.below (by rw [hD]; exact (hw_v2.alloc (by have := hw_v2.size; first | omega | (simp; omega)) (.cells #[.int .i64 ra, .int .i64 rb, .int .i64 rc, .int .i64 (d : Int)] 29)))
        go_wp2_with fail
        refine (KN.out _ G1 N1).mono ?_
        rintro e v3 ⟨rfl, hb_v3⟩
        have hs_v3 := hw_v2.size
        have cX_v3 : v3.heap[D]? = some (.cells #[.int .i64 x0, .int .i64 x1, .int .i64 x2, .int .i64 x3, .int .i64 x4, .int .i64 x5] 25) := (hb_v3.block (D) (Array.getElem?_eq_some_iff.1 (show (v2.alloc (.cells #[.int .i64 ra, .int .i64 rb, .int .i64 rc, .int .i64 (d : Int)] 29)).heap[D]? = some (.cells #[.int .i64 x0, .int .i64 x1, .int .i64 x2, .int .i64 x3, .int .i64 x4, .int .i64 x5] 25) from (heap_old (o := .cells #[.int .i64 ra, .int .i64 rb, .int .i64 rc, .int .i64 (d : Int)] 29) cX_v2))).1).trans (heap_old (o := .cells #[.int .i64 ra, .int .i64 rb, .int .i64 rc, .int .i64 (d : Int)] 29) cX_v2)
        have cOX_v3 : v3.heap[EOX]? = some (.cells #[.int .i64 ra, .int .i64 rb, .int .i64 rc, .int .i64 (d : Int)] 29) := (hb_v3.block (EOX) (Array.getElem?_eq_some_iff.1 (show (v2.alloc (.cells #[.int .i64 ra, .int .i64 rb, .int .i64 rc, .int .i64 (d : Int)] 29)).heap[EOX]? = some (.cells #[.int .i64 ra, .int .i64 rb, .int .i64 rc, .int .i64 (d : Int)] 29) from (heap_new (by first | omega | (simp; omega))))).1).trans (heap_new (by first | omega | (simp; omega)))
        have hw_v3 : Below D w v3 := ((hw_v2.alloc (by have := hw_v2.size; first | omega | (simp; omega)) (.cells #[.int .i64 ra, .int .i64 rb, .int .i64 rc, .int .i64 (d : Int)] 29))).trans (hb_v3.mono (by first | omega | (simp; omega)))
        clear cX_v2 hb_v3 hw_v2 hs_v3
        have ld4 : v3.heap[EOX]? = some (.cells #[.int .i64 ra, .int .i64 rb, .int .i64 rc, .int .i64 (d : Int)] 29) := cOX_v3
        have y4_0 := cell4_0 ld4
        have y4_1 := cell4_1 ld4
        have y4_2 := cell4_2 ld4
        have y4_3 := cell4_3 ld4
        clear ld4
        go_wp2_with fail
        refine (SX.out _).mono ?_
        rintro e v5 ⟨rfl, hb_v5⟩
        have hs_v5 := hw_v3.size
        have cX_v5 : v5.heap[D]? = some (.cells #[.int .i64 x0, .int .i64 x1, .int .i64 x2, .int .i64 x3, .int .i64 x4, .int .i64 x5] 25) := (hb_v5.block (D) (Array.getElem?_eq_some_iff.1 (show v3.heap[D]? = some (.cells #[.int .i64 x0, .int .i64 x1, .int .i64 x2, .int .i64 x3, .int .i64 x4, .int .i64 x5] 25) from cX_v3)).1).trans cX_v3
        have cOX_v5 : v5.heap[EOX]? = some (.cells #[.int .i64 ra, .int .i64 rb, .int .i64 rc, .int .i64 (d : Int)] 29) := (hb_v5.block (EOX) (Array.getElem?_eq_some_iff.1 (show v3.heap[EOX]? = some (.cells #[.int .i64 ra, .int .i64 rb, .int .i64 rc, .int .i64 (d : Int)] 29) from cOX_v3)).1).trans cOX_v3
        have hw_v5 : Below D w v5 := (hw_v3).trans (hb_v5.mono (by first | omega | (simp; omega)))
        clear cX_v3 cOX_v3 hb_v5 y4_0 y4_1 y4_2 y4_3 hw_v3 hs_v5
        have G3 : Gi v5 := G.below (by rw [hD]; exact hw_v5)
        have N3 : Nm v5 := N.below (by rw [hD]; exact hw_v5)
        have ld6 : v5.heap[D]? = some (.cells #[.int .i64 x0, .int .i64 x1, .int .i64 x2, .int .i64 x3, .int .i64 x4, .int .i64 x5] 25) := cX_v5
        have y6_0 := cell6_0 ld6
        have y6_1 := cell6_1 ld6
        have y6_2 := cell6_2 ld6
        have y6_3 := cell6_3 ld6
        have y6_4 := cell6_4 ld6
        have y6_5 := cell6_5 ld6
        clear ld6
        go_wp2_with fail
        refine (RD.out _ G3).mono ?_
        rintro e v7 ⟨rfl, hb_v7⟩
        have hs_v7 := hw_v5.size
        have cX_v7 : v7.heap[D]? = some (.cells #[.int .i64 x0, .int .i64 x1, .int .i64 x2, .int .i64 x3, .int .i64 x4, .int .i64 x5] 25) := (hb_v7.block (D) (Array.getElem?_eq_some_iff.1 (show v5.heap[D]? = some (.cells #[.int .i64 x0, .int .i64 x1, .int .i64 x2, .int .i64 x3, .int .i64 x4, .int .i64 x5] 25) from cX_v5)).1).trans cX_v5
        have cOX_v7 : v7.heap[EOX]? = some (.cells #[.int .i64 ra, .int .i64 rb, .int .i64 rc, .int .i64 (d : Int)] 29) := (hb_v7.block (EOX) (Array.getElem?_eq_some_iff.1 (show v5.heap[EOX]? = some (.cells #[.int .i64 ra, .int .i64 rb, .int .i64 rc, .int .i64 (d : Int)] 29) from cOX_v5)).1).trans cOX_v5
        have hw_v7 : Below D w v7 := (hw_v5).trans (hb_v7.mono (by first | omega | (simp; omega)))
        clear cX_v5 cOX_v5 hb_v7 y6_0 y6_1 y6_2 y6_3 y6_4 y6_5 hw_v5 hs_v7
        obtain ⟨ER, hER⟩ : ∃ E, v7.heap.size = E := ⟨_, rfl⟩
        have G4 : Gi (v7.alloc (.cells #[.int .i64 0, .int .i64 0, .int .i64 0, .int .i64 0, .int .i64 0, .int .i64 0] 25)) := G.below (by rw [hD]; exact (hw_v7.alloc (by have := hw_v7.size; first | omega | (simp; omega)) (.cells #[.int .i64 0, .int .i64 0, .int .i64 0, .int .i64 0, .int .i64 0, .int .i64 0] 25)))
        have N4 : Nm (v7.alloc (.cells #[.int .i64 0, .int .i64 0, .int .i64 0, .int .i64 0, .int .i64 0, .int .i64 0] 25)) := N.below (by rw [hD]; exact (hw_v7.alloc (by have := hw_v7.size; first | omega | (simp; omega)) (.cells #[.int .i64 0, .int .i64 0, .int .i64 0, .int .i64 0, .int .i64 0, .int .i64 0] 25)))
        have ld8 : (v7.alloc (.cells #[.int .i64 0, .int .i64 0, .int .i64 0, .int .i64 0, .int .i64 0, .int .i64 0] 25)).heap[EOX]? = some (.cells #[.int .i64 ra, .int .i64 rb, .int .i64 rc, .int .i64 (d : Int)] 29) := (heap_old (o := .cells #[.int .i64 0, .int .i64 0, .int .i64 0, .int .i64 0, .int .i64 0, .int .i64 0] 25) cOX_v7)
        have y8_0 := cell4_0 ld8
        have y8_1 := cell4_1 ld8
        have y8_2 := cell4_2 ld8
        have y8_3 := cell4_3 ld8
        clear ld8
        go_wp2_with fail
        refine (OC.out _ G4).mono ?_
        rintro e v9 ⟨rfl, hb_v9⟩
        have hs_v9 := hw_v7.size
        have cX_v9 : v9.heap[D]? = some (.cells #[.int .i64 x0, .int .i64 x1, .int .i64 x2, .int .i64 x3, .int .i64 x4, .int .i64 x5] 25) := (hb_v9.block (D) (Array.getElem?_eq_some_iff.1 (show (v7.alloc (.cells #[.int .i64 0, .int .i64 0, .int .i64 0, .int .i64 0, .int .i64 0, .int .i64 0] 25)).heap[D]? = some (.cells #[.int .i64 x0, .int .i64 x1, .int .i64 x2, .int .i64 x3, .int .i64 x4, .int .i64 x5] 25) from (heap_old (o := .cells #[.int .i64 0, .int .i64 0, .int .i64 0, .int .i64 0, .int .i64 0, .int .i64 0] 25) cX_v7))).1).trans (heap_old (o := .cells #[.int .i64 0, .int .i64 0, .int .i64 0, .int .i64 0, .int .i64 0, .int .i64 0] 25) cX_v7)
        have cOX_v9 : v9.heap[EOX]? = some (.cells #[.int .i64 ra, .int .i64 rb, .int .i64 rc, .int .i64 (d : Int)] 29) := (hb_v9.block (EOX) (Array.getElem?_eq_some_iff.1 (show (v7.alloc (.cells #[.int .i64 0, .int .i64 0, .int .i64 0, .int .i64 0, .int .i64 0, .int .i64 0] 25)).heap[EOX]? = some (.cells #[.int .i64 ra, .int .i64 rb, .int .i64 rc, .int .i64 (d : Int)] 29) from (heap_old (o := .cells #[.int .i64 0, .int .i64 0, .int .i64 0, .int .i64 0, .int .i64 0, .int .i64 0] 25) cOX_v7))).1).trans (heap_old (o := .cells #[.int .i64 0, .int .i64 0, .int .i64 0, .int .i64 0, .int .i64 0, .int .i64 0] 25) cOX_v7)
        have cR_v9 : v9.heap[ER]? = some (.cells #[.int .i64 0, .int .i64 0, .int .i64 0, .int .i64 0, .int .i64 0, .int .i64 0] 25) := (hb_v9.block (ER) (Array.getElem?_eq_some_iff.1 (show (v7.alloc (.cells #[.int .i64 0, .int .i64 0, .int .i64 0, .int .i64 0, .int .i64 0, .int .i64 0] 25)).heap[ER]? = some (.cells #[.int .i64 0, .int .i64 0, .int .i64 0, .int .i64 0, .int .i64 0, .int .i64 0] 25) from (heap_new (by first | omega | (simp; omega))))).1).trans (heap_new (by first | omega | (simp; omega)))
        have hw_v9 : Below D w v9 := ((hw_v7.alloc (by have := hw_v7.size; first | omega | (simp; omega)) (.cells #[.int .i64 0, .int .i64 0, .int .i64 0, .int .i64 0, .int .i64 0, .int .i64 0] 25))).trans (hb_v9.mono (by first | omega | (simp; omega)))
        clear cX_v7 cOX_v7 hb_v9 y8_0 y8_1 y8_2 y8_3 hw_v7 hs_v9
        have ld10 : v9.heap[EOX]? = some (.cells #[.int .i64 ra, .int .i64 rb, .int .i64 rc, .int .i64 (d : Int)] 29) := cOX_v9
        have y10_0 := cell4_0 ld10
        have y10_1 := cell4_1 ld10
        have y10_2 := cell4_2 ld10
        have y10_3 := cell4_3 ld10
        clear ld10
        go_wp2_with fail
        refine (RA.out _).mono ?_
        rintro e v11 ⟨rfl, hb_v11⟩
        have hs_v11 := hw_v9.size
        have cX_v11 : v11.heap[D]? = some (.cells #[.int .i64 x0, .int .i64 x1, .int .i64 x2, .int .i64 x3, .int .i64 x4, .int .i64 x5] 25) := (hb_v11.block (D) (Array.getElem?_eq_some_iff.1 (show v9.heap[D]? = some (.cells #[.int .i64 x0, .int .i64 x1, .int .i64 x2, .int .i64 x3, .int .i64 x4, .int .i64 x5] 25) from cX_v9)).1).trans cX_v9
        have cOX_v11 : v11.heap[EOX]? = some (.cells #[.int .i64 ra, .int .i64 rb, .int .i64 rc, .int .i64 (d : Int)] 29) := (hb_v11.block (EOX) (Array.getElem?_eq_some_iff.1 (show v9.heap[EOX]? = some (.cells #[.int .i64 ra, .int .i64 rb, .int .i64 rc, .int .i64 (d : Int)] 29) from cOX_v9)).1).trans cOX_v9
        have cR_v11 : v11.heap[ER]? = some (.cells #[.int .i64 0, .int .i64 0, .int .i64 0, .int .i64 0, .int .i64 0, .int .i64 0] 25) := (hb_v11.block (ER) (Array.getElem?_eq_some_iff.1 (show v9.heap[ER]? = some (.cells #[.int .i64 0, .int .i64 0, .int .i64 0, .int .i64 0, .int .i64 0, .int .i64 0] 25) from cR_v9)).1).trans cR_v9
        have hw_v11 : Below D w v11 := (hw_v9).trans (hb_v11.mono (by first | omega | (simp; omega)))
        clear cX_v9 cOX_v9 cR_v9 hb_v11 y10_0 y10_1 y10_2 y10_3 hw_v9 hs_v11
        go_wp2_with fail
        refine (RR.out _).mono ?_
        rintro e v12 ⟨rfl, hb_v12⟩
        have hs_v12 := hw_v11.size
        have cX_v12 : v12.heap[D]? = some (.cells #[.int .i64 x0, .int .i64 x1, .int .i64 x2, .int .i64 x3, .int .i64 x4, .int .i64 x5] 25) := (hb_v12.block (D) (Array.getElem?_eq_some_iff.1 (show v11.heap[D]? = some (.cells #[.int .i64 x0, .int .i64 x1, .int .i64 x2, .int .i64 x3, .int .i64 x4, .int .i64 x5] 25) from cX_v11)).1).trans cX_v11
        have cOX_v12 : v12.heap[EOX]? = some (.cells #[.int .i64 ra, .int .i64 rb, .int .i64 rc, .int .i64 (d : Int)] 29) := (hb_v12.block (EOX) (Array.getElem?_eq_some_iff.1 (show v11.heap[EOX]? = some (.cells #[.int .i64 ra, .int .i64 rb, .int .i64 rc, .int .i64 (d : Int)] 29) from cOX_v11)).1).trans cOX_v11
        have cR_v12 : v12.heap[ER]? = some (.cells #[.int .i64 0, .int .i64 0, .int .i64 0, .int .i64 0, .int .i64 0, .int .i64 0] 25) := (hb_v12.block (ER) (Array.getElem?_eq_some_iff.1 (show v11.heap[ER]? = some (.cells #[.int .i64 0, .int .i64 0, .int .i64 0, .int .i64 0, .int .i64 0, .int .i64 0] 25) from cR_v11)).1).trans cR_v11
        have hw_v12 : Below D w v12 := (hw_v11).trans (hb_v12.mono (by first | omega | (simp; omega)))
        clear cX_v11 cOX_v11 cR_v11 hb_v12 hw_v11 hs_v12
        obtain ⟨EWT, hEWT⟩ : ∃ E, v12.heap.size = E := ⟨_, rfl⟩
        have HW := Lib.hid ((hw_v12.alloc (by have := hw_v12.size; first | omega | (simp; omega)) (.cells #[.int .i64 0, .int .i64 0, .int .i64 0, .int .i64 0, .int .i64 0, .int .i64 0] 25)))
        have ld13 : (v12.alloc (.cells #[.int .i64 0, .int .i64 0, .int .i64 0, .int .i64 0, .int .i64 0, .int .i64 0] 25)).heap[ER]? = some (.cells #[.int .i64 0, .int .i64 0, .int .i64 0, .int .i64 0, .int .i64 0, .int .i64 0] 25) := (heap_old (o := .cells #[.int .i64 0, .int .i64 0, .int .i64 0, .int .i64 0, .int .i64 0, .int .i64 0] 25) cR_v12)
        have y13_0 := cell6_0 ld13
        have y13_1 := cell6_1 ld13
        have y13_2 := cell6_2 ld13
        have y13_3 := cell6_3 ld13
        have y13_4 := cell6_4 ld13
        have y13_5 := cell6_5 ld13
        clear ld13
        clear KN RX SX RD OC RA RR
        go_wp2
        go_ret
        exact ⟨rfl, by first | exact HW.out | (rw [hD]; exact HW.out)⟩
      | true =>
        obtain ⟨h5, h6⟩ := hE4 hob
        have AG := Lib.hid (AG.out hob)
        simp only [hob, h5, (h6 a).1, (h6 a).2, (h6 rb).1, (h6 rb).2, (h6 rc).1, (h6 rc).2, if_true] at RD RR AG
        clear hE4 hE5 hob h5 h6 rs ob hF hea bx k0 k1 k2
        generalize FracMath.qn a d = s0 at *
        generalize FracMath.qd a d = s1 at *
        generalize FracMath.qn rb d = s2 at *
        generalize FracMath.qd rb d = s3 at *
        generalize FracMath.qn rc d = s4 at *
        generalize FracMath.qd rc d = s5 at *
        have hes := eq_size s0 s1 s2 s3 s4 s5
        go_enter Tryz.func8, Tryz.ntmps8
        have ld1 : (w.alloc (.cells #[.int .i64 x0, .int .i64 x1, .int .i64 x2, .int .i64 x3, .int .i64 x4, .int .i64 x5] 25)).heap[D]? = some (.cells #[.int .i64 x0, .int .i64 x1, .int .i64 x2, .int .i64 x3, .int .i64 x4, .int .i64 x5] 25) := (heap_new (by first | omega | (simp; omega)))
        have y1_0 := cell6_0 ld1
        have y1_1 := cell6_1 ld1
        have y1_2 := cell6_2 ld1
        have y1_3 := cell6_3 ld1
        have y1_4 := cell6_4 ld1
        have y1_5 := cell6_5 ld1
        clear ld1
        go_wp2_with fail
        refine (RX.out _).mono ?_
        rintro e v2 ⟨rfl, hb_v2⟩
        have cX_v2 : v2.heap[D]? = some (.cells #[.int .i64 x0, .int .i64 x1, .int .i64 x2, .int .i64 x3, .int .i64 x4, .int .i64 x5] 25) := (hb_v2.block (D) (Array.getElem?_eq_some_iff.1 (show (w.alloc (.cells #[.int .i64 x0, .int .i64 x1, .int .i64 x2, .int .i64 x3, .int .i64 x4, .int .i64 x5] 25)).heap[D]? = some (.cells #[.int .i64 x0, .int .i64 x1, .int .i64 x2, .int .i64 x3, .int .i64 x4, .int .i64 x5] 25) from (heap_new (by first | omega | (simp; omega))))).1).trans (heap_new (by first | omega | (simp; omega)))
        have hw_v2 : Below D w v2 := (((Below.refl _ w).alloc (by first | omega | (simp; omega)) (.cells #[.int .i64 x0, .int .i64 x1, .int .i64 x2, .int .i64 x3, .int .i64 x4, .int .i64 x5] 25))).trans (hb_v2.mono (by first | omega | (simp; omega)))
        clear hb_v2 y1_0 y1_1 y1_2 y1_3 y1_4 y1_5
        obtain ⟨EOX, hEOX⟩ : ∃ E, v2.heap.size = E := ⟨_, rfl⟩
        have G1 : Gi (v2.alloc (.cells #[.int .i64 ra, .int .i64 rb, .int .i64 rc, .int .i64 (d : Int)] 29)) := G.below (by rw [hD]; exact (hw_v2.alloc (by have := hw_v2.size; first | omega | (simp; omega)) (.cells #[.int .i64 ra, .int .i64 rb, .int .i64 rc, .int .i64 (d : Int)] 29)))
        have N1 : Nm (v2.alloc (.cells #[.int .i64 ra, .int .i64 rb, .int .i64 rc, .int .i64 (d : Int)] 29)) := N.below (by rw [hD]; exact (hw_v2.alloc (by have := hw_v2.size; first | omega | (simp; omega)) (.cells #[.int .i64 ra, .int .i64 rb, .int .i64 rc, .int .i64 (d : Int)] 29)))
        go_wp2_with fail
        refine (KN.out _ G1 N1).mono ?_
        rintro e v3 ⟨rfl, hb_v3⟩
        have hs_v3 := hw_v2.size
        have cX_v3 : v3.heap[D]? = some (.cells #[.int .i64 x0, .int .i64 x1, .int .i64 x2, .int .i64 x3, .int .i64 x4, .int .i64 x5] 25) := (hb_v3.block (D) (Array.getElem?_eq_some_iff.1 (show (v2.alloc (.cells #[.int .i64 ra, .int .i64 rb, .int .i64 rc, .int .i64 (d : Int)] 29)).heap[D]? = some (.cells #[.int .i64 x0, .int .i64 x1, .int .i64 x2, .int .i64 x3, .int .i64 x4, .int .i64 x5] 25) from (heap_old (o := .cells #[.int .i64 ra, .int .i64 rb, .int .i64 rc, .int .i64 (d : Int)] 29) cX_v2))).1).trans (heap_old (o := .cells #[.int .i64 ra, .int .i64 rb, .int .i64 rc, .int .i64 (d : Int)] 29) cX_v2)
        have cOX_v3 : v3.heap[EOX]? = some (.cells #[.int .i64 ra, .int .i64 rb, .int .i64 rc, .int .i64 (d : Int)] 29) := (hb_v3.block (EOX) (Array.getElem?_eq_some_iff.1 (show (v2.alloc (.cells #[.int .i64 ra, .int .i64 rb, .int .i64 rc, .int .i64 (d : Int)] 29)).heap[EOX]? = some (.cells #[.int .i64 ra, .int .i64 rb, .int .i64 rc, .int .i64 (d : Int)] 29) from (heap_new (by first | omega | (simp; omega))))).1).trans (heap_new (by first | omega | (simp; omega)))
        have hw_v3 : Below D w v3 := ((hw_v2.alloc (by have := hw_v2.size; first | omega | (simp; omega)) (.cells #[.int .i64 ra, .int .i64 rb, .int .i64 rc, .int .i64 (d : Int)] 29))).trans (hb_v3.mono (by first | omega | (simp; omega)))
        clear cX_v2 hb_v3 hw_v2 hs_v3
        have ld4 : v3.heap[EOX]? = some (.cells #[.int .i64 ra, .int .i64 rb, .int .i64 rc, .int .i64 (d : Int)] 29) := cOX_v3
        have y4_0 := cell4_0 ld4
        have y4_1 := cell4_1 ld4
        have y4_2 := cell4_2 ld4
        have y4_3 := cell4_3 ld4
        clear ld4
        go_wp2_with fail
        refine (SX.out _).mono ?_
        rintro e v5 ⟨rfl, hb_v5⟩
        have hs_v5 := hw_v3.size
        have cX_v5 : v5.heap[D]? = some (.cells #[.int .i64 x0, .int .i64 x1, .int .i64 x2, .int .i64 x3, .int .i64 x4, .int .i64 x5] 25) := (hb_v5.block (D) (Array.getElem?_eq_some_iff.1 (show v3.heap[D]? = some (.cells #[.int .i64 x0, .int .i64 x1, .int .i64 x2, .int .i64 x3, .int .i64 x4, .int .i64 x5] 25) from cX_v3)).1).trans cX_v3
        have cOX_v5 : v5.heap[EOX]? = some (.cells #[.int .i64 ra, .int .i64 rb, .int .i64 rc, .int .i64 (d : Int)] 29) := (hb_v5.block (EOX) (Array.getElem?_eq_some_iff.1 (show v3.heap[EOX]? = some (.cells #[.int .i64 ra, .int .i64 rb, .int .i64 rc, .int .i64 (d : Int)] 29) from cOX_v3)).1).trans cOX_v3
        have hw_v5 : Below D w v5 := (hw_v3).trans (hb_v5.mono (by first | omega | (simp; omega)))
        clear cX_v3 cOX_v3 hb_v5 y4_0 y4_1 y4_2 y4_3 hw_v3 hs_v5
        have G3 : Gi v5 := G.below (by rw [hD]; exact hw_v5)
        have N3 : Nm v5 := N.below (by rw [hD]; exact hw_v5)
        have ld6 : v5.heap[D]? = some (.cells #[.int .i64 x0, .int .i64 x1, .int .i64 x2, .int .i64 x3, .int .i64 x4, .int .i64 x5] 25) := cX_v5
        have y6_0 := cell6_0 ld6
        have y6_1 := cell6_1 ld6
        have y6_2 := cell6_2 ld6
        have y6_3 := cell6_3 ld6
        have y6_4 := cell6_4 ld6
        have y6_5 := cell6_5 ld6
        clear ld6
        go_wp2_with fail
        refine (RD.out _ G3).mono ?_
        rintro e v7 ⟨rfl, hb_v7⟩
        have hs_v7 := hw_v5.size
        have cX_v7 : v7.heap[D]? = some (.cells #[.int .i64 x0, .int .i64 x1, .int .i64 x2, .int .i64 x3, .int .i64 x4, .int .i64 x5] 25) := (hb_v7.block (D) (Array.getElem?_eq_some_iff.1 (show v5.heap[D]? = some (.cells #[.int .i64 x0, .int .i64 x1, .int .i64 x2, .int .i64 x3, .int .i64 x4, .int .i64 x5] 25) from cX_v5)).1).trans cX_v5
        have cOX_v7 : v7.heap[EOX]? = some (.cells #[.int .i64 ra, .int .i64 rb, .int .i64 rc, .int .i64 (d : Int)] 29) := (hb_v7.block (EOX) (Array.getElem?_eq_some_iff.1 (show v5.heap[EOX]? = some (.cells #[.int .i64 ra, .int .i64 rb, .int .i64 rc, .int .i64 (d : Int)] 29) from cOX_v5)).1).trans cOX_v5
        have hw_v7 : Below D w v7 := (hw_v5).trans (hb_v7.mono (by first | omega | (simp; omega)))
        clear cX_v5 cOX_v5 hb_v7 y6_0 y6_1 y6_2 y6_3 y6_4 y6_5 hw_v5 hs_v7
        obtain ⟨ER, hER⟩ : ∃ E, v7.heap.size = E := ⟨_, rfl⟩
        have G4 : Gi (v7.alloc (.cells #[.int .i64 s0, .int .i64 s1, .int .i64 s2, .int .i64 s3, .int .i64 s4, .int .i64 s5] 25)) := G.below (by rw [hD]; exact (hw_v7.alloc (by have := hw_v7.size; first | omega | (simp; omega)) (.cells #[.int .i64 s0, .int .i64 s1, .int .i64 s2, .int .i64 s3, .int .i64 s4, .int .i64 s5] 25)))
        have N4 : Nm (v7.alloc (.cells #[.int .i64 s0, .int .i64 s1, .int .i64 s2, .int .i64 s3, .int .i64 s4, .int .i64 s5] 25)) := N.below (by rw [hD]; exact (hw_v7.alloc (by have := hw_v7.size; first | omega | (simp; omega)) (.cells #[.int .i64 s0, .int .i64 s1, .int .i64 s2, .int .i64 s3, .int .i64 s4, .int .i64 s5] 25)))
        have ld8 : (v7.alloc (.cells #[.int .i64 s0, .int .i64 s1, .int .i64 s2, .int .i64 s3, .int .i64 s4, .int .i64 s5] 25)).heap[EOX]? = some (.cells #[.int .i64 ra, .int .i64 rb, .int .i64 rc, .int .i64 (d : Int)] 29) := (heap_old (o := .cells #[.int .i64 s0, .int .i64 s1, .int .i64 s2, .int .i64 s3, .int .i64 s4, .int .i64 s5] 25) cOX_v7)
        have y8_0 := cell4_0 ld8
        have y8_1 := cell4_1 ld8
        have y8_2 := cell4_2 ld8
        have y8_3 := cell4_3 ld8
        clear ld8
        go_wp2_with fail
        refine (OC.out _ G4).mono ?_
        rintro e v9 ⟨rfl, hb_v9⟩
        have hs_v9 := hw_v7.size
        have cX_v9 : v9.heap[D]? = some (.cells #[.int .i64 x0, .int .i64 x1, .int .i64 x2, .int .i64 x3, .int .i64 x4, .int .i64 x5] 25) := (hb_v9.block (D) (Array.getElem?_eq_some_iff.1 (show (v7.alloc (.cells #[.int .i64 s0, .int .i64 s1, .int .i64 s2, .int .i64 s3, .int .i64 s4, .int .i64 s5] 25)).heap[D]? = some (.cells #[.int .i64 x0, .int .i64 x1, .int .i64 x2, .int .i64 x3, .int .i64 x4, .int .i64 x5] 25) from (heap_old (o := .cells #[.int .i64 s0, .int .i64 s1, .int .i64 s2, .int .i64 s3, .int .i64 s4, .int .i64 s5] 25) cX_v7))).1).trans (heap_old (o := .cells #[.int .i64 s0, .int .i64 s1, .int .i64 s2, .int .i64 s3, .int .i64 s4, .int .i64 s5] 25) cX_v7)
        have cOX_v9 : v9.heap[EOX]? = some (.cells #[.int .i64 ra, .int .i64 rb, .int .i64 rc, .int .i64 (d : Int)] 29) := (hb_v9.block (EOX) (Array.getElem?_eq_some_iff.1 (show (v7.alloc (.cells #[.int .i64 s0, .int .i64 s1, .int .i64 s2, .int .i64 s3, .int .i64 s4, .int .i64 s5] 25)).heap[EOX]? = some (.cells #[.int .i64 ra, .int .i64 rb, .int .i64 rc, .int .i64 (d : Int)] 29) from (heap_old (o := .cells #[.int .i64 s0, .int .i64 s1, .int .i64 s2, .int .i64 s3, .int .i64 s4, .int .i64 s5] 25) cOX_v7))).1).trans (heap_old (o := .cells #[.int .i64 s0, .int .i64 s1, .int .i64 s2, .int .i64 s3, .int .i64 s4, .int .i64 s5] 25) cOX_v7)
        have cR_v9 : v9.heap[ER]? = some (.cells #[.int .i64 s0, .int .i64 s1, .int .i64 s2, .int .i64 s3, .int .i64 s4, .int .i64 s5] 25) := (hb_v9.block (ER) (Array.getElem?_eq_some_iff.1 (show (v7.alloc (.cells #[.int .i64 s0, .int .i64 s1, .int .i64 s2, .int .i64 s3, .int .i64 s4, .int .i64 s5] 25)).heap[ER]? = some (.cells #[.int .i64 s0, .int .i64 s1, .int .i64 s2, .int .i64 s3, .int .i64 s4, .int .i64 s5] 25) from (heap_new (by first | omega | (simp; omega))))).1).trans (heap_new (by first | omega | (simp; omega)))
        have hw_v9 : Below D w v9 := ((hw_v7.alloc (by have := hw_v7.size; first | omega | (simp; omega)) (.cells #[.int .i64 s0, .int .i64 s1, .int .i64 s2, .int .i64 s3, .int .i64 s4, .int .i64 s5] 25))).trans (hb_v9.mono (by first | omega | (simp; omega)))
        clear cX_v7 cOX_v7 hb_v9 y8_0 y8_1 y8_2 y8_3 hw_v7 hs_v9
        have ld10 : v9.heap[EOX]? = some (.cells #[.int .i64 ra, .int .i64 rb, .int .i64 rc, .int .i64 (d : Int)] 29) := cOX_v9
        have y10_0 := cell4_0 ld10
        have y10_1 := cell4_1 ld10
        have y10_2 := cell4_2 ld10
        have y10_3 := cell4_3 ld10
        clear ld10
        go_wp2_with fail
        refine (RA.out _).mono ?_
        rintro e v11 ⟨rfl, hb_v11⟩
        have hs_v11 := hw_v9.size
        have cX_v11 : v11.heap[D]? = some (.cells #[.int .i64 x0, .int .i64 x1, .int .i64 x2, .int .i64 x3, .int .i64 x4, .int .i64 x5] 25) := (hb_v11.block (D) (Array.getElem?_eq_some_iff.1 (show v9.heap[D]? = some (.cells #[.int .i64 x0, .int .i64 x1, .int .i64 x2, .int .i64 x3, .int .i64 x4, .int .i64 x5] 25) from cX_v9)).1).trans cX_v9
        have cOX_v11 : v11.heap[EOX]? = some (.cells #[.int .i64 ra, .int .i64 rb, .int .i64 rc, .int .i64 (d : Int)] 29) := (hb_v11.block (EOX) (Array.getElem?_eq_some_iff.1 (show v9.heap[EOX]? = some (.cells #[.int .i64 ra, .int .i64 rb, .int .i64 rc, .int .i64 (d : Int)] 29) from cOX_v9)).1).trans cOX_v9
        have cR_v11 : v11.heap[ER]? = some (.cells #[.int .i64 s0, .int .i64 s1, .int .i64 s2, .int .i64 s3, .int .i64 s4, .int .i64 s5] 25) := (hb_v11.block (ER) (Array.getElem?_eq_some_iff.1 (show v9.heap[ER]? = some (.cells #[.int .i64 s0, .int .i64 s1, .int .i64 s2, .int .i64 s3, .int .i64 s4, .int .i64 s5] 25) from cR_v9)).1).trans cR_v9
        have hw_v11 : Below D w v11 := (hw_v9).trans (hb_v11.mono (by first | omega | (simp; omega)))
        clear cX_v9 cOX_v9 cR_v9 hb_v11 y10_0 y10_1 y10_2 y10_3 hw_v9 hs_v11
        go_wp2_with fail
        refine (RR.out _).mono ?_
        rintro e v12 ⟨rfl, hb_v12⟩
        have hs_v12 := hw_v11.size
        have cX_v12 : v12.heap[D]? = some (.cells #[.int .i64 x0, .int .i64 x1, .int .i64 x2, .int .i64 x3, .int .i64 x4, .int .i64 x5] 25) := (hb_v12.block (D) (Array.getElem?_eq_some_iff.1 (show v11.heap[D]? = some (.cells #[.int .i64 x0, .int .i64 x1, .int .i64 x2, .int .i64 x3, .int .i64 x4, .int .i64 x5] 25) from cX_v11)).1).trans cX_v11
        have cOX_v12 : v12.heap[EOX]? = some (.cells #[.int .i64 ra, .int .i64 rb, .int .i64 rc, .int .i64 (d : Int)] 29) := (hb_v12.block (EOX) (Array.getElem?_eq_some_iff.1 (show v11.heap[EOX]? = some (.cells #[.int .i64 ra, .int .i64 rb, .int .i64 rc, .int .i64 (d : Int)] 29) from cOX_v11)).1).trans cOX_v11
        have cR_v12 : v12.heap[ER]? = some (.cells #[.int .i64 s0, .int .i64 s1, .int .i64 s2, .int .i64 s3, .int .i64 s4, .int .i64 s5] 25) := (hb_v12.block (ER) (Array.getElem?_eq_some_iff.1 (show v11.heap[ER]? = some (.cells #[.int .i64 s0, .int .i64 s1, .int .i64 s2, .int .i64 s3, .int .i64 s4, .int .i64 s5] 25) from cR_v11)).1).trans cR_v11
        have hw_v12 : Below D w v12 := (hw_v11).trans (hb_v12.mono (by first | omega | (simp; omega)))
        clear cX_v11 cOX_v11 cR_v11 hb_v12 hw_v11 hs_v12
        obtain ⟨EWT, hEWT⟩ : ∃ E, v12.heap.size = E := ⟨_, rfl⟩
        have G5 : Gi (v12.alloc (.cells #[.int .i64 s0, .int .i64 s1, .int .i64 s2, .int .i64 s3, .int .i64 s4, .int .i64 s5] 25)) := G.below (by rw [hD]; exact (hw_v12.alloc (by have := hw_v12.size; first | omega | (simp; omega)) (.cells #[.int .i64 s0, .int .i64 s1, .int .i64 s2, .int .i64 s3, .int .i64 s4, .int .i64 s5] 25)))
        have N5 : Nm (v12.alloc (.cells #[.int .i64 s0, .int .i64 s1, .int .i64 s2, .int .i64 s3, .int .i64 s4, .int .i64 s5] 25)) := N.below (by rw [hD]; exact (hw_v12.alloc (by have := hw_v12.size; first | omega | (simp; omega)) (.cells #[.int .i64 s0, .int .i64 s1, .int .i64 s2, .int .i64 s3, .int .i64 s4, .int .i64 s5] 25)))
        have ld13 : (v12.alloc (.cells #[.int .i64 s0, .int .i64 s1, .int .i64 s2, .int .i64 s3, .int .i64 s4, .int .i64 s5] 25)).heap[ER]? = some (.cells #[.int .i64 s0, .int .i64 s1, .int .i64 s2, .int .i64 s3, .int .i64 s4, .int .i64 s5] 25) := (heap_old (o := .cells #[.int .i64 s0, .int .i64 s1, .int .i64 s2, .int .i64 s3, .int .i64 s4, .int .i64 s5] 25) cR_v12)
        have y13_0 := cell6_0 ld13
        have y13_1 := cell6_1 ld13
        have y13_2 := cell6_2 ld13
        have y13_3 := cell6_3 ld13
        have y13_4 := cell6_4 ld13
        have y13_5 := cell6_5 ld13
        clear ld13
        go_wp2_with fail
        refine (AG.out _ G5).mono ?_
        rintro e v14 ⟨rfl, hb_v14⟩
        have hs_v14 := hw_v12.size
        have cX_v14 : v14.heap[D]? = some (.cells #[.int .i64 x0, .int .i64 x1, .int .i64 x2, .int .i64 x3, .int .i64 x4, .int .i64 x5] 25) := (hb_v14.block (D) (Array.getElem?_eq_some_iff.1 (show (v12.alloc (.cells #[.int .i64 s0, .int .i64 s1, .int .i64 s2, .int .i64 s3, .int .i64 s4, .int .i64 s5] 25)).heap[D]? = some (.cells #[.int .i64 x0, .int .i64 x1, .int .i64 x2, .int .i64 x3, .int .i64 x4, .int .i64 x5] 25) from (heap_old (o := .cells #[.int .i64 s0, .int .i64 s1, .int .i64 s2, .int .i64 s3, .int .i64 s4, .int .i64 s5] 25) cX_v12))).1).trans (heap_old (o := .cells #[.int .i64 s0, .int .i64 s1, .int .i64 s2, .int .i64 s3, .int .i64 s4, .int .i64 s5] 25) cX_v12)
        have cOX_v14 : v14.heap[EOX]? = some (.cells #[.int .i64 ra, .int .i64 rb, .int .i64 rc, .int .i64 (d : Int)] 29) := (hb_v14.block (EOX) (Array.getElem?_eq_some_iff.1 (show (v12.alloc (.cells #[.int .i64 s0, .int .i64 s1, .int .i64 s2, .int .i64 s3, .int .i64 s4, .int .i64 s5] 25)).heap[EOX]? = some (.cells #[.int .i64 ra, .int .i64 rb, .int .i64 rc, .int .i64 (d : Int)] 29) from (heap_old (o := .cells #[.int .i64 s0, .int .i64 s1, .int .i64 s2, .int .i64 s3, .int .i64 s4, .int .i64 s5] 25) cOX_v12))).1).trans (heap_old (o := .cells #[.int .i64 s0, .int .i64 s1, .int .i64 s2, .int .i64 s3, .int .i64 s4, .int .i64 s5] 25) cOX_v12)
        have cR_v14 : v14.heap[ER]? = some (.cells #[.int .i64 s0, .int .i64 s1, .int .i64 s2, .int .i64 s3, .int .i64 s4, .int .i64 s5] 25) := (hb_v14.block (ER) (Array.getElem?_eq_some_iff.1 (show (v12.alloc (.cells #[.int .i64 s0, .int .i64 s1, .int .i64 s2, .int .i64 s3, .int .i64 s4, .int .i64 s5] 25)).heap[ER]? = some (.cells #[.int .i64 s0, .int .i64 s1, .int .i64 s2, .int .i64 s3, .int .i64 s4, .int .i64 s5] 25) from (heap_old (o := .cells #[.int .i64 s0, .int .i64 s1, .int .i64 s2, .int .i64 s3, .int .i64 s4, .int .i64 s5] 25) cR_v12))).1).trans (heap_old (o := .cells #[.int .i64 s0, .int .i64 s1, .int .i64 s2, .int .i64 s3, .int .i64 s4, .int .i64 s5] 25) cR_v12)
        have cWT_v14 : v14.heap[EWT]? = some (.cells #[.int .i64 s0, .int .i64 s1, .int .i64 s2, .int .i64 s3, .int .i64 s4, .int .i64 s5] 25) := (hb_v14.block (EWT) (Array.getElem?_eq_some_iff.1 (show (v12.alloc (.cells #[.int .i64 s0, .int .i64 s1, .int .i64 s2, .int .i64 s3, .int .i64 s4, .int .i64 s5] 25)).heap[EWT]? = some (.cells #[.int .i64 s0, .int .i64 s1, .int .i64 s2, .int .i64 s3, .int .i64 s4, .int .i64 s5] 25) from (heap_new (by first | omega | (simp; omega))))).1).trans (heap_new (by first | omega | (simp; omega)))
        have hw_v14 : Below D w v14 := ((hw_v12.alloc (by have := hw_v12.size; first | omega | (simp; omega)) (.cells #[.int .i64 s0, .int .i64 s1, .int .i64 s2, .int .i64 s3, .int .i64 s4, .int .i64 s5] 25))).trans (hb_v14.mono (by first | omega | (simp; omega)))
        clear cX_v12 cOX_v12 cR_v12 hb_v14 y13_0 y13_1 y13_2 y13_3 y13_4 y13_5 hw_v12 hs_v14
        obtain ⟨ES, hES⟩ : ∃ E, v14.heap.size = E := ⟨_, rfl⟩
        have HW := Lib.hid ((hw_v14.alloc (by have := hw_v14.size; first | omega | (simp; omega)) (.cells #[.int .i64 s0, .int .i64 s1, .int .i64 s2, .int .i64 s3, .int .i64 s4, .int .i64 s5] 25)))
        have ld15 : (v14.alloc (.cells #[.int .i64 s0, .int .i64 s1, .int .i64 s2, .int .i64 s3, .int .i64 s4, .int .i64 s5] 25)).heap[ER]? = some (.cells #[.int .i64 s0, .int .i64 s1, .int .i64 s2, .int .i64 s3, .int .i64 s4, .int .i64 s5] 25) := (heap_old (o := .cells #[.int .i64 s0, .int .i64 s1, .int .i64 s2, .int .i64 s3, .int .i64 s4, .int .i64 s5] 25) cR_v14)
        have y15_0 := cell6_0 ld15
        have y15_1 := cell6_1 ld15
        have y15_2 := cell6_2 ld15
        have y15_3 := cell6_3 ld15
        have y15_4 := cell6_4 ld15
        have y15_5 := cell6_5 ld15
        clear ld15
        have ld16 : (v14.alloc (.cells #[.int .i64 s0, .int .i64 s1, .int .i64 s2, .int .i64 s3, .int .i64 s4, .int .i64 s5] 25)).heap[EWT]? = some (.cells #[.int .i64 s0, .int .i64 s1, .int .i64 s2, .int .i64 s3, .int .i64 s4, .int .i64 s5] 25) := (heap_old (o := .cells #[.int .i64 s0, .int .i64 s1, .int .i64 s2, .int .i64 s3, .int .i64 s4, .int .i64 s5] 25) cWT_v14)
        have y16_0 := cell6_0 ld16
        have y16_1 := cell6_1 ld16
        have y16_2 := cell6_2 ld16
        have y16_3 := cell6_3 ld16
        have y16_4 := cell6_4 ld16
        have y16_5 := cell6_5 ld16
        clear ld16
        have ld17 : (v14.alloc (.cells #[.int .i64 s0, .int .i64 s1, .int .i64 s2, .int .i64 s3, .int .i64 s4, .int .i64 s5] 25)).heap[ES]? = some (.cells #[.int .i64 s0, .int .i64 s1, .int .i64 s2, .int .i64 s3, .int .i64 s4, .int .i64 s5] 25) := (heap_new (by first | omega | (simp; omega)))
        have y17_0 := cell6_0 ld17
        have y17_1 := cell6_1 ld17
        have y17_2 := cell6_2 ld17
        have y17_3 := cell6_3 ld17
        have y17_4 := cell6_4 ld17
        have y17_5 := cell6_5 ld17
        clear ld17
        clear KN RX SX RD OC RA RR AG
        go_wp2
        go_ret
        exact ⟨rfl, by first | exact HW.out | (rw [hD]; exact HW.out)⟩
  · generalize rdA x0 x1 x2 x3 x4 x5 = ra at *
    generalize rdB x0 x1 x2 x3 x4 x5 = rb at *
    generalize rdC x0 x1 x2 x3 x4 x5 = rc at *
    generalize rdD x0 x1 x2 x3 x4 x5 = rd at *
    generalize Iv.rdE x0 x1 x2 x3 x4 x5 = re at *
    have hne : (re == 0) = false := by rw [beq_eq_false_iff_ne]; exact hx
    go_enter Tryz.func8, Tryz.ntmps8
    have ld1 : (w.alloc (.cells #[.int .i64 x0, .int .i64 x1, .int .i64 x2, .int .i64 x3, .int .i64 x4, .int .i64 x5] 25)).heap[D]? = some (.cells #[.int .i64 x0, .int .i64 x1, .int .i64 x2, .int .i64 x3, .int .i64 x4, .int .i64 x5] 25) := (heap_new (by first | omega | (simp; omega)))
    have y1_0 := cell6_0 ld1
    have y1_1 := cell6_1 ld1
    have y1_2 := cell6_2 ld1
    have y1_3 := cell6_3 ld1
    have y1_4 := cell6_4 ld1
    have y1_5 := cell6_5 ld1
    clear ld1
    go_wp2_with fail
    refine (RX.out _).mono ?_
    rintro e v2 ⟨rfl, hb_v2⟩
    have cX_v2 : v2.heap[D]? = some (.cells #[.int .i64 x0, .int .i64 x1, .int .i64 x2, .int .i64 x3, .int .i64 x4, .int .i64 x5] 25) := (hb_v2.block (D) (Array.getElem?_eq_some_iff.1 (show (w.alloc (.cells #[.int .i64 x0, .int .i64 x1, .int .i64 x2, .int .i64 x3, .int .i64 x4, .int .i64 x5] 25)).heap[D]? = some (.cells #[.int .i64 x0, .int .i64 x1, .int .i64 x2, .int .i64 x3, .int .i64 x4, .int .i64 x5] 25) from (heap_new (by first | omega | (simp; omega))))).1).trans (heap_new (by first | omega | (simp; omega)))
    have hw_v2 : Below D w v2 := (((Below.refl _ w).alloc (by first | omega | (simp; omega)) (.cells #[.int .i64 x0, .int .i64 x1, .int .i64 x2, .int .i64 x3, .int .i64 x4, .int .i64 x5] 25))).trans (hb_v2.mono (by first | omega | (simp; omega)))
    clear hb_v2 y1_0 y1_1 y1_2 y1_3 y1_4 y1_5
    obtain ⟨EOX, hEOX⟩ : ∃ E, v2.heap.size = E := ⟨_, rfl⟩
    have G1 : Gi (v2.alloc (.cells #[.int .i64 ra, .int .i64 rb, .int .i64 rc, .int .i64 rd] 29)) := G.below (by rw [hD]; exact (hw_v2.alloc (by have := hw_v2.size; first | omega | (simp; omega)) (.cells #[.int .i64 ra, .int .i64 rb, .int .i64 rc, .int .i64 rd] 29)))
    have N1 : Nm (v2.alloc (.cells #[.int .i64 ra, .int .i64 rb, .int .i64 rc, .int .i64 rd] 29)) := N.below (by rw [hD]; exact (hw_v2.alloc (by have := hw_v2.size; first | omega | (simp; omega)) (.cells #[.int .i64 ra, .int .i64 rb, .int .i64 rc, .int .i64 rd] 29)))
    go_wp2_with fail
    refine (KN.out _ G1 N1).mono ?_
    rintro e v3 ⟨rfl, hb_v3⟩
    have hs_v3 := hw_v2.size
    have cX_v3 : v3.heap[D]? = some (.cells #[.int .i64 x0, .int .i64 x1, .int .i64 x2, .int .i64 x3, .int .i64 x4, .int .i64 x5] 25) := (hb_v3.block (D) (Array.getElem?_eq_some_iff.1 (show (v2.alloc (.cells #[.int .i64 ra, .int .i64 rb, .int .i64 rc, .int .i64 rd] 29)).heap[D]? = some (.cells #[.int .i64 x0, .int .i64 x1, .int .i64 x2, .int .i64 x3, .int .i64 x4, .int .i64 x5] 25) from (heap_old (o := .cells #[.int .i64 ra, .int .i64 rb, .int .i64 rc, .int .i64 rd] 29) cX_v2))).1).trans (heap_old (o := .cells #[.int .i64 ra, .int .i64 rb, .int .i64 rc, .int .i64 rd] 29) cX_v2)
    have cOX_v3 : v3.heap[EOX]? = some (.cells #[.int .i64 ra, .int .i64 rb, .int .i64 rc, .int .i64 rd] 29) := (hb_v3.block (EOX) (Array.getElem?_eq_some_iff.1 (show (v2.alloc (.cells #[.int .i64 ra, .int .i64 rb, .int .i64 rc, .int .i64 rd] 29)).heap[EOX]? = some (.cells #[.int .i64 ra, .int .i64 rb, .int .i64 rc, .int .i64 rd] 29) from (heap_new (by first | omega | (simp; omega))))).1).trans (heap_new (by first | omega | (simp; omega)))
    have hw_v3 : Below D w v3 := ((hw_v2.alloc (by have := hw_v2.size; first | omega | (simp; omega)) (.cells #[.int .i64 ra, .int .i64 rb, .int .i64 rc, .int .i64 rd] 29))).trans (hb_v3.mono (by first | omega | (simp; omega)))
    clear cX_v2 hb_v3 hw_v2 hs_v3
    have G2 : Gi v3 := G.below (by rw [hD]; exact hw_v3)
    have N2 : Nm v3 := N.below (by rw [hD]; exact hw_v3)
    go_wp2_with fail
    refine (KN.out _ G2 N2).mono ?_
    rintro e v4 ⟨rfl, hb_v4⟩
    have hs_v4 := hw_v3.size
    have cX_v4 : v4.heap[D]? = some (.cells #[.int .i64 x0, .int .i64 x1, .int .i64 x2, .int .i64 x3, .int .i64 x4, .int .i64 x5] 25) := (hb_v4.block (D) (Array.getElem?_eq_some_iff.1 (show v3.heap[D]? = some (.cells #[.int .i64 x0, .int .i64 x1, .int .i64 x2, .int .i64 x3, .int .i64 x4, .int .i64 x5] 25) from cX_v3)).1).trans cX_v3
    have cOX_v4 : v4.heap[EOX]? = some (.cells #[.int .i64 ra, .int .i64 rb, .int .i64 rc, .int .i64 rd] 29) := (hb_v4.block (EOX) (Array.getElem?_eq_some_iff.1 (show v3.heap[EOX]? = some (.cells #[.int .i64 ra, .int .i64 rb, .int .i64 rc, .int .i64 rd] 29) from cOX_v3)).1).trans cOX_v3
    have hw_v4 : Below D w v4 := (hw_v3).trans (hb_v4.mono (by first | omega | (simp; omega)))
    clear cX_v3 cOX_v3 hb_v4 hw_v3 hs_v4
    have HW := Lib.hid (hw_v4)
    clear KN RX
    go_wp2
    go_ret
    exact ⟨rfl, by first | exact HW.out | (rw [hD]; exact HW.out)⟩
end Go.Proofs.YthdoadkdofgenaaGreatDoor
