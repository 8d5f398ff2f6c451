/- The reference's Octaves: the whole quotient of the sum of the logarithms. -/
import Derived.Test.YthdoadkdofgenaaGreatDoorIvEe
import Derived.Test.YthdoadkdofgenaaGreatDoorIvV
import Derived.Test.YthdoadkdofgenaaGreatDoorIvK
import Derived.Test.YthdoadkdofgenaaGreatDoorIvEd
import Derived.Test.YthdoadkdofgenaaGreatDoorIvO
import Derived.Test.YthdoadkdofgenaaGreatDoorIvS
import Derived.Laws.StructEq
namespace Go.Proofs.YthdoadkdofgenaaGreatDoor
open Go Go.RowKit Go.Shelf

/-- The sign when some octaves are taken off. -/
theorem roff_any (a b c n : Int) (d : Nat) (ha : -900 ≤ a ∧ a ≤ 900) (hb : -900 ≤ b ∧ b ≤ 900) (hc : -900 ≤ c ∧ c ≤ 900) (hd1 : 0 < d) (hd2 : d ≤ 240) (h1 : Iv.oc (Iv.lg a b c) d - 3 ≤ n) (h2 : n ≤ Iv.oc (Iv.lg a b c) d + 3) :
    (∀ W : World, Calls Tryz.prog 29 #[.agg #[.int .i64 a, .int .i64 b, .int .i64 c, .int .i64 (d : Int)], .agg #[.int .i64 n, .int .i64 0, .int .i64 0, .int .i64 1], .int .i64 (-1)] W fun e w' => e = .returned (.agg #[.int .i64 (a - n * d), .int .i64 b, .int .i64 c, .int .i64 (d : Int)]) ∧ Below W.heap.size W w') ∧
    (∀ W : World, Gi W → Calls Tryz.prog 34 #[.agg #[.int .i64 (a - n * d), .int .i64 b, .int .i64 c, .int .i64 (d : Int)]] W fun e w' => e = .returned (.int .i64 (Iv.sg (Iv.lg a b c - n * ((d : Int) * Iv.L2)))) ∧ Below W.heap.size W w') := by
  obtain ⟨b1, b2, b3, b4⟩ := Iv.oct_bound ha hb hc hd1 hd2 h1 h2
  constructor
  · intro W
    have h := radd_any a b c (d : Int) n 0 0 1 (-1) W (by omega) (by omega) (by omega) (by omega) (by omega) (by omega) (by omega) (by omega) (by omega)
    rw [show a * 1 + (-1) * n * (d : Int) = a - n * d by rw [Int.mul_one, Int.mul_assoc, Int.neg_one_mul]; rfl, show b * 1 + (-1) * 0 * (d : Int) = b by simp, show c * 1 + (-1) * 0 * (d : Int) = c by simp, Int.mul_one] at h
    exact h
  · intro W G
    have h := rsign_any (a - n * d) b c (d : Int) W G ⟨b1, b2⟩ (by omega) (by omega)
    rw [Iv.lg_low] at h
    exact h
theorem sg_neg_of {z n : Int} {D : Nat} (hD : 0 < D) (h : Iv.oc z D < n) : Iv.sg (z - n * ((D : Int) * Iv.L2)) < 0 := (Iv.sg_lt _).2 ((Iv.oc_lt hD).1 h)
theorem sg_nonneg_of {z n : Int} {D : Nat} (hD : 0 < D) (h : n ≤ Iv.oc z D) : ¬ Iv.sg (z - n * ((D : Int) * Iv.L2)) < 0 := fun k => by
  have := (Iv.oc_lt hD).2 ((Iv.sg_lt _).1 k)
  omega
set_option maxRecDepth 100000 in
set_option maxHeartbeats 8000000 in
theorem rocts_any (a b c : Int) (d : Nat) (w : World) (G : Gi w) (ha : -900 ≤ a ∧ a ≤ 900) (hb : -900 ≤ b ∧ b ≤ 900) (hc : -900 ≤ c ∧ c ≤ 900) (hd1 : 0 < d) (hd2 : d ≤ 240) :
    Calls Tryz.prog 35 #[.agg #[.int .i64 a, .int .i64 b, .int .i64 c, .int .i64 (d : Int)]] w fun e w' => e = .returned (.int .i64 (Iv.oc (Iv.lg a b c) d)) ∧ Below w.heap.size w w' := by
  have first := Iv.oct_first ha hb hc hd1
  have RO := Lib.hid (fun n h1 h2 => roff_any a b c n d ha hb hc hd1 hd2 h1 h2)
  have SN := Lib.hid (fun n (h : Iv.oc (Iv.lg a b c) d < n) => sg_neg_of hd1 h)
  have SP := Lib.hid (fun n (h : n ≤ Iv.oc (Iv.lg a b c) d) => sg_nonneg_of hd1 h)
  have bF : -10000 ≤ Iv.oc (Iv.lg a b c) d ∧ Iv.oc (Iv.lg a b c) d ≤ 10000 := (Iv.oct_bound ha hb hc hd1 hd2 (by omega) (by omega)).2.2
  obtain ⟨z, hz⟩ : ∃ z, Iv.lg a b c = z := ⟨_, rfl⟩
  rw [hz] at RO SN SP bF first ⊢
  clear hz
  obtain ⟨F, hF⟩ : ∃ F, Iv.oc z d = F := ⟨_, rfl⟩
  rw [hF] at RO SN SP bF first ⊢
  clear hF
  obtain ⟨SGN, hSG⟩ : ∃ f : Int → Int, ∀ n, Iv.sg (z - n * ((d : Int) * Iv.L2)) = f n := ⟨_, fun _ => rfl⟩
  simp only [hSG] at RO SN SP
  clear hSG
  have w1 := wrap_in (q := a * 1000000) (by omega) (by omega)
  have w2 := wrap_in (q := b * 1584963) (by omega) (by omega)
  have w3 := wrap_in (q := c * 2321928) (by omega) (by omega)
  have w4 := wrap_in (q := a * 1000000 + b * 1584963) (by omega) (by omega)
  have w5 := wrap_in (q := a * 1000000 + b * 1584963 + c * 2321928) (by omega) (by omega)
  have t1 := Int.natAbs_tdiv_le_natAbs (a * 1000000 + b * 1584963 + c * 2321928) (d : Int)
  have w6 := wrap_in (q := (a * 1000000 + b * 1584963 + c * 2321928).tdiv (d : Int)) (by omega) (by omega)
  have w7 := wrap_in (q := ((a * 1000000 + b * 1584963 + c * 2321928).tdiv (d : Int)).tdiv 1000000) (by omega) (by omega)
  have hdz : ¬ (d : Int) = 0 := by omega
  have hdz' : ¬ d = 0 := by omega
  have hdm : ¬ (d : Int) = -1 := by omega
  clear t1
  obtain ⟨D, hD⟩ : ∃ D, w.heap.size = D := ⟨_, rfl⟩
  have ld : (w.alloc (.cells #[.int .i64 a, .int .i64 b, .int .i64 c, .int .i64 (d : Int)] 29)).heap[D]? = some (.cells #[.int .i64 a, .int .i64 b, .int .i64 c, .int .i64 (d : Int)] 29) := heap_new hD.symm
  have y0 := cell4_0 ld
  have y1 := cell4_1 ld
  have y2 := cell4_2 ld
  have y3 := cell4_3 ld
  have hw0 : Below D w (w.alloc (.cells #[.int .i64 a, .int .i64 b, .int .i64 c, .int .i64 (d : Int)] 29)) := (Below.refl _ w).alloc (by omega) _
  have LD := Lib.hid ld
  have HW0 := Lib.hid hw0
  clear ld hw0
  go_enter Tryz.func35, Tryz.ntmps35
  go_wp2_with fail
  go_loopw [3] (fun n wr => ∃ k : Int, n = .int .i64 k ∧ F - 2 ≤ k ∧ k ≤ F + 2 ∧ Below D w wr ∧ wr.heap[D]? = some (.cells #[.int .i64 a, .int .i64 b, .int .i64 c, .int .i64 (d : Int)] 29)) (fun n _ => (intOf n - (F - 2)).toNat)
  case atStart => exact ⟨_, rfl, by omega, by omega, HW0.out, LD.out⟩
  case round =>
    obtain ⟨k, rfl, hk1, hk2, hw, hc0⟩ := hrel
    clear y0 y1 y2 y3 HW0 LD w1 w2 w3 w4 w5 w6 w7 first
    have r0 := cell4_0 hc0
    have r1 := cell4_1 hc0
    have r2 := cell4_2 hc0
    have r3 := cell4_3 hc0
    have HC0 := Lib.hid hc0
    have hl0 := (Array.getElem?_eq_some_iff.1 hc0).1
    clear hc0
    obtain ⟨RA, RS⟩ := RO.out k (by omega) (by omega)
    have RA := Lib.hid RA
    have RS := Lib.hid RS
    have wk := wrap_in (q := k - 1) (by omega) (by omega)
    go_wp2_with fail
    refine (RA.out _).mono ?_
    rintro e w3 ⟨rfl, b3⟩
    have hw3 := hw.trans (b3.mono (by have := hw.size; omega))
    go_wp2_with fail
    refine (RS.out _ (G.below (hD ▸ hw3))).mono ?_
    rintro e w4 ⟨rfl, b4⟩
    have hw4 := hw3.trans (b4.mono (by have := hw3.size; omega))
    have b34 := b3.trans (b4.mono b3.size)
    have hc4 := (b34.block _ hl0).trans HC0.out
    clear b3 b4 b34 hw3 hw r0 r1 r2 r3 RA RS HC0 hl0
    by_cases hF : F < k
    · have hs := SN.out k hF
      go_wp2_with fail
      go_roundw
      case rel => exact ⟨k - 1, rfl, by omega, by omega, hw4, hc4⟩
      case measure => simp [intOf]; omega
    · have hs := SP.out k (by omega)
      obtain ⟨wo, hwo⟩ : ∃ wo, wo = w4 := ⟨_, rfl⟩
      subst hwo
      have HW4 := Lib.hid hw4
      have HC4 := Lib.hid hc4
      clear hw4 hc4 wk
      go_wp2_with fail
      go_loopw [3] (fun n wr => ∃ k : Int, n = .int .i64 k ∧ F - 2 ≤ k ∧ k ≤ F ∧ Below D w wr ∧ wr.heap[D]? = some (.cells #[.int .i64 a, .int .i64 b, .int .i64 c, .int .i64 (d : Int)] 29)) (fun n _ => (F - intOf n).toNat)
      case atStart => exact ⟨k, rfl, by omega, by omega, HW4.out, HC4.out⟩
      case round =>
        clear HW4 HC4 hs hk1 hk2 hF
        obtain ⟨k2, rfl, hk1, hk2, hw, hc0⟩ := hrel
        have r0 := cell4_0 hc0
        have r1 := cell4_1 hc0
        have r2 := cell4_2 hc0
        have r3 := cell4_3 hc0
        have HC0 := Lib.hid hc0
        have hl0 := (Array.getElem?_eq_some_iff.1 hc0).1
        clear hc0
        have wk := wrap_in (q := k2 + 1) (by omega) (by omega)
        obtain ⟨RA, RS⟩ := RO.out (k2 + 1) (by omega) (by omega)
        have RA := Lib.hid RA
        have RS := Lib.hid RS
        go_wp2_with fail
        refine (RA.out _).mono ?_
        rintro e w3 ⟨rfl, b3⟩
        have hw3 := hw.trans (b3.mono (by have := hw.size; omega))
        go_wp2_with fail
        refine (RS.out _ (G.below (hD ▸ hw3))).mono ?_
        rintro e w4 ⟨rfl, b4⟩
        have hw4 := hw3.trans (b4.mono (by have := hw3.size; omega))
        have b34 := b3.trans (b4.mono b3.size)
        have hc4 := (b34.block _ hl0).trans HC0.out
        clear b3 b4 b34 hw3 hw r0 r1 r2 r3 RA RS HC0 hl0
        by_cases hF : k2 < F
        · have hs := SP.out (k2 + 1) (by omega)
          have hs' : 0 ≤ SGN (k2 + 1) := by omega
          go_wp2_with fail
          go_roundw
          case rel => exact ⟨k2 + 1, rfl, by omega, by omega, hw4, hc4⟩
          case measure => simp [intOf]; omega
        · have hs := SN.out (k2 + 1) (by omega)
          have hs' : ¬ 0 ≤ SGN (k2 + 1) := by omega
          obtain rfl : k2 = F := by omega
          have HW := Lib.hid hw4
          clear hw4 hc4
          go_wp2
          go_ret
          exact ⟨rfl, by first | exact HW.out | (rw [hD]; exact HW.out)⟩
end Go.Proofs.YthdoadkdofgenaaGreatDoor
/- The contract of Reduce. -/
namespace Go.Proofs.YthdoadkdofgenaaGreatDoor
open Go Go.RowKit Go.Shelf

theorem oc_small {z : Int} {D : Nat} (hz : -30000000000000000000000000000000000 ≤ z ∧ z ≤ 30000000000000000000000000000000000) (h0 : 0 < D) (h1 : D ≤ 240) : -10000000 ≤ Iv.oc z D * D ∧ Iv.oc z D * D ≤ 10000000 ∧ -100000 ≤ Iv.oc z D ∧ Iv.oc z D ≤ 100000 := by
  have hp : (0 : Int) < (D : Int) * Iv.L2 := by unfold Iv.L2; omega
  obtain ⟨F, hF⟩ : ∃ F, Iv.oc z D = F := ⟨_, rfl⟩
  have k3 : F * ((D : Int) * Iv.L2) ≤ z ∧ z < (F + 1) * ((D : Int) * Iv.L2) := by
    rw [← hF]
    exact ⟨Int.ediv_mul_le z (by omega), Int.lt_ediv_add_one_mul_self z hp⟩
  rw [hF]
  have hd1 : 1 ≤ (D : Int) ∧ (D : Int) ≤ 240 := by omega
  clear hF hp h0 h1
  generalize (D : Int) = d at *
  rw [Int.add_mul, Int.one_mul, ← Int.mul_assoc] at k3
  have b1 : -40000 ≤ F * d ∧ F * d ≤ 40000 := by
    generalize F * d = y at *
    unfold Iv.L2 at k3
    omega
  have b2 : (F * d).natAbs = F.natAbs * d.natAbs := Int.natAbs_mul F d
  have b3 : F.natAbs * 1 ≤ F.natAbs * d.natAbs := Nat.mul_le_mul_left _ (by omega)
  omega
def rcI (E : Nat) (P : Value) (z O D F : Int) : Nat → Value → World → Prop
  | 0, v, _ => v = P
  | 1, v, _ => v = .string (tz z)
  | 2, v, _ => v = .pointer (some ⟨E, 3, none⟩)
  | 3, v, _ => v = .int .i64 D
  | 4, v, _ => v = .string (tz D)
  | 5, v, _ => v = .string (tz O)
  | 6, v, _ => v = .int .i64 F
  | 7, v, _ => v = .int .i64 F
  | _, _, _ => True
theorem rcI_up (E : Nat) (P : Value) (z O D F : Int) : ∀ (j : Nat) (v : Value) (A B : World), Below A.heap.size A B → rcI E P z O D F j v A → rcI E P z O D F j v B
  | 0, _, _, _, _, h => h
  | 1, _, _, _, _, h => h
  | 2, _, _, _, _, h => h
  | 3, _, _, _, _, h => h
  | 4, _, _, _, _, h => h
  | 5, _, _, _, _, h => h
  | 6, _, _, _, _, h => h
  | 7, _, _, _, _, h => h
  | _ + 8, _, _, _, _, _ => trivial
def RcR (D1 E : Nat) (w : World) (a b c d : Int) (A : World) : Prop := Below w.heap.size w A ∧ Gi A ∧ A.heap[E]? = some (.cells #[.int .i64 a, .int .i64 b, .int .i64 c, .int .i64 d] 73) ∧ A.heap[D1]? = some (.cells #[.int .i64 0, .int .i64 0, .int .i64 0, .int .i64 0, .int .i64 0, .int .i64 0] 25)
theorem RcR_up (D1 E : Nat) (w : World) (a b c d : Int) (A B : World) (hb : Below A.heap.size A B) (h : RcR D1 E w a b c d A) : RcR D1 E w a b c d B :=
  ⟨h.1.trans (hb.mono h.1.size), h.2.1.below hb, (hb.block E (Array.getElem?_eq_some_iff.1 h.2.2.1).1).trans h.2.2.1, (hb.block D1 (Array.getElem?_eq_some_iff.1 h.2.2.2).1).trans h.2.2.2⟩

set_option maxRecDepth 100000 in
set_option maxHeartbeats 4000000 in
theorem ivreduce_ok (x0 x1 x2 x3 x4 x5 : Int) (D : Nat) (w : World) (G : Gi w) (he : Iv.rdE x0 x1 x2 x3 x4 x5 = 0) (hd : rdD x0 x1 x2 x3 x4 x5 = (D : Int)) (hd1 : 0 < D) (hd2 : D ≤ 240) (a' F : Int) (hF : Iv.oc (Iv.lg (rdA x0 x1 x2 x3 x4 x5) (rdB x0 x1 x2 x3 x4 x5) (rdC x0 x1 x2 x3 x4 x5)) D = F) (ha' : rdA x0 x1 x2 x3 x4 x5 - F * D = a') :
    Calls Tryz.prog 21 #[.agg #[.int .i64 x0, .int .i64 x1, .int .i64 x2, .int .i64 x3, .int .i64 x4, .int .i64 x5]] w fun e w' => e = .returned (.tuple #[.agg #[.int .i64 (szN a' a' (rdB x0 x1 x2 x3 x4 x5) (rdC x0 x1 x2 x3 x4 x5) D), .int .i64 (szD a' a' (rdB x0 x1 x2 x3 x4 x5) (rdC x0 x1 x2 x3 x4 x5) D), .int .i64 (szN (rdB x0 x1 x2 x3 x4 x5) a' (rdB x0 x1 x2 x3 x4 x5) (rdC x0 x1 x2 x3 x4 x5) D), .int .i64 (szD (rdB x0 x1 x2 x3 x4 x5) a' (rdB x0 x1 x2 x3 x4 x5) (rdC x0 x1 x2 x3 x4 x5) D), .int .i64 (szN (rdC x0 x1 x2 x3 x4 x5) a' (rdB x0 x1 x2 x3 x4 x5) (rdC x0 x1 x2 x3 x4 x5) D), .int .i64 (szD (rdC x0 x1 x2 x3 x4 x5) a' (rdB x0 x1 x2 x3 x4 x5) (rdC x0 x1 x2 x3 x4 x5) D)], .int .i64 (if Iv.okB a' (rdB x0 x1 x2 x3 x4 x5) (rdC x0 x1 x2 x3 x4 x5) D then F else 0), .int .i64 (szE a' (rdB x0 x1 x2 x3 x4 x5) (rdC x0 x1 x2 x3 x4 x5) D)]) ∧ Below w.heap.size w w' := by
  have PA := Lib.hid (fun W => rd_parts x0 x1 x2 x3 x4 x5 W)
  have hb := rd_bounds x0 x1 x2 x3 x4 x5
  have LO := Lib.hid (fun W G => ivlog_any (rdA x0 x1 x2 x3 x4 x5) (rdB x0 x1 x2 x3 x4 x5) (rdC x0 x1 x2 x3 x4 x5) (rdD x0 x1 x2 x3 x4 x5) W G (by omega) (by omega) (by omega))
  rw [hd] at PA LO
  rw [he] at PA
  have hz : -30000000000000000000000000000000000 ≤ Iv.lg (rdA x0 x1 x2 x3 x4 x5) (rdB x0 x1 x2 x3 x4 x5) (rdC x0 x1 x2 x3 x4 x5) ∧ Iv.lg (rdA x0 x1 x2 x3 x4 x5) (rdB x0 x1 x2 x3 x4 x5) (rdC x0 x1 x2 x3 x4 x5) ≤ 30000000000000000000000000000000000 := by
    unfold Iv.lg Iv.L2 Iv.L3 Iv.L5
    omega
  obtain ⟨z, hzz⟩ : ∃ z, Iv.lg (rdA x0 x1 x2 x3 x4 x5) (rdB x0 x1 x2 x3 x4 x5) (rdC x0 x1 x2 x3 x4 x5) = z := ⟨_, rfl⟩
  rw [hzz] at hz LO hF
  obtain ⟨f1, f2, f3, f4⟩ := oc_small hz hd1 hd2
  rw [hF] at f1 f2 f3 f4
  obtain ⟨O, hO⟩ : ∃ O : Int, (D : Int) * Iv.L2 = O := ⟨_, rfl⟩
  have hOb : 0 < O ∧ O ≤ 240000000000000000000000000000000 := by rw [← hO]; unfold Iv.L2; omega
  have hF2 : z / O = F := by rw [← hF, ← hO]; rfl
  have e60 : (10 : Nat) ^ 60 = 1000000000000000000000000000000000000000000000000000000000000 := by decide
  have e18 : (10 : Nat) ^ 18 = 1000000000000000000 := by decide
  have FL := Lib.hid (fun W G => ivfloor_any z O (by rw [e60]; omega) (by rw [e60]; omega) (by omega) (by rw [hF2, e18]; omega) W G)
  rw [hF2] at FL
  have OD := Lib.hid (fun (W : World) (G : Gi W) => show Calls Tryz.prog 52 #[.int .i64 (D : Int)] W fun e w' => e = .returned (.string (tz (D : Int))) ∧ Below W.heap.size W w' from of_any (D : Int) (by omega) (by omega) W G)
  have cD : Cn (tz (D : Int)) := cn_tz (k := 10) (by omega) (by decide) (by decide)
  have m1 := fun (W : World) (G : Gi W) => mul_c (tz (D : Int)) ⟨#[49, 48, 48, 48, 48, 48, 48, 48, 48, 48, 48, 48, 48, 48, 48, 48, 48, 48, 48, 48, 48, 48, 48, 48, 48, 48, 48, 48, 48, 48, 48]⟩ cD con2_cn W G
  simp only [iv_tz, con2_iv, hO] at m1
  have M1 := Lib.hid m1
  have SZ := Lib.hid (fun W => ivsize_any a' (rdB x0 x1 x2 x3 x4 x5) (rdC x0 x1 x2 x3 x4 x5) D W (by omega) (by omega) (by omega) (by omega) (by omega) (by omega) (by omega) (by omega))
  have wp1 := wrap_in (q := F * (D : Int)) (by omega) (by omega)
  have wp2 := wrap_in (q := rdA x0 x1 x2 x3 x4 x5 - F * (D : Int)) (by omega) (by omega)
  rw [ha'] at wp2
  have hE4 : Iv.okB a' (rdB x0 x1 x2 x3 x4 x5) (rdC x0 x1 x2 x3 x4 x5) D = true → szE a' (rdB x0 x1 x2 x3 x4 x5) (rdC x0 x1 x2 x3 x4 x5) D = 0 := fun h => by unfold szE; rw [h]; rfl
  have hE5 : Iv.okB a' (rdB x0 x1 x2 x3 x4 x5) (rdC x0 x1 x2 x3 x4 x5) D = false → szE a' (rdB x0 x1 x2 x3 x4 x5) (rdC x0 x1 x2 x3 x4 x5) D = 4 ∧ ∀ x, szN x a' (rdB x0 x1 x2 x3 x4 x5) (rdC x0 x1 x2 x3 x4 x5) D = 0 ∧ szD x a' (rdB x0 x1 x2 x3 x4 x5) (rdC x0 x1 x2 x3 x4 x5) D = 0 := fun h => by
    refine ⟨by unfold szE; rw [h]; rfl, fun x => ⟨?_, ?_⟩⟩
    · unfold szN; rw [h]; rfl
    · unfold szD; rw [h]; rfl
  clear m1 cD e60 e18 hOb hO hz hzz hb hd hF hF2 he f1 f2 f3 f4
  obtain ⟨ob, hob⟩ : ∃ x, Iv.okB a' (rdB x0 x1 x2 x3 x4 x5) (rdC x0 x1 x2 x3 x4 x5) D = x := ⟨_, rfl⟩
  rw [hob] at hE4 hE5 ⊢
  generalize hs0 : szN a' a' (rdB x0 x1 x2 x3 x4 x5) (rdC x0 x1 x2 x3 x4 x5) D = s0 at *
  generalize hs1 : szD a' a' (rdB x0 x1 x2 x3 x4 x5) (rdC x0 x1 x2 x3 x4 x5) D = s1 at *
  generalize hs2 : szN (rdB x0 x1 x2 x3 x4 x5) a' (rdB x0 x1 x2 x3 x4 x5) (rdC x0 x1 x2 x3 x4 x5) D = s2 at *
  generalize hs3 : szD (rdB x0 x1 x2 x3 x4 x5) a' (rdB x0 x1 x2 x3 x4 x5) (rdC x0 x1 x2 x3 x4 x5) D = s3 at *
  generalize hs4 : szN (rdC x0 x1 x2 x3 x4 x5) a' (rdB x0 x1 x2 x3 x4 x5) (rdC x0 x1 x2 x3 x4 x5) D = s4 at *
  generalize hs5 : szD (rdC x0 x1 x2 x3 x4 x5) a' (rdB x0 x1 x2 x3 x4 x5) (rdC x0 x1 x2 x3 x4 x5) D = s5 at *
  generalize szE a' (rdB x0 x1 x2 x3 x4 x5) (rdC x0 x1 x2 x3 x4 x5) D = se at *
  have hE6 : ob = false → se = 4 ∧ s0 = 0 ∧ s1 = 0 ∧ s2 = 0 ∧ s3 = 0 ∧ s4 = 0 ∧ s5 = 0 := fun h => by
    obtain ⟨k, l⟩ := hE5 h
    exact ⟨k, hs0.symm.trans (l _).1, hs1.symm.trans (l _).2, hs2.symm.trans (l _).1, hs3.symm.trans (l _).2, hs4.symm.trans (l _).1, hs5.symm.trans (l _).2⟩
  clear hE5 hs0 hs1 hs2 hs3 hs4 hs5 hob
  generalize rdA x0 x1 x2 x3 x4 x5 = a at *
  generalize rdB x0 x1 x2 x3 x4 x5 = b at *
  generalize rdC x0 x1 x2 x3 x4 x5 = c at *
  generalize hSO : tz O = SO at *
  obtain ⟨B, hB⟩ : ∃ B, w.heap.size = B := ⟨_, rfl⟩
  go_enter Tryz.func21, Tryz.ntmps21
  go_wp2_with fail
  refine (PA.out _).mono ?_
  rintro e w1 ⟨rfl, hb1⟩
  obtain ⟨E, hE⟩ : ∃ E, w1.heap.size = E := ⟨_, rfl⟩
  have h1a : w1.heap[B + 1]? = some (.cells #[.int .i64 0, .int .i64 0, .int .i64 0, .int .i64 0, .int .i64 0, .int .i64 0] 25) := (hb1.block (B + 1) (by simp [hB])).trans (heap_new (by simp [hB]))
  have hw1a : Below B w w1 := ((((Below.refl _ w).alloc (by first | omega | (simp; omega)) _).alloc (by first | omega | (simp; omega)) _)).trans (hb1.mono (by simp; omega))
  have h1 := heap_old (o := .cells #[.int .i64 a, .int .i64 b, .int .i64 c, .int .i64 (D : Int)] 73) h1a
  have h2 : (w1.alloc (.cells #[.int .i64 a, .int .i64 b, .int .i64 c, .int .i64 (D : Int)] 73)).heap[E]? = some (.cells #[.int .i64 a, .int .i64 b, .int .i64 c, .int .i64 (D : Int)] 73) := heap_new hE.symm
  have hw1 := hw1a.alloc (by have := hw1a.size; omega) (.cells #[.int .i64 a, .int .i64 b, .int .i64 c, .int .i64 (D : Int)] 73)
  obtain ⟨V, hV⟩ : ∃ V, (w1.alloc (.cells #[.int .i64 a, .int .i64 b, .int .i64 c, .int .i64 (D : Int)] 73)) = V := ⟨_, rfl⟩
  rw [hV] at h1 h2 hw1
  have HR := Lib.hid (show RcR (B + 1) E w a b c (D : Int) V from ⟨by rw [hB]; exact hw1, G.below (by rw [hB]; exact hw1), h2, h1⟩)
  have hEB : B + 1 < E := by have := (Array.getElem?_eq_some_iff.1 h1a).1; omega
  have r0 := cell4_0 h2
  clear hb1 h1a hw1a h1 h2 hw1
  go_wp2_with fail
  try rw [hV]
  clear hV

  subst hSO
  refine wp_region_slots_at rfl rfl (fun base ys => (((((((base.set 15 (ys 0)).set 16 (ys 1)).set 17 (ys 2)).set 18 (ys 3)).set 19 (ys 4)).set 20 (ys 5)).set 21 (ys 6)).set 3 (ys 7)) (BelowI _ (RcR (B + 1) E w a b c (D : Int)) (rcI E (.agg #[.int .i64 a, .int .i64 b, .int .i64 c, .int .i64 (D : Int)]) z O (D : Int) F)) (fun | 7 => .int .i64 0 | _ => undef) (by kernel_rfl) (below_start (RcR_up (B + 1) E w a b c (D : Int) V V.drew ⟨rfl, rfl, rfl, Nat.le_refl _, fun _ _ => rfl⟩ HR.out)) ?h
  case h =>
    intro FF hFF
    simp only [List.set_cons_succ, List.set_cons_zero] at hFF
    subst hFF
    refine ⟨rfl, ?_, ?_⟩
    refine ⟨?_, ?_⟩
    · refine SlotStep.below (RcR_up (B + 1) E w a b c (D : Int)) (rcI_up E (.agg #[.int .i64 a, .int .i64 b, .int .i64 c, .int .i64 (D : Int)]) z O (D : Int) F) ?_
      intro ys W hR hd K hK
      have c0 := cell4_0 hR.2.2.1
      have c1 := cell4_1 hR.2.2.1
      have c2 := cell4_2 hR.2.2.1
      have c3 := cell4_3 hR.2.2.1
      go_simp
      have hK2 := hK (.agg #[.int .i64 a, .int .i64 b, .int .i64 c, .int .i64 (D : Int)]) _ (Below.refl _ _) rfl
      simp (config := { decide := true }) only [upd, if_true, if_false] at hK2
      exact hK2
    refine ⟨?_, ?_⟩
    · refine SlotStep.below (RcR_up (B + 1) E w a b c (D : Int)) (rcI_up E (.agg #[.int .i64 a, .int .i64 b, .int .i64 c, .int .i64 (D : Int)]) z O (D : Int) F) ?_
      intro ys W hR hd K hK
      have dd0 : ys 0 = (.agg #[.int .i64 a, .int .i64 b, .int .i64 c, .int .i64 (D : Int)]) := hd 0 (by kernel_rfl) (by decide)
      go_simp
      refine (LO.out W hR.2.1).mono ?_
      rintro e w5 ⟨rfl, hb5⟩
      have hK2 := hK (.string (tz z)) _ hb5 rfl
      simp (config := { decide := true }) only [upd, if_true, if_false, dd0] at hK2
      exact hK2
    refine ⟨?_, ?_⟩
    · refine SlotStep.below (RcR_up (B + 1) E w a b c (D : Int)) (rcI_up E (.agg #[.int .i64 a, .int .i64 b, .int .i64 c, .int .i64 (D : Int)]) z O (D : Int) F) ?_
      intro ys W hR hd K hK
      go_simp
      have hK2 := hK (.pointer (some ⟨E, 3, none⟩)) _ (Below.refl _ _) rfl
      simp (config := { decide := true }) only [upd, if_true, if_false] at hK2
      exact hK2
    refine ⟨?_, ?_⟩
    · refine SlotStep.below (RcR_up (B + 1) E w a b c (D : Int)) (rcI_up E (.agg #[.int .i64 a, .int .i64 b, .int .i64 c, .int .i64 (D : Int)]) z O (D : Int) F) ?_
      intro ys W hR hd K hK
      have dd2 : ys 2 = (.pointer (some ⟨E, 3, none⟩)) := hd 2 (by kernel_rfl) (by decide)
      have c3 := cell4_3 hR.2.2.1
      go_simp
      have hK2 := hK (.int .i64 (D : Int)) _ (Below.refl _ _) rfl
      simp (config := { decide := true }) only [upd, if_true, if_false, dd2] at hK2
      exact hK2
    refine ⟨?_, ?_⟩
    · refine SlotStep.below (RcR_up (B + 1) E w a b c (D : Int)) (rcI_up E (.agg #[.int .i64 a, .int .i64 b, .int .i64 c, .int .i64 (D : Int)]) z O (D : Int) F) ?_
      intro ys W hR hd K hK
      have dd3 : ys 3 = (.int .i64 (D : Int)) := hd 3 (by kernel_rfl) (by decide)
      go_simp
      refine (OD.out W hR.2.1).mono ?_
      rintro e w5 ⟨rfl, hb5⟩
      have hK2 := hK (.string (tz (D : Int))) _ hb5 rfl
      simp (config := { decide := true }) only [upd, if_true, if_false, dd3] at hK2
      exact hK2
    refine ⟨?_, ?_⟩
    · refine SlotStep.below (RcR_up (B + 1) E w a b c (D : Int)) (rcI_up E (.agg #[.int .i64 a, .int .i64 b, .int .i64 c, .int .i64 (D : Int)]) z O (D : Int) F) ?_
      intro ys W hR hd K hK
      have dd4 : ys 4 = (.string (tz (D : Int))) := hd 4 (by kernel_rfl) (by decide)
      go_simp
      refine (M1.out W hR.2.1).mono ?_
      rintro e w5 ⟨rfl, hb5⟩
      have hK2 := hK (.string (tz O)) _ hb5 rfl
      simp (config := { decide := true }) only [upd, if_true, if_false, dd4] at hK2
      exact hK2
    refine ⟨?_, ?_⟩
    · refine SlotStep.below (RcR_up (B + 1) E w a b c (D : Int)) (rcI_up E (.agg #[.int .i64 a, .int .i64 b, .int .i64 c, .int .i64 (D : Int)]) z O (D : Int) F) ?_
      intro ys W hR hd K hK
      have dd1 : ys 1 = (.string (tz z)) := hd 1 (by kernel_rfl) (by decide)
      have dd5 : ys 5 = (.string (tz O)) := hd 5 (by kernel_rfl) (by decide)
      go_simp
      refine (FL.out W hR.2.1).mono ?_
      rintro e w5 ⟨rfl, hb5⟩
      have hK2 := hK (.int .i64 F) _ hb5 rfl
      simp (config := { decide := true }) only [upd, if_true, if_false, dd1, dd5] at hK2
      exact hK2
    refine ⟨?_, ?_⟩
    · refine SlotStep.below (RcR_up (B + 1) E w a b c (D : Int)) (rcI_up E (.agg #[.int .i64 a, .int .i64 b, .int .i64 c, .int .i64 (D : Int)]) z O (D : Int) F) ?_
      intro ys W hR hd K hK
      have dd6 : ys 6 = (.int .i64 F) := hd 6 (by kernel_rfl) (by decide)
      go_simp
      have hK2 := hK (.int .i64 F) _ (Below.refl _ _) rfl
      simp (config := { decide := true }) only [upd, if_true, if_false, dd6] at hK2
      exact hK2
    trivial
    · intro L ys W hL hI
      obtain ⟨hR, hj⟩ := hI
      have y7 : ys 7 = .int .i64 F := hj 7 (by decide) (hL 7 (by decide))
      obtain ⟨hw, GW, hP, hZ⟩ := hR
      rw [hB] at hw
      clear hj
      simp only [y7]
      have p0 := cell4_0 hP
      have p3 := cell4_3 hP
      have g0 := free4_0 hP
      obtain ⟨W2, hW2⟩ : ∃ W2, W.setCell ⟨E, 0, none⟩ (.int .i64 a') = W2 := ⟨_, rfl⟩
      have hw2 : Below B w W2 := by rw [← hW2]; exact hw.setCell (p := ⟨E, 0, none⟩) (show B ≤ E by omega) (.int .i64 a')
      have hP2 : W2.heap[E]? = some (.cells #[.int .i64 a', .int .i64 b, .int .i64 c, .int .i64 (D : Int)] 73) := by rw [← hW2]; exact set4_0 (x := .int .i64 a') hP
      have hZ2 : W2.heap[B + 1]? = some (.cells #[.int .i64 0, .int .i64 0, .int .i64 0, .int .i64 0, .int .i64 0, .int .i64 0] 25) := by rw [← hW2]; exact (set_other (by omega)).trans hZ
      have q0 := cell4_0 hP2
      have q1 := cell4_1 hP2
      have q2 := cell4_2 hP2
      have q3 := cell4_3 hP2
      have HW2 := Lib.hid hW2
      clear hP hZ hw hW2 GW
      go_upto_region 6 with fail
      rw [HW2.out]
      clear HW2 p0 p3 g0
      go_wp2_with fail
      refine (SZ.out _).mono ?_
      rintro e w3 ⟨rfl, hb3⟩
      have hw3 := hw2.trans (hb3.mono (by have := hw2.size; omega))
      have h3 : w3.heap[B + 1]? = some (.cells #[.int .i64 0, .int .i64 0, .int .i64 0, .int .i64 0, .int .i64 0, .int .i64 0] 25) := (hb3.block (B + 1) (Array.getElem?_eq_some_iff.1 hZ2).1).trans hZ2
      clear hb3 hw2 hP2 hZ2 q0 q1 q2 q3
      have r0 := cell6_0 h3
      have f0 := free6_0 h3
      have r1 := cell6_1 h3
      have f1 := free6_1 h3
      have r2 := cell6_2 h3
      have f2 := free6_2 h3
      have r3 := cell6_3 h3
      have f3 := free6_3 h3
      have r4 := cell6_4 h3
      have f4 := free6_4 h3
      have r5 := cell6_5 h3
      have f5 := free6_5 h3
      obtain ⟨U, hU⟩ : ∃ U0 : World, ((((((w3.setCell ⟨B + 1, 0, none⟩ (.int .i64 s0)).setCell ⟨B + 1, 1, none⟩ (.int .i64 s1)).setCell ⟨B + 1, 2, none⟩ (.int .i64 s2)).setCell ⟨B + 1, 3, none⟩ (.int .i64 s3)).setCell ⟨B + 1, 4, none⟩ (.int .i64 s4)).setCell ⟨B + 1, 5, none⟩ (.int .i64 s5)) = U0 := ⟨_, rfl⟩
      have hwU : Below B w U := by rw [← hU]; exact ((((((hw3.setCell (p := ⟨B + 1, 0, none⟩) (show B ≤ B + 1 by omega) (.int .i64 s0)).setCell (p := ⟨B + 1, 1, none⟩) (show B ≤ B + 1 by omega) (.int .i64 s1)).setCell (p := ⟨B + 1, 2, none⟩) (show B ≤ B + 1 by omega) (.int .i64 s2)).setCell (p := ⟨B + 1, 3, none⟩) (show B ≤ B + 1 by omega) (.int .i64 s3)).setCell (p := ⟨B + 1, 4, none⟩) (show B ≤ B + 1 by omega) (.int .i64 s4)).setCell (p := ⟨B + 1, 5, none⟩) (show B ≤ B + 1 by omega) (.int .i64 s5))
      have h3U : U.heap[B + 1]? = some (.cells #[.int .i64 s0, .int .i64 s1, .int .i64 s2, .int .i64 s3, .int .i64 s4, .int .i64 s5] 25) := by rw [← hU]; exact (set6_5 (x := .int .i64 s5) (set6_4 (x := .int .i64 s4) (set6_3 (x := .int .i64 s3) (set6_2 (x := .int .i64 s2) (set6_1 (x := .int .i64 s1) (set6_0 (x := .int .i64 s0) h3))))))
      have HU := Lib.hid hU
      clear hU
      cases ob with
      | true =>
        have e0 := hE4 rfl
        subst e0
        clear hE4 hE6
        dsimp only
        have z0 := cell6_0 h3U
        have fz0 := free6_0 h3U
        have z1 := cell6_1 h3U
        have fz1 := free6_1 h3U
        have z2 := cell6_2 h3U
        have fz2 := free6_2 h3U
        have z3 := cell6_3 h3U
        have fz3 := free6_3 h3U
        have z4 := cell6_4 h3U
        have fz4 := free6_4 h3U
        have z5 := cell6_5 h3U
        have fz5 := free6_5 h3U
        obtain ⟨U2, hU2⟩ : ∃ U0 : World, ((((((U.setCell ⟨B + 1, 0, none⟩ (.int .i64 s0)).setCell ⟨B + 1, 1, none⟩ (.int .i64 s1)).setCell ⟨B + 1, 2, none⟩ (.int .i64 s2)).setCell ⟨B + 1, 3, none⟩ (.int .i64 s3)).setCell ⟨B + 1, 4, none⟩ (.int .i64 s4)).setCell ⟨B + 1, 5, none⟩ (.int .i64 s5)) = U0 := ⟨_, rfl⟩
        have hwU2 : Below B w U2 := by rw [← hU2]; exact ((((((hwU.setCell (p := ⟨B + 1, 0, none⟩) (show B ≤ B + 1 by omega) (.int .i64 s0)).setCell (p := ⟨B + 1, 1, none⟩) (show B ≤ B + 1 by omega) (.int .i64 s1)).setCell (p := ⟨B + 1, 2, none⟩) (show B ≤ B + 1 by omega) (.int .i64 s2)).setCell (p := ⟨B + 1, 3, none⟩) (show B ≤ B + 1 by omega) (.int .i64 s3)).setCell (p := ⟨B + 1, 4, none⟩) (show B ≤ B + 1 by omega) (.int .i64 s4)).setCell (p := ⟨B + 1, 5, none⟩) (show B ≤ B + 1 by omega) (.int .i64 s5))
        have h3U2 : U2.heap[B + 1]? = some (.cells #[.int .i64 s0, .int .i64 s1, .int .i64 s2, .int .i64 s3, .int .i64 s4, .int .i64 s5] 25) := by rw [← hU2]; exact (set6_5 (x := .int .i64 s5) (set6_4 (x := .int .i64 s4) (set6_3 (x := .int .i64 s3) (set6_2 (x := .int .i64 s2) (set6_1 (x := .int .i64 s1) (set6_0 (x := .int .i64 s0) h3U))))))
        have HU2 := Lib.hid hU2
        clear hU2
        have zz0 := cell6_0 h3U2
        have zz1 := cell6_1 h3U2
        have zz2 := cell6_2 h3U2
        have zz3 := cell6_3 h3U2
        have zz4 := cell6_4 h3U2
        have zz5 := cell6_5 h3U2
        have HWU2 := Lib.hid hwU2
        clear h3U h3U2 hwU hwU2 h3 hw3
        go_upto_region 7 with fail
        rw [HU.out]
        clear r0 f0 r1 f1 r2 f2 r3 f3 r4 f4 r5 f5
        go_wp2
        rw [HU2.out]
        refine bodyPost_ret (v := .tuple #[.agg #[.int .i64 s0, .int .i64 s1, .int .i64 s2, .int .i64 s3, .int .i64 s4, .int .i64 s5], .int .i64 F, .int .i64 0]) (by simp [results, Tryz.results21, go_sem, zz0, zz1, zz2, zz3, zz4, zz5]) rfl ⟨rfl, by first | exact HWU2.out | (rw [hB]; exact HWU2.out)⟩
      | false =>
        obtain ⟨e0, e1, e2, e3, e4, e5, e6⟩ := hE6 rfl
        subst e0 e1 e2 e3 e4 e5 e6
        clear hE4 hE6
        dsimp only
        have z0 := cell6_0 h3U
        have fz0 := free6_0 h3U
        have z1 := cell6_1 h3U
        have fz1 := free6_1 h3U
        have z2 := cell6_2 h3U
        have fz2 := free6_2 h3U
        have z3 := cell6_3 h3U
        have fz3 := free6_3 h3U
        have z4 := cell6_4 h3U
        have fz4 := free6_4 h3U
        have z5 := cell6_5 h3U
        have fz5 := free6_5 h3U
        obtain ⟨U2, hU2⟩ : ∃ U0 : World, ((((((U.setCell ⟨B + 1, 0, none⟩ (.int .i64 0)).setCell ⟨B + 1, 1, none⟩ (.int .i64 0)).setCell ⟨B + 1, 2, none⟩ (.int .i64 0)).setCell ⟨B + 1, 3, none⟩ (.int .i64 0)).setCell ⟨B + 1, 4, none⟩ (.int .i64 0)).setCell ⟨B + 1, 5, none⟩ (.int .i64 0)) = U0 := ⟨_, rfl⟩
        have hwU2 : Below B w U2 := by rw [← hU2]; exact ((((((hwU.setCell (p := ⟨B + 1, 0, none⟩) (show B ≤ B + 1 by omega) (.int .i64 0)).setCell (p := ⟨B + 1, 1, none⟩) (show B ≤ B + 1 by omega) (.int .i64 0)).setCell (p := ⟨B + 1, 2, none⟩) (show B ≤ B + 1 by omega) (.int .i64 0)).setCell (p := ⟨B + 1, 3, none⟩) (show B ≤ B + 1 by omega) (.int .i64 0)).setCell (p := ⟨B + 1, 4, none⟩) (show B ≤ B + 1 by omega) (.int .i64 0)).setCell (p := ⟨B + 1, 5, none⟩) (show B ≤ B + 1 by omega) (.int .i64 0))
        have h3U2 : U2.heap[B + 1]? = some (.cells #[.int .i64 0, .int .i64 0, .int .i64 0, .int .i64 0, .int .i64 0, .int .i64 0] 25) := by rw [← hU2]; exact (set6_5 (x := .int .i64 0) (set6_4 (x := .int .i64 0) (set6_3 (x := .int .i64 0) (set6_2 (x := .int .i64 0) (set6_1 (x := .int .i64 0) (set6_0 (x := .int .i64 0) h3U))))))
        have HU2 := Lib.hid hU2
        clear hU2
        have zz0 := cell6_0 h3U2
        have zz1 := cell6_1 h3U2
        have zz2 := cell6_2 h3U2
        have zz3 := cell6_3 h3U2
        have zz4 := cell6_4 h3U2
        have zz5 := cell6_5 h3U2
        have HWU2 := Lib.hid hwU2
        clear h3U h3U2 hwU hwU2 h3 hw3
        go_upto_region 7 with fail
        rw [HU.out]
        clear r0 f0 r1 f1 r2 f2 r3 f3 r4 f4 r5 f5
        go_wp2
        rw [HU2.out]
        refine bodyPost_ret (v := .tuple #[.agg #[.int .i64 0, .int .i64 0, .int .i64 0, .int .i64 0, .int .i64 0, .int .i64 0], .int .i64 0, .int .i64 4]) (by simp [results, Tryz.results21, go_sem, zz0, zz1, zz2, zz3, zz4, zz5]) rfl ⟨rfl, by first | exact HWU2.out | (rw [hB]; exact HWU2.out)⟩
end Go.Proofs.YthdoadkdofgenaaGreatDoor
/- Sizes that are alike. -/
namespace Go.Proofs.YthdoadkdofgenaaGreatDoor
open Go Go.RowKit Go.Shelf

theorem eq_size (a b c d e f : Int) : ∀ W : World, (binOp .eql 25 (.agg #[.int .i64 a, .int .i64 b, .int .i64 c, .int .i64 d, .int .i64 e, .int .i64 f]) (.agg #[.int .i64 a, .int .i64 b, .int .i64 c, .int .i64 d, .int .i64 e, .int .i64 f])).run Tryz.prog W = .ok (.bool true) W := by
  intro W
  simp [go_sem]
theorem sz_eqv {x a b c x' a' b' c' : Int} {D D' : Nat} (h1 : 0 < D) (h2 : 0 < D') (hx : x * D' = x' * D) (ha : a * D' = a' * D) (hb : b * D' = b' * D) (hc : c * D' = c' * D) :
    szN x a b c D = szN x' a' b' c' D' ∧ szD x a b c D = szD x' a' b' c' D' ∧ szE a b c D = szE a' b' c' D' := by
  have ho := Iv.okB_eqv h1 h2 ha hb hc
  have hq := Iv.qn_eqv h1 h2 hx
  unfold szN szD szE
  rw [ho, hq.1, hq.2]
  exact ⟨rfl, rfl, rfl⟩
theorem cb_sz (x x' a a' b b' c c' k : Int) {d e : Nat} (hd : 0 < d) (he : 0 < e) :
    szN (Iv.cb x x' d e k) (Iv.cb a a' d e k) (Iv.cb b b' d e k) (Iv.cb c c' d e k) (Nat.lcm d e) = szN (x * e + k * x' * d) (a * e + k * a' * d) (b * e + k * b' * d) (c * e + k * c' * d) (d * e) ∧
    szD (Iv.cb x x' d e k) (Iv.cb a a' d e k) (Iv.cb b b' d e k) (Iv.cb c c' d e k) (Nat.lcm d e) = szD (x * e + k * x' * d) (a * e + k * a' * d) (b * e + k * b' * d) (c * e + k * c' * d) (d * e) ∧
    szE (Iv.cb a a' d e k) (Iv.cb b b' d e k) (Iv.cb c c' d e k) (Nat.lcm d e) = szE (a * e + k * a' * d) (b * e + k * b' * d) (c * e + k * c' * d) (d * e) :=
  sz_eqv (Nat.lcm_pos hd he) (Nat.mul_pos hd he) (Iv.cb_eqv hd he x x' k) (Iv.cb_eqv hd he a a' k) (Iv.cb_eqv hd he b b' k) (Iv.cb_eqv hd he c c' k)

end Go.Proofs.YthdoadkdofgenaaGreatDoor
