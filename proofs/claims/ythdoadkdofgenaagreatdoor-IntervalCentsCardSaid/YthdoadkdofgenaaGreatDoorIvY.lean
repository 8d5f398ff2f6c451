/- The reference's Power. -/
import Derived.Test.YthdoadkdofgenaaGreatDoorImYt
import Derived.Test.YthdoadkdofgenaaGreatDoorImYs
import Derived.Test.YthdoadkdofgenaaGreatDoorIvMathC
import Derived.Test.YthdoadkdofgenaaGreatDoorIvK
import Derived.Test.YthdoadkdofgenaaGreatDoorIvS
namespace Go.Proofs.YthdoadkdofgenaaGreatDoor
open Go Go.RowKit Go.Shelf

theorem pow_small {z : Int} (hz : z.natAbs < 10 ^ 6) {m : Nat} (hm : m ≤ 130) : ∃ N : Nat, N ≤ 781 ∧ 0 < N ∧ (z ^ m).natAbs < 10 ^ N := by
  refine ⟨6 * m + 1, by omega, by omega, ?_⟩
  rw [Int.natAbs_pow]
  have h1 : z.natAbs ^ m ≤ (10 ^ 6) ^ m := Nat.pow_le_pow_left (Nat.le_of_lt hz) m
  rw [← Nat.pow_mul] at h1
  exact Nat.lt_of_le_of_lt h1 (Nat.pow_lt_pow_right (by decide) (Nat.lt_succ_self _))
theorem pow_size {z : Int} (hz : z.natAbs < 10 ^ 6) {m : Nat} (hm : m ≤ 130) : (tz (z ^ m)).size ≤ 782 := by
  obtain ⟨N, h1, h2, h3⟩ := pow_small hz hm
  have := len_tz h3 h2
  omega
theorem pow_cn {z : Int} (hz : z.natAbs < 10 ^ 6) {m : Nat} (hm : m ≤ 130) : Cn (tz (z ^ m)) := by
  obtain ⟨N, h1, h2, h3⟩ := pow_small hz hm
  exact cn_tz h3 h2 (by omega)
theorem two_pow_le {j : Nat} (h : j ≤ 6) : 2 ^ j ≤ 64 := Nat.pow_le_pow_right (n := 2) (by decide) h

set_option maxRecDepth 100000 in
set_option maxHeartbeats 2000000 in
theorem rpower_c (s : ByteArray) (hs : Cn s) (hz : (iv s).natAbs < 10 ^ 6) (n : Nat) (hn : n ≤ 60) (w : World) (G : Gi w) :
    Calls Tryz.prog 57 #[.string s, .int .i64 n] w fun e w' => e = .returned (.string (tz (iv s ^ n))) ∧ Below w.heap.size w w' := by
  obtain ⟨z, hzz⟩ : ∃ z, iv s = z := ⟨_, rfl⟩
  rw [hzz] at hz ⊢
  have hst : s = tz (z ^ 1) := by rw [Int.pow_succ, Int.pow_zero, Int.one_mul, ← hzz]; exact (tz_iv hs.canon).symm
  have MM := Lib.hid (fun (p q : Nat) (hp : p ≤ 130) (hq : q ≤ 130) W G => by
    have h := rmul_c (tz (z ^ p)) (tz (z ^ q)) (pow_cn hz hp) (pow_cn hz hq) (by have := pow_size hz hp; omega) (by have := pow_size hz hq; omega) W G
    rw [iv_tz, iv_tz, ← Int.pow_add] at h
    exact h)
  have H1 := Lib.hid (show (ByteArray.mk #[49]) = tz (z ^ 0) by rw [Int.pow_zero]; exact ext_bytes (show Lib.itoa 1 = [49] by rw [Im.itoa_nonneg (by decide)]; exact Im.dec_small (by decide)).symm)
  have HS := Lib.hid hst
  clear hs hz hzz hst
  obtain ⟨D, hD⟩ : ∃ D, w.heap.size = D := ⟨_, rfl⟩
  go_enter Tryz.func57, Tryz.ntmps57
  go_wp2_with fail
  go_loopw [0, 1, 5] (fun b c o wr => ∃ j : Nat, j ≤ 6 ∧ c = .int .i64 ((n / 2 ^ j : Nat) : Int) ∧ b = .string (tz (z ^ (2 ^ j))) ∧ o = .string (tz (z ^ (n % 2 ^ j))) ∧ Below D w wr) (fun _ c _ _ => (intOf c).toNat)
  case atStart => exact ⟨0, by decide, by rw [Nat.pow_zero, Nat.div_one], by rw [HS.out, Nat.pow_zero], by rw [Nat.pow_zero, Nat.mod_one, ← H1.out], Below.refl _ _⟩
  case round =>
    obtain ⟨j, hj, rfl, rfl, rfl, hw⟩ := hrel
    have hpj := two_pow_le hj
    have hp0 : 0 < 2 ^ j := Nat.pow_pos (by decide)
    have hmod := Nat.mod_lt n hp0
    have GW := G.below (hD ▸ hw)
    by_cases h0 : n / 2 ^ j = 0
    · have hlt : n < 2 ^ j := by
        rcases (Nat.div_eq_zero_iff).1 h0 with h | h
        · omega
        · exact h
      rw [h0, Nat.mod_eq_of_lt hlt]
      have hi : ¬ (0 : Int) < ((0 : Nat) : Int) := by decide
      clear hlt hmod hp0 hpj h0
      go_wp2
      go_ret
      exact ⟨rfl, by first | exact hw | (rw [hD]; exact hw)⟩
    · have hj6 : j < 6 := by
        rcases Nat.lt_or_ge j 6 with h | h
        · exact h
        · exfalso
          obtain rfl : j = 6 := by omega
          apply h0
          exact Nat.div_eq_of_lt (by omega)
      have hsplit : n % 2 ^ (j + 1) = n % 2 ^ j + 2 ^ j * (n / 2 ^ j % 2) := Nat.mod_pow_succ
      have hdiv : n / 2 ^ (j + 1) = n / 2 ^ j / 2 := by rw [Nat.pow_succ, Nat.div_div_eq_div_mul]
      have hdbl : 2 ^ (j + 1) = 2 ^ j + 2 ^ j := by rw [Nat.pow_succ]; omega
      have M2 := Lib.hid (MM.out (2 ^ j) (2 ^ j) (by omega) (by omega))
      have M1 := Lib.hid (MM.out (n % 2 ^ j) (2 ^ j) (by omega) (by omega))
      have hqle : n / 2 ^ j ≤ 60 := Nat.le_trans (Nat.div_le_self _ _) hn
      obtain ⟨q, hq⟩ : ∃ q, n / 2 ^ j = q := ⟨_, rfl⟩
      rw [hq] at hsplit hdiv hqle h0 ⊢
      rw [← hdbl] at M2
      have HDIV := Lib.hid hdiv
      have hi : (0 : Int) < (q : Int) := by omega
      have hq2 : (q : Int).tdiv 2 = ((q / 2 : Nat) : Int) := by rw [Int.tdiv_eq_ediv_of_nonneg (by omega)]; omega
      obtain ⟨q2, hqq⟩ : ∃ q2, q / 2 = q2 := ⟨_, rfl⟩
      rw [hqq] at hq2 HDIV
      have hq2l : q2 ≤ 60 := by omega
      have hq2s : q2 < q := by omega
      by_cases ho : q % 2 = 1
      · have hr : (q : Int).tmod 2 = 1 := by rw [Int.tmod_eq_emod_of_nonneg (by omega)]; omega
        rw [ho, Nat.mul_one] at hsplit
        have HSP := Lib.hid hsplit
        rw [← hsplit] at M1
        generalize tz (z ^ (n % 2 ^ j)) = O1 at *
        generalize tz (z ^ 2 ^ j) = B1 at *
        clear hsplit hdiv hdbl hq hmod hp0 hpj ho hqq
        go_wp2_with fail
        refine (M1.out _ GW).mono ?_
        rintro e w3 ⟨rfl, b3⟩
        have hw3 := hw.trans (b3.mono (by have := hw.size; omega))
        go_wp2_with fail
        refine (M2.out _ (G.below (hD ▸ hw3))).mono ?_
        rintro e w4 ⟨rfl, b4⟩
        have hw4 := hw3.trans (b4.mono (by have := hw3.size; omega))
        go_wp2_with fail
        go_roundw
        case rel => exact ⟨j + 1, by omega, by rw [HDIV.out], rfl, rfl, hw4⟩
        case measure => simp [intOf]; omega
      · have hr : (q : Int).tmod 2 = 0 := by rw [Int.tmod_eq_emod_of_nonneg (by omega)]; omega
        have HSP := Lib.hid (show n % 2 ^ (j + 1) = n % 2 ^ j by rw [hsplit, show q % 2 = 0 by omega, Nat.mul_zero]; rfl)
        generalize hO : tz (z ^ (n % 2 ^ j)) = O1 at *
        have HO := Lib.hid hO
        generalize tz (z ^ 2 ^ j) = B1 at *
        clear hsplit hdiv hdbl hq hmod hp0 hpj ho hqq hO
        go_wp2_with fail
        refine (M2.out _ GW).mono ?_
        rintro e w4 ⟨rfl, b4⟩
        have hw4 := hw.trans (b4.mono (by have := hw.size; omega))
        go_wp2_with fail
        go_roundw
        case rel => exact ⟨j + 1, by omega, by rw [HDIV.out], rfl, by rw [HSP.out, HO.out], hw4⟩
        case measure => simp [intOf]; omega

end Go.Proofs.YthdoadkdofgenaaGreatDoor
/- Contracts of the reference's times, nearest and Cents. -/
namespace Go.Proofs.YthdoadkdofgenaaGreatDoor
open Go Go.RowKit Go.Shelf

theorem e60 : (10 : Nat) ^ 60 = 1000000000000000000000000000000000000000000000000000000000000 := by decide
theorem tzc {z : Int} (h : z.natAbs < 10 ^ 60) : Cn (tz z) ∧ (tz z).size ≤ 61 := ⟨cn_tz h (by decide) (by decide), len_tz h (by decide)⟩
theorem rtimes_c (n z : Int) (hn : -9223372036854775808 ≤ n ∧ n ≤ 9223372036854775807) (hz : z.natAbs < 10 ^ 60) (w : World) (G : Gi w) :
    Calls Tryz.prog 59 #[.int .i64 n, .string (tz z)] w fun e w' => e = .returned (.string (tz (n * z))) ∧ Below w.heap.size w w' := by
  have OF := Lib.hid (fun W G => rof_any n hn.1 hn.2 W G)
  have hn60 : n.natAbs < 10 ^ 60 := by rw [e60]; omega
  have m1 := fun (W : World) (G : Gi W) => rmul_c (tz n) (tz z) (tzc hn60).1 (tzc hz).1 (by have := (tzc hn60).2; omega) (by have := (tzc hz).2; omega) W G
  simp only [iv_tz] at m1
  have M1 := Lib.hid m1
  clear m1 hn60 hn hz
  obtain ⟨D, hD⟩ : ∃ D, w.heap.size = D := ⟨_, rfl⟩
  go_enter Tryz.func59, Tryz.ntmps59
  go_wp2_with fail
  refine (OF.out _ G).mono ?_
  rintro e w1 ⟨rfl, hb1⟩
  have G1 := G.below hb1
  go_wp2_with fail
  refine (M1.out _ G1).mono ?_
  rintro e w2 ⟨rfl, hb2⟩
  have HW := Lib.hid (hb1.trans (hb2.mono hb1.size))
  clear hb1 hb2
  go_wp2
  go_ret
  exact ⟨rfl, by first | exact HW.out | (rw [← hD]; exact HW.out)⟩
theorem rnearest_c (x : Int) (D : Nat) (hx : -30000000000000000000000000000000000 ≤ x ∧ x ≤ 30000000000000000000000000000000000) (hd1 : 0 < D) (hd2 : D ≤ 240) (w : World) (G : Gi w) :
    Calls Tryz.prog 62 #[.string (tz x), .string (tz Iv.L2), .int .i64 (D : Int)] w fun e w' => e = .returned (.string (tz (Iv.cn x D))) ∧ Below w.heap.size w w' := by
  have hU : Iv.L2 = 1000000000000000000000000000000 := rfl
  have T1 := Lib.hid (fun W G => rtimes_c (D : Int) Iv.L2 (by omega) (by rw [e60, hU]; decide) W G)
  obtain ⟨O, hO⟩ : ∃ O : Int, (D : Int) * Iv.L2 = O := ⟨_, rfl⟩
  have hOb : 0 < O ∧ O ≤ 240000000000000000000000000000000 := by rw [← hO]; unfold Iv.L2; omega
  have ecn : Iv.cn x D = (240000 * x + O) / (2 * O) := by rw [← hO]; rfl
  rw [hO] at T1
  have T2 := Lib.hid (fun W G => rtimes_c 240000 x (by decide) (by rw [e60]; omega) W G)
  have T3 := Lib.hid (fun W G => rtimes_c 2 O (by decide) (by rw [e60]; omega) W G)
  have b2 : (240000 * x).natAbs < 10 ^ 60 := by rw [e60]; omega
  have bO : O.natAbs < 10 ^ 60 := by rw [e60]; omega
  have b3 : (240000 * x + O).natAbs < 10 ^ 60 := by rw [e60]; omega
  have b4 : (2 * O).natAbs < 10 ^ 60 := by rw [e60]; omega
  have m1 := fun (W : World) (G : Gi W) => radd_c (tz (240000 * x)) (tz O) (tzc b2).1 (tzc bO).1 (by have := (tzc b2).2; omega) (by have := (tzc bO).2; omega) W G
  simp only [iv_tz] at m1
  have m2 := fun (W : World) (G : Gi W) => rdiv_c (tz (240000 * x + O)) (tz (2 * O)) (tzc b3).1 (tzc b4).1 (by have := (tzc b3).2; omega) (by have := (tzc b4).2; omega) (by rw [iv_tz]; omega) W G
  simp only [iv_tz, dv_floor (240000 * x + O) (2 * O) (by omega)] at m2
  rw [← ecn] at m2
  have M1 := Lib.hid m1
  have M2 := Lib.hid m2
  clear m1 m2 b2 bO b3 b4 ecn hOb hO hU hx hd1 hd2
  generalize tz (240000 * x + O) = s1 at *
  generalize tz (2 * O) = s2 at *
  generalize tz (240000 * x) = s3 at *
  generalize tz (dvR (240000 * x + O) (2 * O)) = s5 at *
  generalize tz (Iv.cn x D) = s6 at *
  generalize tz O = s4 at *
  generalize tz x = s7 at *
  generalize tz Iv.L2 = s8 at *
  obtain ⟨E, hE⟩ : ∃ E, w.heap.size = E := ⟨_, rfl⟩
  go_enter Tryz.func62, Tryz.ntmps62
  go_wp2_with fail
  refine (T1.out _ G).mono ?_
  rintro e w1 ⟨rfl, hb1⟩
  have hw1 := hb1
  have G1 := G.below hw1
  go_wp2_with fail
  refine (T2.out _ G1).mono ?_
  rintro e w2 ⟨rfl, hb2⟩
  have hw2 := hw1.trans (hb2.mono hw1.size)
  have G2 := G.below hw2
  go_wp2_with fail
  refine (M1.out _ G2).mono ?_
  rintro e w3 ⟨rfl, hb3⟩
  have hw3 := hw2.trans (hb3.mono hw2.size)
  have G3 := G.below hw3
  go_wp2_with fail
  refine (T3.out _ G3).mono ?_
  rintro e w4 ⟨rfl, hb4⟩
  have hw4 := hw3.trans (hb4.mono hw3.size)
  have G4 := G.below hw4
  go_wp2_with fail
  refine (M2.out _ G4).mono ?_
  rintro e w5 ⟨rfl, hb5⟩
  have hw5 := hw4.trans (hb5.mono hw4.size)
  have G5 := G.below hw5
  have HW := Lib.hid hw5
  clear hw1 hw2 hw3 hw4 hw5 hb1 hb2 hb3 hb4 hb5
  go_wp2
  go_ret
  exact ⟨rfl, by first | exact HW.out | (rw [← hE]; exact HW.out)⟩

def ceI (D : Nat) (d : Int) (lo hi un A B : ByteArray) : Nat → Value → World → Prop
  | 0, v, _ => v = .string lo
  | 1, v, _ => v = .string un
  | 2, v, _ => v = .pointer (some ⟨D, 3, none⟩)
  | 3, v, _ => v = .int .i64 d
  | 4, v, _ => v = .string A
  | 5, v, _ => v = .string hi
  | 6, v, _ => v = .string un
  | 7, v, _ => v = .pointer (some ⟨D, 3, none⟩)
  | 8, v, _ => v = .int .i64 d
  | 9, v, _ => v = .string B
  | 10, v, _ => v = .string A
  | 11, v, _ => v = .string B
  | _, _, _ => True
theorem ceI_up (D : Nat) (d : Int) (lo hi un A B : ByteArray) : ∀ (j : Nat) (v : Value) (X Y : World), Below X.heap.size X Y → ceI D d lo hi un A B j v X → ceI D d lo hi un A B j v Y
  | 0, _, _, _, _, h => h
  | 1, _, _, _, _, h => h
  | 2, _, _, _, _, h => h
  | 3, _, _, _, _, h => h
  | 4, _, _, _, _, h => h
  | 5, _, _, _, _, h => h
  | 6, _, _, _, _, h => h
  | 7, _, _, _, _, h => h
  | 8, _, _, _, _, h => h
  | 9, _, _, _, _, h => h
  | 10, _, _, _, _, h => h
  | 11, _, _, _, _, h => h
  | _ + 12, _, _, _, _, _ => trivial
def CeR (E : Nat) (w : World) (a b c d : Int) (A : World) : Prop := Below w.heap.size w A ∧ Gi A ∧ A.heap[E]? = some (.cells #[.int .i64 a, .int .i64 b, .int .i64 c, .int .i64 d] 29)
theorem CeR_up (E : Nat) (w : World) (a b c d : Int) (A B : World) (hb : Below A.heap.size A B) (h : CeR E w a b c d A) : CeR E w a b c d B :=
  ⟨h.1.trans (hb.mono h.1.size), h.2.1.below hb, (hb.block E (Array.getElem?_eq_some_iff.1 h.2.2).1).trans h.2.2⟩
theorem ten_iv : iv ⟨#[49, 48]⟩ = 10 := by decide +kernel
theorem ten_cn : Cn ⟨#[49, 48]⟩ := ⟨by decide +kernel, by decide⟩
theorem small_c (z : Int) (h : z.natAbs < 10 ^ 18) (w : World) : Calls Tryz.prog 63 #[.string (tz z)] w fun e w' => e = .returned (.tuple #[.int .i64 z, .bool true]) ∧ Below w.heap.size w w' := by
  have hb := small_tz h
  have hl := len_tz h (by decide)
  have hc := canon_tz z
  have hv := (small_iv hb).1
  have := rsmall_any (tz z) (by omega) hc w
  rw [hv, iv_tz, hb] at this
  refine this.mono ?_
  rintro e w' ⟨rfl, h2⟩
  exact ⟨rfl, h2⟩
/-- The bounds of the logarithm. -/
def loC (a b c : Int) : Int := Iv.lg a b c + (min b 0 + min c 0)
def hiC (a b c : Int) : Int := Iv.lg a b c + (max b 0 + max c 0)
set_option maxRecDepth 100000 in
set_option maxHeartbeats 4000000 in
theorem rcents_any (a b c : Int) (d : Nat) (w : World) (G : Gi w) (ha : -6000 ≤ a ∧ a ≤ 6000) (hb : -6000 ≤ b ∧ b ≤ 6000) (hc : -6000 ≤ c ∧ c ≤ 6000) (hd1 : 0 < d) (hd2 : d ≤ 240) :
    Calls Tryz.prog 36 #[.agg #[.int .i64 a, .int .i64 b, .int .i64 c, .int .i64 (d : Int)]] w fun e w' => e = .returned (.tuple #[.int .i64 (Iv.cn (loC a b c) d), .bool ((tz (Iv.cn (loC a b c) d)).toList == (tz (Iv.cn (hiC a b c) d)).toList)]) ∧ Below w.heap.size w w' := by
  have hm1 : -12000 ≤ min b 0 + min c 0 ∧ min b 0 + min c 0 ≤ 0 := by omega
  have hm2 : 0 ≤ max b 0 + max c 0 ∧ max b 0 + max c 0 ≤ 12000 := by omega
  have hmb : -6000 ≤ min b 0 ∧ min b 0 ≤ 0 := by omega
  have hmc : -6000 ≤ min c 0 ∧ min c 0 ≤ 0 := by omega
  have hMb : 0 ≤ max b 0 ∧ max b 0 ≤ 6000 := by omega
  have hMc : 0 ≤ max c 0 ∧ max c 0 ≤ 6000 := by omega
  have hz : -29500000000000000000000000000000000 ≤ Iv.lg a b c ∧ Iv.lg a b c ≤ 29500000000000000000000000000000000 := by unfold Iv.lg Iv.L2 Iv.L3 Iv.L5; omega
  have hlo : -30000000000000000000000000000000000 ≤ loC a b c ∧ loC a b c ≤ 30000000000000000000000000000000000 := by unfold loC; omega
  have hhi : -30000000000000000000000000000000000 ≤ hiC a b c ∧ hiC a b c ≤ 30000000000000000000000000000000000 := by unfold hiC; omega
  have NL := Lib.hid (fun W G => rnearest_c (loC a b c) d hlo hd1 hd2 W G)
  have NH := Lib.hid (fun W G => rnearest_c (hiC a b c) d hhi hd1 hd2 W G)
  have SM := Lib.hid (fun W => small_c (Iv.cn (loC a b c) d) (cn_small hlo hd1 hd2) W)
  have p1 := fun (W : World) (G : Gi W) => rpower_c ⟨#[49, 48]⟩ ten_cn (by rw [ten_iv]; decide) 30 (by decide) W G
  rw [ten_iv, show (10 : Int) ^ 30 = Iv.L2 by unfold Iv.L2; decide] at p1
  have PW := Lib.hid (fun (W : World) (G : Gi W) => show Calls Tryz.prog 57 #[.string ⟨#[49, 48]⟩, .int .i64 30] W fun e w' => e = .returned (.string (tz Iv.L2)) ∧ Below W.heap.size W w' from p1 W G)
  have TA := Lib.hid (fun W G => rtimes_c a Iv.L2 (by omega) (by rw [e60]; decide) W G)
  have e3 : tz Iv.L3 = ⟨#[49, 53, 56, 52, 57, 54, 50, 53, 48, 48, 55, 50, 49, 49, 53, 54, 49, 56, 49, 52, 53, 51, 55, 51, 56, 57, 52, 51, 57, 52, 55]⟩ := by rw [← con3_iv]; exact tz_iv con3_cn.canon
  have e5 : tz Iv.L5 = ⟨#[50, 51, 50, 49, 57, 50, 56, 48, 57, 52, 56, 56, 55, 51, 54, 50, 51, 52, 55, 56, 55, 48, 51, 49, 57, 52, 50, 57, 52, 56, 57]⟩ := by rw [← con5_iv]; exact tz_iv con5_cn.canon
  have TB := Lib.hid (fun W G => rtimes_c b Iv.L3 (by omega) (by rw [e60]; decide) W G)
  have TC := Lib.hid (fun W G => rtimes_c c Iv.L5 (by omega) (by rw [e60]; decide) W G)
  rw [e3] at TB
  rw [e5] at TC
  have f1 : (a * Iv.L2).natAbs < 10 ^ 60 := by rw [e60]; unfold Iv.L2; omega
  have f2 : (b * Iv.L3).natAbs < 10 ^ 60 := by rw [e60]; unfold Iv.L3; omega
  have f3 : (c * Iv.L5).natAbs < 10 ^ 60 := by rw [e60]; unfold Iv.L5; omega
  have f4 : (a * Iv.L2 + b * Iv.L3).natAbs < 10 ^ 60 := by rw [e60]; unfold Iv.L2 Iv.L3; omega
  have f5 : (Iv.lg a b c).natAbs < 10 ^ 60 := by rw [e60]; omega
  have f6 : (max b 0 + max c 0).natAbs < 10 ^ 60 := by rw [e60]; omega
  have f7 : (min b 0 + min c 0).natAbs < 10 ^ 60 := by rw [e60]; omega
  have ad := fun (x y : Int) (hx : x.natAbs < 10 ^ 60) (hy : y.natAbs < 10 ^ 60) (W : World) (G : Gi W) => radd_c (tz x) (tz y) (tzc hx).1 (tzc hy).1 (by have := (tzc hx).2; omega) (by have := (tzc hy).2; omega) W G
  simp only [iv_tz] at ad
  have A1 := Lib.hid (fun W G => ad (a * Iv.L2) (b * Iv.L3) f1 f2 W G)
  have A2 := Lib.hid (fun W G => ad (a * Iv.L2 + b * Iv.L3) (c * Iv.L5) f4 f3 W G)
  have A3 := Lib.hid (fun W G => ad (Iv.lg a b c) (max b 0 + max c 0) f5 f6 W G)
  have A4 := Lib.hid (fun W G => ad (Iv.lg a b c) (min b 0 + min c 0) f5 f7 W G)
  have O3 := Lib.hid (fun W G => rof_any (max b 0 + max c 0) (by omega) (by omega) W G)
  have O4 := Lib.hid (fun W G => rof_any (min b 0 + min c 0) (by omega) (by omega) W G)
  rw [show a * Iv.L2 + b * Iv.L3 + c * Iv.L5 = Iv.lg a b c from rfl] at A2
  rw [show Iv.lg a b c + (max b 0 + max c 0) = hiC a b c from rfl] at A3
  rw [show Iv.lg a b c + (min b 0 + min c 0) = loC a b c from rfl] at A4
  clear f1 f2 f3 f4 f5 f6 f7 ad hlo hhi hz p1 e3 e5 ha hb hc hd1 hd2
  generalize Iv.cn (loC a b c) d = ca at *
  generalize tz ca = sa at *
  generalize tz (Iv.cn (hiC a b c) d) = sb at *
  generalize tz (loC a b c) = slo at *
  generalize tz (hiC a b c) = shi at *
  generalize tz (Iv.lg a b c) = slg at *
  generalize tz (a * Iv.L2 + b * Iv.L3) = s12 at *
  generalize tz (a * Iv.L2) = s1 at *
  generalize tz (b * Iv.L3) = s2 at *
  generalize tz (c * Iv.L5) = s3 at *
  generalize tz (max b 0 + max c 0) = s6 at *
  generalize tz (min b 0 + min c 0) = s7 at *
  generalize tz Iv.L2 = un at *
  obtain ⟨D, hD⟩ : ∃ D, w.heap.size = D := ⟨_, rfl⟩
  have G0 : Gi (w.alloc (.cells #[.int .i64 a, .int .i64 b, .int .i64 c, .int .i64 (d : Int)] 29)) := G.below ((Below.refl _ w).alloc (Nat.le_refl _) _)
  have hR0 : CeR D w a b c (d : Int) (w.alloc (.cells #[.int .i64 a, .int .i64 b, .int .i64 c, .int .i64 (d : Int)] 29)) := ⟨(Below.refl _ w).alloc (Nat.le_refl _) _, G0, heap_new hD.symm⟩
  go_enter Tryz.func36, Tryz.ntmps36
  have k0_0 := cell4_0 hR0.2.2
  have k0_1 := cell4_1 hR0.2.2
  have k0_2 := cell4_2 hR0.2.2
  have k0_3 := cell4_3 hR0.2.2
  go_wp2_with fail
  refine (PW.out _ hR0.2.1).mono ?_
  rintro e w1 ⟨rfl, hb1⟩
  have hR1 := CeR_up D w a b c (d : Int) _ _ hb1 hR0
  clear k0_0 k0_1 k0_2 k0_3 hR0 hb1
  clear G0
  have k1_0 := cell4_0 hR1.2.2
  have k1_1 := cell4_1 hR1.2.2
  have k1_2 := cell4_2 hR1.2.2
  have k1_3 := cell4_3 hR1.2.2
  go_wp2_with fail
  refine (TA.out _ hR1.2.1).mono ?_
  rintro e w2 ⟨rfl, hb2⟩
  have hR2 := CeR_up D w a b c (d : Int) _ _ hb2 hR1
  clear k1_0 k1_1 k1_2 k1_3 hR1 hb2
  have k2_0 := cell4_0 hR2.2.2
  have k2_1 := cell4_1 hR2.2.2
  have k2_2 := cell4_2 hR2.2.2
  have k2_3 := cell4_3 hR2.2.2
  go_wp2_with fail
  refine (TB.out _ hR2.2.1).mono ?_
  rintro e w3 ⟨rfl, hb3⟩
  have hR3 := CeR_up D w a b c (d : Int) _ _ hb3 hR2
  clear k2_0 k2_1 k2_2 k2_3 hR2 hb3
  have k3_0 := cell4_0 hR3.2.2
  have k3_1 := cell4_1 hR3.2.2
  have k3_2 := cell4_2 hR3.2.2
  have k3_3 := cell4_3 hR3.2.2
  go_wp2_with fail
  refine (A1.out _ hR3.2.1).mono ?_
  rintro e w4 ⟨rfl, hb4⟩
  have hR4 := CeR_up D w a b c (d : Int) _ _ hb4 hR3
  clear k3_0 k3_1 k3_2 k3_3 hR3 hb4
  have k4_0 := cell4_0 hR4.2.2
  have k4_1 := cell4_1 hR4.2.2
  have k4_2 := cell4_2 hR4.2.2
  have k4_3 := cell4_3 hR4.2.2
  go_wp2_with fail
  refine (TC.out _ hR4.2.1).mono ?_
  rintro e w5 ⟨rfl, hb5⟩
  have hR5 := CeR_up D w a b c (d : Int) _ _ hb5 hR4
  clear k4_0 k4_1 k4_2 k4_3 hR4 hb5
  have k5_0 := cell4_0 hR5.2.2
  have k5_1 := cell4_1 hR5.2.2
  have k5_2 := cell4_2 hR5.2.2
  have k5_3 := cell4_3 hR5.2.2
  go_wp2_with fail
  refine (A2.out _ hR5.2.1).mono ?_
  rintro e w6 ⟨rfl, hb6⟩
  have hR6 := CeR_up D w a b c (d : Int) _ _ hb6 hR5
  clear k5_0 k5_1 k5_2 k5_3 hR5 hb6
  have k6_0 := cell4_0 hR6.2.2
  have k6_1 := cell4_1 hR6.2.2
  have k6_2 := cell4_2 hR6.2.2
  have k6_3 := cell4_3 hR6.2.2
  go_wp2_with fail
  refine (O3.out _ hR6.2.1).mono ?_
  rintro e w7 ⟨rfl, hb7⟩
  have hR7 := CeR_up D w a b c (d : Int) _ _ hb7 hR6
  clear k6_0 k6_1 k6_2 k6_3 hR6 hb7
  have k7_0 := cell4_0 hR7.2.2
  have k7_1 := cell4_1 hR7.2.2
  have k7_2 := cell4_2 hR7.2.2
  have k7_3 := cell4_3 hR7.2.2
  go_wp2_with fail
  refine (A3.out _ hR7.2.1).mono ?_
  rintro e w8 ⟨rfl, hb8⟩
  have hR8 := CeR_up D w a b c (d : Int) _ _ hb8 hR7
  clear k7_0 k7_1 k7_2 k7_3 hR7 hb8
  have k8_0 := cell4_0 hR8.2.2
  have k8_1 := cell4_1 hR8.2.2
  have k8_2 := cell4_2 hR8.2.2
  have k8_3 := cell4_3 hR8.2.2
  go_wp2_with fail
  refine (O4.out _ hR8.2.1).mono ?_
  rintro e w9 ⟨rfl, hb9⟩
  have hR9 := CeR_up D w a b c (d : Int) _ _ hb9 hR8
  clear k8_0 k8_1 k8_2 k8_3 hR8 hb9
  have k9_0 := cell4_0 hR9.2.2
  have k9_1 := cell4_1 hR9.2.2
  have k9_2 := cell4_2 hR9.2.2
  have k9_3 := cell4_3 hR9.2.2
  go_wp2_with fail
  refine (A4.out _ hR9.2.1).mono ?_
  rintro e w10 ⟨rfl, hb10⟩
  have hR10 := CeR_up D w a b c (d : Int) _ _ hb10 hR9
  clear k9_0 k9_1 k9_2 k9_3 hR9 hb10
  have HR := Lib.hid hR10
  clear hR10
  go_wp2_with fail
  refine wp_region_slots_at rfl rfl (fun base ys => (((((((((((base.set 57 (ys 0)).set 58 (ys 1)).set 59 (ys 2)).set 60 (ys 3)).set 61 (ys 4)).set 62 (ys 5)).set 63 (ys 6)).set 64 (ys 7)).set 65 (ys 8)).set 66 (ys 9)).set 9 (ys 10)).set 10 (ys 11)) (BelowI _ (CeR D w a b c (d : Int)) (ceI D (d : Int) slo shi un sa sb)) (fun _ => undef) (by kernel_rfl) (below_start ((CeR_up D w a b c (d : Int)) w10 w10.drew ⟨rfl, rfl, rfl, Nat.le_refl _, fun _ _ => rfl⟩ HR.out)) ?h
  case h =>
    intro F hF
    simp only [List.set_cons_succ, List.set_cons_zero] at hF
    subst hF
    refine ⟨rfl, ?_, ?_⟩
    refine ⟨?_, ?_⟩
    · refine SlotStep.below (CeR_up D w a b c (d : Int)) (ceI_up D (d : Int) slo shi un sa sb) ?_
      intro ys W hR hd K hK
      go_simp
      have hK2 := hK (.string slo) _ (Below.refl _ _) rfl
      simp (config := { decide := true }) only [upd, if_true, if_false] at hK2
      exact hK2
    refine ⟨?_, ?_⟩
    · refine SlotStep.below (CeR_up D w a b c (d : Int)) (ceI_up D (d : Int) slo shi un sa sb) ?_
      intro ys W hR hd K hK
      go_simp
      have hK2 := hK (.string un) _ (Below.refl _ _) rfl
      simp (config := { decide := true }) only [upd, if_true, if_false] at hK2
      exact hK2
    refine ⟨?_, ?_⟩
    · refine SlotStep.below (CeR_up D w a b c (d : Int)) (ceI_up D (d : Int) slo shi un sa sb) ?_
      intro ys W hR hd K hK
      go_simp
      have hK2 := hK (.pointer (some ⟨D, 3, none⟩)) _ (Below.refl _ _) rfl
      simp (config := { decide := true }) only [upd, if_true, if_false] at hK2
      exact hK2
    refine ⟨?_, ?_⟩
    · refine SlotStep.below (CeR_up D w a b c (d : Int)) (ceI_up D (d : Int) slo shi un sa sb) ?_
      intro ys W hR hd K hK
      have dd2 : ys 2 = (.pointer (some ⟨D, 3, none⟩)) := hd 2 (by kernel_rfl) (by decide)
      have c3 := cell4_3 hR.2.2
      go_simp
      have hK2 := hK (.int .i64 (d : Int)) _ (Below.refl _ _) rfl
      simp (config := { decide := true }) only [upd, if_true, if_false, dd2] at hK2
      exact hK2
    refine ⟨?_, ?_⟩
    · refine SlotStep.below (CeR_up D w a b c (d : Int)) (ceI_up D (d : Int) slo shi un sa sb) ?_
      intro ys W hR hd K hK
      have dd0 : ys 0 = (.string slo) := hd 0 (by kernel_rfl) (by decide)
      have dd1 : ys 1 = (.string un) := hd 1 (by kernel_rfl) (by decide)
      have dd3 : ys 3 = (.int .i64 (d : Int)) := hd 3 (by kernel_rfl) (by decide)
      go_simp
      refine (NL.out W hR.2.1).mono ?_
      rintro e w5 ⟨rfl, hb5⟩
      have hK2 := hK (.string sa) _ hb5 rfl
      simp (config := { decide := true }) only [upd, if_true, if_false, dd0, dd1, dd3] at hK2
      exact hK2
    refine ⟨?_, ?_⟩
    · refine SlotStep.below (CeR_up D w a b c (d : Int)) (ceI_up D (d : Int) slo shi un sa sb) ?_
      intro ys W hR hd K hK
      go_simp
      have hK2 := hK (.string shi) _ (Below.refl _ _) rfl
      simp (config := { decide := true }) only [upd, if_true, if_false] at hK2
      exact hK2
    refine ⟨?_, ?_⟩
    · refine SlotStep.below (CeR_up D w a b c (d : Int)) (ceI_up D (d : Int) slo shi un sa sb) ?_
      intro ys W hR hd K hK
      go_simp
      have hK2 := hK (.string un) _ (Below.refl _ _) rfl
      simp (config := { decide := true }) only [upd, if_true, if_false] at hK2
      exact hK2
    refine ⟨?_, ?_⟩
    · refine SlotStep.below (CeR_up D w a b c (d : Int)) (ceI_up D (d : Int) slo shi un sa sb) ?_
      intro ys W hR hd K hK
      go_simp
      have hK2 := hK (.pointer (some ⟨D, 3, none⟩)) _ (Below.refl _ _) rfl
      simp (config := { decide := true }) only [upd, if_true, if_false] at hK2
      exact hK2
    refine ⟨?_, ?_⟩
    · refine SlotStep.below (CeR_up D w a b c (d : Int)) (ceI_up D (d : Int) slo shi un sa sb) ?_
      intro ys W hR hd K hK
      have dd7 : ys 7 = (.pointer (some ⟨D, 3, none⟩)) := hd 7 (by kernel_rfl) (by decide)
      have c3 := cell4_3 hR.2.2
      go_simp
      have hK2 := hK (.int .i64 (d : Int)) _ (Below.refl _ _) rfl
      simp (config := { decide := true }) only [upd, if_true, if_false, dd7] at hK2
      exact hK2
    refine ⟨?_, ?_⟩
    · refine SlotStep.below (CeR_up D w a b c (d : Int)) (ceI_up D (d : Int) slo shi un sa sb) ?_
      intro ys W hR hd K hK
      have dd5 : ys 5 = (.string shi) := hd 5 (by kernel_rfl) (by decide)
      have dd6 : ys 6 = (.string un) := hd 6 (by kernel_rfl) (by decide)
      have dd8 : ys 8 = (.int .i64 (d : Int)) := hd 8 (by kernel_rfl) (by decide)
      go_simp
      refine (NH.out W hR.2.1).mono ?_
      rintro e w5 ⟨rfl, hb5⟩
      have hK2 := hK (.string sb) _ hb5 rfl
      simp (config := { decide := true }) only [upd, if_true, if_false, dd5, dd6, dd8] at hK2
      exact hK2
    refine ⟨?_, ?_⟩
    · refine SlotStep.below (CeR_up D w a b c (d : Int)) (ceI_up D (d : Int) slo shi un sa sb) ?_
      intro ys W hR hd K hK
      have dd4 : ys 4 = (.string sa) := hd 4 (by kernel_rfl) (by decide)
      go_simp
      have hK2 := hK (.string sa) _ (Below.refl _ _) rfl
      simp (config := { decide := true }) only [upd, if_true, if_false, dd4] at hK2
      exact hK2
    refine ⟨?_, ?_⟩
    · refine SlotStep.below (CeR_up D w a b c (d : Int)) (ceI_up D (d : Int) slo shi un sa sb) ?_
      intro ys W hR hd K hK
      have dd9 : ys 9 = (.string sb) := hd 9 (by kernel_rfl) (by decide)
      go_simp
      have hK2 := hK (.string sb) _ (Below.refl _ _) rfl
      simp (config := { decide := true }) only [upd, if_true, if_false, dd9] at hK2
      exact hK2
    trivial
    · intro L ys W hL hI
      obtain ⟨hR, hj⟩ := hI
      have y10 : ys 10 = .string sa := hj 10 (by decide) (hL 10 (by decide))
      have y11 : ys 11 = .string sb := hj 11 (by decide) (hL 11 (by decide))
      have hb6 := hR.1
      clear hR hj HR
      simp only [y10, y11]
      go_wp2_with fail
      refine (SM.out _).mono ?_
      rintro e w5 ⟨rfl, hb7⟩
      have HW := Lib.hid (hb6.trans (hb7.mono hb6.size))
      clear hb6 hb7
      go_wp2
      refine bodyPost_ret (v := .tuple #[.int .i64 ca, .bool (sa.toList == sb.toList)]) (by simp [results, Tryz.results36, go_sem]) rfl ⟨rfl, by first | exact HW.out | (rw [← hD]; exact HW.out)⟩
end Go.Proofs.YthdoadkdofgenaaGreatDoor
/- The walk of IntervalCents. -/
namespace Go.Proofs.YthdoadkdofgenaaGreatDoor
open Go Go.RowKit Go.Shelf

theorem tz_beq {p q : Int} (h : ((tz p).toList == (tz q).toList) = true) : p = q := by
  rw [beq_iff_eq, toList_eq, toList_eq] at h
  have := congrArg iv (ext_bytes h)
  rwa [iv_tz, iv_tz] at this
theorem cents_between (a b c : Int) {d : Nat} (hd : 0 < d) (h : Iv.cn (loC a b c) d = Iv.cn (hiC a b c) d) : Iv.cn (Iv.lg a b c) d = Iv.cn (loC a b c) d := by
  have h1 : loC a b c ≤ Iv.lg a b c := by unfold loC; omega
  have h2 : Iv.lg a b c ≤ hiC a b c := by unfold hiC; omega
  have hd' : (0 : Int) ≤ (d : Int) := by omega
  have k1 := Iv.cn_mono hd hd (Int.mul_le_mul_of_nonneg_right h1 hd')
  have k2 := Iv.cn_mono hd hd (Int.mul_le_mul_of_nonneg_right h2 hd')
  omega
set_option maxRecDepth 100000 in
set_option maxHeartbeats 4000000 in
theorem cents_walk (x0 x1 x2 x3 x4 x5 : Int) (w : World) (G : Gi w) (N : Nm w) :
    Calls Tryz.prog 9 #[.agg #[.int .i64 x0, .int .i64 x1, .int .i64 x2, .int .i64 x3, .int .i64 x4, .int .i64 x5]] w fun e w' => e = .returned (.bool true) ∧ Below w.heap.size w w' := by
  have KN := Lib.hid (fun W (G : Gi W) (N : Nm W) => lknown_any W G N)
  have RX := Lib.hid (fun W => lread_any x0 x1 x2 x3 x4 x5 W)
  obtain ⟨D, hD⟩ : ∃ D, w.heap.size = D := ⟨_, rfl⟩
  by_cases hx : Iv.rdE x0 x1 x2 x3 x4 x5 = 0
  · obtain ⟨d, ed, hd1, hd2⟩ := rd_nat x0 x1 x2 x3 x4 x5 hx
    have bx := rd_bounds x0 x1 x2 x3 x4 x5
    have CE := Lib.hid (fun W G => ivcents_ok x0 x1 x2 x3 x4 x5 d W G hx ed hd1 hd2)
    rw [hx] at RX
    clear hx
    generalize rdA x0 x1 x2 x3 x4 x5 = ra at *
    generalize rdB x0 x1 x2 x3 x4 x5 = rb at *
    generalize rdC x0 x1 x2 x3 x4 x5 = rc at *
    generalize rdD x0 x1 x2 x3 x4 x5 = rd at *
    subst ed
    have RC := Lib.hid (fun W G => rcents_any ra rb rc d W G (by omega) (by omega) (by omega) hd1 hd2)
    have BT := Lib.hid (fun h => cents_between ra rb rc hd1 (tz_beq h))
    clear bx hd1 hd2
    generalize Iv.cn (Iv.lg ra rb rc) d = cl at *
    generalize Iv.cn (loC ra rb rc) d = cb at *
    generalize Iv.cn (hiC ra rb rc) d = ch at *
    obtain ⟨bb, hbb⟩ : ∃ b, ((tz cb).toList == (tz ch).toList) = b := ⟨_, rfl⟩
    rw [hbb] at RC BT
    go_enter Tryz.func9, Tryz.ntmps9
    have ld1 : (w.alloc (.cells #[.int .i64 x0, .int .i64 x1, .int .i64 x2, .int .i64 x3, .int .i64 x4, .int .i64 x5] 25)).heap[D]? = some (.cells #[.int .i64 x0, .int .i64 x1, .int .i64 x2, .int .i64 x3, .int .i64 x4, .int .i64 x5] 25) := (heap_new (by first | omega | (simp; omega)))
    have y1_0 := cell6_0 ld1
    have y1_1 := cell6_1 ld1
    have y1_2 := cell6_2 ld1
    have y1_3 := cell6_3 ld1
    have y1_4 := cell6_4 ld1
    have y1_5 := cell6_5 ld1
    clear ld1
    go_wp2_with fail
    refine (RX.out _).mono ?_
    rintro e v2 ⟨rfl, hb_v2⟩
    have cS_v2 : v2.heap[D]? = some (.cells #[.int .i64 x0, .int .i64 x1, .int .i64 x2, .int .i64 x3, .int .i64 x4, .int .i64 x5] 25) := (hb_v2.block (D) (Array.getElem?_eq_some_iff.1 (show (w.alloc (.cells #[.int .i64 x0, .int .i64 x1, .int .i64 x2, .int .i64 x3, .int .i64 x4, .int .i64 x5] 25)).heap[D]? = some (.cells #[.int .i64 x0, .int .i64 x1, .int .i64 x2, .int .i64 x3, .int .i64 x4, .int .i64 x5] 25) from (heap_new (by first | omega | (simp; omega))))).1).trans (heap_new (by first | omega | (simp; omega)))
    have hw_v2 : Below D w v2 := (((Below.refl _ w).alloc (by first | omega | (simp; omega)) (.cells #[.int .i64 x0, .int .i64 x1, .int .i64 x2, .int .i64 x3, .int .i64 x4, .int .i64 x5] 25))).trans (hb_v2.mono (by first | omega | (simp; omega)))
    clear hb_v2 y1_0 y1_1 y1_2 y1_3 y1_4 y1_5
    obtain ⟨EO, hEO⟩ : ∃ E, v2.heap.size = E := ⟨_, rfl⟩
    have G1 : Gi (v2.alloc (.cells #[.int .i64 ra, .int .i64 rb, .int .i64 rc, .int .i64 (d : Int)] 29)) := G.below (by rw [hD]; exact (hw_v2.alloc (by have := hw_v2.size; first | omega | (simp; omega)) (.cells #[.int .i64 ra, .int .i64 rb, .int .i64 rc, .int .i64 (d : Int)] 29)))
    have N1 : Nm (v2.alloc (.cells #[.int .i64 ra, .int .i64 rb, .int .i64 rc, .int .i64 (d : Int)] 29)) := N.below (by rw [hD]; exact (hw_v2.alloc (by have := hw_v2.size; first | omega | (simp; omega)) (.cells #[.int .i64 ra, .int .i64 rb, .int .i64 rc, .int .i64 (d : Int)] 29)))
    go_wp2_with fail
    refine (KN.out _ G1 N1).mono ?_
    rintro e v3 ⟨rfl, hb_v3⟩
    have hs_v3 := hw_v2.size
    have cS_v3 : v3.heap[D]? = some (.cells #[.int .i64 x0, .int .i64 x1, .int .i64 x2, .int .i64 x3, .int .i64 x4, .int .i64 x5] 25) := (hb_v3.block (D) (Array.getElem?_eq_some_iff.1 (show (v2.alloc (.cells #[.int .i64 ra, .int .i64 rb, .int .i64 rc, .int .i64 (d : Int)] 29)).heap[D]? = some (.cells #[.int .i64 x0, .int .i64 x1, .int .i64 x2, .int .i64 x3, .int .i64 x4, .int .i64 x5] 25) from (heap_old (o := .cells #[.int .i64 ra, .int .i64 rb, .int .i64 rc, .int .i64 (d : Int)] 29) cS_v2))).1).trans (heap_old (o := .cells #[.int .i64 ra, .int .i64 rb, .int .i64 rc, .int .i64 (d : Int)] 29) cS_v2)
    have cO_v3 : v3.heap[EO]? = some (.cells #[.int .i64 ra, .int .i64 rb, .int .i64 rc, .int .i64 (d : Int)] 29) := (hb_v3.block (EO) (Array.getElem?_eq_some_iff.1 (show (v2.alloc (.cells #[.int .i64 ra, .int .i64 rb, .int .i64 rc, .int .i64 (d : Int)] 29)).heap[EO]? = some (.cells #[.int .i64 ra, .int .i64 rb, .int .i64 rc, .int .i64 (d : Int)] 29) from (heap_new (by first | omega | (simp; omega))))).1).trans (heap_new (by first | omega | (simp; omega)))
    have hw_v3 : Below D w v3 := ((hw_v2.alloc (by have := hw_v2.size; first | omega | (simp; omega)) (.cells #[.int .i64 ra, .int .i64 rb, .int .i64 rc, .int .i64 (d : Int)] 29))).trans (hb_v3.mono (by first | omega | (simp; omega)))
    clear cS_v2 hb_v3 hw_v2 hs_v3
    have G2 : Gi v3 := G.below (by rw [hD]; exact hw_v3)
    have ld4 : v3.heap[D]? = some (.cells #[.int .i64 x0, .int .i64 x1, .int .i64 x2, .int .i64 x3, .int .i64 x4, .int .i64 x5] 25) := cS_v3
    have y4_0 := cell6_0 ld4
    have y4_1 := cell6_1 ld4
    have y4_2 := cell6_2 ld4
    have y4_3 := cell6_3 ld4
    have y4_4 := cell6_4 ld4
    have y4_5 := cell6_5 ld4
    clear ld4
    go_wp2_with fail
    refine (CE.out _ G2).mono ?_
    rintro e v5 ⟨rfl, hb_v5⟩
    have hs_v5 := hw_v3.size
    have cS_v5 : v5.heap[D]? = some (.cells #[.int .i64 x0, .int .i64 x1, .int .i64 x2, .int .i64 x3, .int .i64 x4, .int .i64 x5] 25) := (hb_v5.block (D) (Array.getElem?_eq_some_iff.1 (show v3.heap[D]? = some (.cells #[.int .i64 x0, .int .i64 x1, .int .i64 x2, .int .i64 x3, .int .i64 x4, .int .i64 x5] 25) from cS_v3)).1).trans cS_v3
    have cO_v5 : v5.heap[EO]? = some (.cells #[.int .i64 ra, .int .i64 rb, .int .i64 rc, .int .i64 (d : Int)] 29) := (hb_v5.block (EO) (Array.getElem?_eq_some_iff.1 (show v3.heap[EO]? = some (.cells #[.int .i64 ra, .int .i64 rb, .int .i64 rc, .int .i64 (d : Int)] 29) from cO_v3)).1).trans cO_v3
    have hw_v5 : Below D w v5 := (hw_v3).trans (hb_v5.mono (by first | omega | (simp; omega)))
    clear cS_v3 cO_v3 hb_v5 y4_0 y4_1 y4_2 y4_3 y4_4 y4_5 hw_v3 hs_v5
    have G3 : Gi v5 := G.below (by rw [hD]; exact hw_v5)
    have ld6 : v5.heap[EO]? = some (.cells #[.int .i64 ra, .int .i64 rb, .int .i64 rc, .int .i64 (d : Int)] 29) := cO_v5
    have y6_0 := cell4_0 ld6
    have y6_1 := cell4_1 ld6
    have y6_2 := cell4_2 ld6
    have y6_3 := cell4_3 ld6
    clear ld6
    go_wp2_with fail
    refine (RC.out _ G3).mono ?_
    rintro e v7 ⟨rfl, hb_v7⟩
    have hs_v7 := hw_v5.size
    have cS_v7 : v7.heap[D]? = some (.cells #[.int .i64 x0, .int .i64 x1, .int .i64 x2, .int .i64 x3, .int .i64 x4, .int .i64 x5] 25) := (hb_v7.block (D) (Array.getElem?_eq_some_iff.1 (show v5.heap[D]? = some (.cells #[.int .i64 x0, .int .i64 x1, .int .i64 x2, .int .i64 x3, .int .i64 x4, .int .i64 x5] 25) from cS_v5)).1).trans cS_v5
    have cO_v7 : v7.heap[EO]? = some (.cells #[.int .i64 ra, .int .i64 rb, .int .i64 rc, .int .i64 (d : Int)] 29) := (hb_v7.block (EO) (Array.getElem?_eq_some_iff.1 (show v5.heap[EO]? = some (.cells #[.int .i64 ra, .int .i64 rb, .int .i64 rc, .int .i64 (d : Int)] 29) from cO_v5)).1).trans cO_v5
    have hw_v7 : Below D w v7 := (hw_v5).trans (hb_v7.mono (by first | omega | (simp; omega)))
    clear cS_v5 cO_v5 hb_v7 y6_0 y6_1 y6_2 y6_3 hw_v5 hs_v7
    have HW := Lib.hid (hw_v7)
    clear CE RC KN RX
    cases bb with
    | true =>
      have hh := BT.out rfl
      subst hh
      go_wp2
      go_ret
      exact ⟨rfl, by first | exact HW.out | (rw [hD]; exact HW.out)⟩
    | false =>
      go_wp2
      go_ret
      exact ⟨rfl, by first | exact HW.out | (rw [hD]; exact HW.out)⟩
  · generalize rdA x0 x1 x2 x3 x4 x5 = ra at *
    generalize rdB x0 x1 x2 x3 x4 x5 = rb at *
    generalize rdC x0 x1 x2 x3 x4 x5 = rc at *
    generalize rdD x0 x1 x2 x3 x4 x5 = rd at *
    generalize Iv.rdE x0 x1 x2 x3 x4 x5 = re at *
    have hne : (re == 0) = false := by rw [beq_eq_false_iff_ne]; exact hx
    go_enter Tryz.func9, Tryz.ntmps9
    have ld1 : (w.alloc (.cells #[.int .i64 x0, .int .i64 x1, .int .i64 x2, .int .i64 x3, .int .i64 x4, .int .i64 x5] 25)).heap[D]? = some (.cells #[.int .i64 x0, .int .i64 x1, .int .i64 x2, .int .i64 x3, .int .i64 x4, .int .i64 x5] 25) := (heap_new (by first | omega | (simp; omega)))
    have y1_0 := cell6_0 ld1
    have y1_1 := cell6_1 ld1
    have y1_2 := cell6_2 ld1
    have y1_3 := cell6_3 ld1
    have y1_4 := cell6_4 ld1
    have y1_5 := cell6_5 ld1
    clear ld1
    go_wp2_with fail
    refine (RX.out _).mono ?_
    rintro e v2 ⟨rfl, hb_v2⟩
    have cS_v2 : v2.heap[D]? = some (.cells #[.int .i64 x0, .int .i64 x1, .int .i64 x2, .int .i64 x3, .int .i64 x4, .int .i64 x5] 25) := (hb_v2.block (D) (Array.getElem?_eq_some_iff.1 (show (w.alloc (.cells #[.int .i64 x0, .int .i64 x1, .int .i64 x2, .int .i64 x3, .int .i64 x4, .int .i64 x5] 25)).heap[D]? = some (.cells #[.int .i64 x0, .int .i64 x1, .int .i64 x2, .int .i64 x3, .int .i64 x4, .int .i64 x5] 25) from (heap_new (by first | omega | (simp; omega))))).1).trans (heap_new (by first | omega | (simp; omega)))
    have hw_v2 : Below D w v2 := (((Below.refl _ w).alloc (by first | omega | (simp; omega)) (.cells #[.int .i64 x0, .int .i64 x1, .int .i64 x2, .int .i64 x3, .int .i64 x4, .int .i64 x5] 25))).trans (hb_v2.mono (by first | omega | (simp; omega)))
    clear hb_v2 y1_0 y1_1 y1_2 y1_3 y1_4 y1_5
    obtain ⟨EO, hEO⟩ : ∃ E, v2.heap.size = E := ⟨_, rfl⟩
    have G1 : Gi (v2.alloc (.cells #[.int .i64 ra, .int .i64 rb, .int .i64 rc, .int .i64 rd] 29)) := G.below (by rw [hD]; exact (hw_v2.alloc (by have := hw_v2.size; first | omega | (simp; omega)) (.cells #[.int .i64 ra, .int .i64 rb, .int .i64 rc, .int .i64 rd] 29)))
    have N1 : Nm (v2.alloc (.cells #[.int .i64 ra, .int .i64 rb, .int .i64 rc, .int .i64 rd] 29)) := N.below (by rw [hD]; exact (hw_v2.alloc (by have := hw_v2.size; first | omega | (simp; omega)) (.cells #[.int .i64 ra, .int .i64 rb, .int .i64 rc, .int .i64 rd] 29)))
    go_wp2_with fail
    refine (KN.out _ G1 N1).mono ?_
    rintro e v3 ⟨rfl, hb_v3⟩
    have hs_v3 := hw_v2.size
    have cS_v3 : v3.heap[D]? = some (.cells #[.int .i64 x0, .int .i64 x1, .int .i64 x2, .int .i64 x3, .int .i64 x4, .int .i64 x5] 25) := (hb_v3.block (D) (Array.getElem?_eq_some_iff.1 (show (v2.alloc (.cells #[.int .i64 ra, .int .i64 rb, .int .i64 rc, .int .i64 rd] 29)).heap[D]? = some (.cells #[.int .i64 x0, .int .i64 x1, .int .i64 x2, .int .i64 x3, .int .i64 x4, .int .i64 x5] 25) from (heap_old (o := .cells #[.int .i64 ra, .int .i64 rb, .int .i64 rc, .int .i64 rd] 29) cS_v2))).1).trans (heap_old (o := .cells #[.int .i64 ra, .int .i64 rb, .int .i64 rc, .int .i64 rd] 29) cS_v2)
    have cO_v3 : v3.heap[EO]? = some (.cells #[.int .i64 ra, .int .i64 rb, .int .i64 rc, .int .i64 rd] 29) := (hb_v3.block (EO) (Array.getElem?_eq_some_iff.1 (show (v2.alloc (.cells #[.int .i64 ra, .int .i64 rb, .int .i64 rc, .int .i64 rd] 29)).heap[EO]? = some (.cells #[.int .i64 ra, .int .i64 rb, .int .i64 rc, .int .i64 rd] 29) from (heap_new (by first | omega | (simp; omega))))).1).trans (heap_new (by first | omega | (simp; omega)))
    have hw_v3 : Below D w v3 := ((hw_v2.alloc (by have := hw_v2.size; first | omega | (simp; omega)) (.cells #[.int .i64 ra, .int .i64 rb, .int .i64 rc, .int .i64 rd] 29))).trans (hb_v3.mono (by first | omega | (simp; omega)))
    clear cS_v2 hb_v3 hw_v2 hs_v3
    have G2 : Gi v3 := G.below (by rw [hD]; exact hw_v3)
    have N2 : Nm v3 := N.below (by rw [hD]; exact hw_v3)
    go_wp2_with fail
    refine (KN.out _ G2 N2).mono ?_
    rintro e v4 ⟨rfl, hb_v4⟩
    have hs_v4 := hw_v3.size
    have cS_v4 : v4.heap[D]? = some (.cells #[.int .i64 x0, .int .i64 x1, .int .i64 x2, .int .i64 x3, .int .i64 x4, .int .i64 x5] 25) := (hb_v4.block (D) (Array.getElem?_eq_some_iff.1 (show v3.heap[D]? = some (.cells #[.int .i64 x0, .int .i64 x1, .int .i64 x2, .int .i64 x3, .int .i64 x4, .int .i64 x5] 25) from cS_v3)).1).trans cS_v3
    have cO_v4 : v4.heap[EO]? = some (.cells #[.int .i64 ra, .int .i64 rb, .int .i64 rc, .int .i64 rd] 29) := (hb_v4.block (EO) (Array.getElem?_eq_some_iff.1 (show v3.heap[EO]? = some (.cells #[.int .i64 ra, .int .i64 rb, .int .i64 rc, .int .i64 rd] 29) from cO_v3)).1).trans cO_v3
    have hw_v4 : Below D w v4 := (hw_v3).trans (hb_v4.mono (by first | omega | (simp; omega)))
    clear cS_v3 cO_v3 hb_v4 hw_v3 hs_v4
    have HW := Lib.hid (hw_v4)
    clear KN RX
    go_wp2
    go_ret
    exact ⟨rfl, by first | exact HW.out | (rw [hD]; exact HW.out)⟩
end Go.Proofs.YthdoadkdofgenaaGreatDoor
