/- Contract of the law's short. -/
import Derived.Test.YthdoadkdofgenaaGreatDoorIvV
import Derived.Test.YthdoadkdofgenaaGreatDoorImYt
import Derived.Test.YthdoadkdofgenaaGreatDoorImYs
import Derived.Test.YthdoadkdofgenaaGreatDoorImB
import Derived.KernelRfl
namespace Go.Proofs.YthdoadkdofgenaaGreatDoor
open Go Go.RowKit Go.Shelf

def le9 (a : Int) : Bool := !(decide (900 < a) || decide (a < -900))
theorem le9_t {a : Int} (h : le9 a = true) : -900 ≤ a ∧ a ≤ 900 := by simp [le9] at h; omega
set_option maxRecDepth 10000 in
set_option maxHeartbeats 2000000 in
theorem short_c (a0 a1 a2 ad : Int) (w : World) :
    Calls Tryz.prog 33 #[.agg #[.int .i64 a0, .int .i64 a1, .int .i64 a2, .int .i64 ad]] w fun e w' => e = .returned (.bool (le9 a0 && (le9 a1 && le9 a2))) ∧ Below w.heap.size w w' := by
  obtain ⟨D, hD⟩ : ∃ D, w.heap.size = D := ⟨_, rfl⟩
  go_enter Tryz.func33, Tryz.ntmps33
  go_wp2_with fail
  obtain ⟨V, hV⟩ : ∃ V, w.alloc (.cells #[.int .i64 a0, .int .i64 a1, .int .i64 a2, .int .i64 ad] 29) = V := ⟨_, rfl⟩
  have hwV : Below D w V := by rw [← hV]; exact (Below.refl _ w).alloc (by omega) _
  have h0V : V.heap[D]? = some (.cells #[.int .i64 a0, .int .i64 a1, .int .i64 a2, .int .i64 ad] 29) := by rw [← hV]; exact heap_new hD.symm
  rw [hV]
  clear hV
  go_loopw [3] (fun i wr => (i = .int .i64 0 ∨ (i = .int .i64 1 ∧ le9 a0 = true) ∨ (i = .int .i64 2 ∧ le9 a0 = true ∧ le9 a1 = true) ∨ (i = .int .i64 3 ∧ le9 a0 = true ∧ le9 a1 = true ∧ le9 a2 = true)) ∧ Below D w wr ∧ wr.heap[D]? = some (.cells #[.int .i64 a0, .int .i64 a1, .int .i64 a2, .int .i64 ad] 29)) (fun i _ => 3 - (intOf i).toNat)
  case atStart => exact ⟨.inl rfl, hwV, h0V⟩
  case round =>
    obtain ⟨hk, hw, h0⟩ := hrel
    clear hwV h0V
    rcases hk with rfl | ⟨rfl, k0⟩ | ⟨rfl, k0, k1⟩ | ⟨rfl, k0, k1, k2⟩
    · have a_ := cell4_0 h0
      have HW := Lib.hid hw
      have H0 := Lib.hid h0
      clear hw h0
      by_cases c1 : 900 < a0
      · have K := Lib.hid (show le9 a0 = false by simp [le9, c1])
        go_wp2
        go_ret
        exact ⟨by simp [K.out], by first | exact HW.out | (rw [hD]; exact HW.out)⟩
      · by_cases c2 : a0 < -900
        · have K := Lib.hid (show le9 a0 = false by simp [le9, c1, c2])
          go_wp2
          go_ret
          exact ⟨by simp [K.out], by first | exact HW.out | (rw [hD]; exact HW.out)⟩
        · have K := Lib.hid (show le9 a0 = true by simp [le9]; omega)
          go_wp2
          exact ⟨⟨.inr (.inl ⟨rfl, K.out⟩), HW.out, H0.out⟩, by decide⟩
    · have a_ := cell4_1 h0
      have K0 := Lib.hid k0
      have HW := Lib.hid hw
      have H0 := Lib.hid h0
      clear k0 hw h0
      by_cases c1 : 900 < a1
      · have K := Lib.hid (show le9 a1 = false by simp [le9, c1])
        go_wp2
        go_ret
        exact ⟨by simp [K0.out, K.out], by first | exact HW.out | (rw [hD]; exact HW.out)⟩
      · by_cases c2 : a1 < -900
        · have K := Lib.hid (show le9 a1 = false by simp [le9, c1, c2])
          go_wp2
          go_ret
          exact ⟨by simp [K0.out, K.out], by first | exact HW.out | (rw [hD]; exact HW.out)⟩
        · have K := Lib.hid (show le9 a1 = true by simp [le9]; omega)
          go_wp2
          exact ⟨⟨.inr (.inr (.inl ⟨rfl, K0.out, K.out⟩)), HW.out, H0.out⟩, by decide⟩
    · have a_ := cell4_2 h0
      have K0 := Lib.hid k0
      have K1 := Lib.hid k1
      have HW := Lib.hid hw
      have H0 := Lib.hid h0
      clear k0 k1 hw h0
      by_cases c1 : 900 < a2
      · have K := Lib.hid (show le9 a2 = false by simp [le9, c1])
        go_wp2
        go_ret
        exact ⟨by simp [K0.out, K1.out, K.out], by first | exact HW.out | (rw [hD]; exact HW.out)⟩
      · by_cases c2 : a2 < -900
        · have K := Lib.hid (show le9 a2 = false by simp [le9, c1, c2])
          go_wp2
          go_ret
          exact ⟨by simp [K0.out, K1.out, K.out], by first | exact HW.out | (rw [hD]; exact HW.out)⟩
        · have K := Lib.hid (show le9 a2 = true by simp [le9]; omega)
          go_wp2
          exact ⟨⟨.inr (.inr (.inr ⟨rfl, K0.out, K1.out, K.out⟩)), HW.out, H0.out⟩, by decide⟩
    · have HW := Lib.hid hw
      have K := Lib.hid (show (le9 a0 && (le9 a1 && le9 a2)) = true by rw [k0, k1, k2]; rfl)
      clear k0 k1 k2 hw h0
      go_wp2
      go_ret
      exact ⟨by rw [K.out]; rfl, by first | exact HW.out | (rw [hD]; exact HW.out)⟩

end Go.Proofs.YthdoadkdofgenaaGreatDoor
/- The reference's Power. -/
namespace Go.Proofs.YthdoadkdofgenaaGreatDoor
open Go Go.RowKit Go.Shelf

theorem pow_small {z : Int} (hz : z.natAbs < 10 ^ 6) {m : Nat} (hm : m ≤ 130) : ∃ N : Nat, N ≤ 781 ∧ 0 < N ∧ (z ^ m).natAbs < 10 ^ N := by
  refine ⟨6 * m + 1, by omega, by omega, ?_⟩
  rw [Int.natAbs_pow]
  have h1 : z.natAbs ^ m ≤ (10 ^ 6) ^ m := Nat.pow_le_pow_left (Nat.le_of_lt hz) m
  rw [← Nat.pow_mul] at h1
  exact Nat.lt_of_le_of_lt h1 (Nat.pow_lt_pow_right (by decide) (Nat.lt_succ_self _))
theorem pow_size {z : Int} (hz : z.natAbs < 10 ^ 6) {m : Nat} (hm : m ≤ 130) : (tz (z ^ m)).size ≤ 782 := by
  obtain ⟨N, h1, h2, h3⟩ := pow_small hz hm
  have := len_tz h3 h2
  omega
theorem pow_cn {z : Int} (hz : z.natAbs < 10 ^ 6) {m : Nat} (hm : m ≤ 130) : Cn (tz (z ^ m)) := by
  obtain ⟨N, h1, h2, h3⟩ := pow_small hz hm
  exact cn_tz h3 h2 (by omega)
theorem two_pow_le {j : Nat} (h : j ≤ 6) : 2 ^ j ≤ 64 := Nat.pow_le_pow_right (n := 2) (by decide) h

set_option maxRecDepth 100000 in
set_option maxHeartbeats 2000000 in
theorem rpower_c (s : ByteArray) (hs : Cn s) (hz : (iv s).natAbs < 10 ^ 6) (n : Nat) (hn : n ≤ 60) (w : World) (G : Gi w) :
    Calls Tryz.prog 57 #[.string s, .int .i64 n] w fun e w' => e = .returned (.string (tz (iv s ^ n))) ∧ Below w.heap.size w w' := by
  obtain ⟨z, hzz⟩ : ∃ z, iv s = z := ⟨_, rfl⟩
  rw [hzz] at hz ⊢
  have hst : s = tz (z ^ 1) := by rw [Int.pow_succ, Int.pow_zero, Int.one_mul, ← hzz]; exact (tz_iv hs.canon).symm
  have MM := Lib.hid (fun (p q : Nat) (hp : p ≤ 130) (hq : q ≤ 130) W G => by
    have h := rmul_c (tz (z ^ p)) (tz (z ^ q)) (pow_cn hz hp) (pow_cn hz hq) (by have := pow_size hz hp; omega) (by have := pow_size hz hq; omega) W G
    rw [iv_tz, iv_tz, ← Int.pow_add] at h
    exact h)
  have H1 := Lib.hid (show (ByteArray.mk #[49]) = tz (z ^ 0) by rw [Int.pow_zero]; exact ext_bytes (show Lib.itoa 1 = [49] by rw [Im.itoa_nonneg (by decide)]; exact Im.dec_small (by decide)).symm)
  have HS := Lib.hid hst
  clear hs hz hzz hst
  obtain ⟨D, hD⟩ : ∃ D, w.heap.size = D := ⟨_, rfl⟩
  go_enter Tryz.func57, Tryz.ntmps57
  go_wp2_with fail
  go_loopw [0, 1, 5] (fun b c o wr => ∃ j : Nat, j ≤ 6 ∧ c = .int .i64 ((n / 2 ^ j : Nat) : Int) ∧ b = .string (tz (z ^ (2 ^ j))) ∧ o = .string (tz (z ^ (n % 2 ^ j))) ∧ Below D w wr) (fun _ c _ _ => (intOf c).toNat)
  case atStart => exact ⟨0, by decide, by rw [Nat.pow_zero, Nat.div_one], by rw [HS.out, Nat.pow_zero], by rw [Nat.pow_zero, Nat.mod_one, ← H1.out], Below.refl _ _⟩
  case round =>
    obtain ⟨j, hj, rfl, rfl, rfl, hw⟩ := hrel
    have hpj := two_pow_le hj
    have hp0 : 0 < 2 ^ j := Nat.pow_pos (by decide)
    have hmod := Nat.mod_lt n hp0
    have GW := G.below (hD ▸ hw)
    by_cases h0 : n / 2 ^ j = 0
    · have hlt : n < 2 ^ j := by
        rcases (Nat.div_eq_zero_iff).1 h0 with h | h
        · omega
        · exact h
      rw [h0, Nat.mod_eq_of_lt hlt]
      have hi : ¬ (0 : Int) < ((0 : Nat) : Int) := by decide
      clear hlt hmod hp0 hpj h0
      go_wp2
      go_ret
      exact ⟨rfl, by first | exact hw | (rw [hD]; exact hw)⟩
    · have hj6 : j < 6 := by
        rcases Nat.lt_or_ge j 6 with h | h
        · exact h
        · exfalso
          obtain rfl : j = 6 := by omega
          apply h0
          exact Nat.div_eq_of_lt (by omega)
      have hsplit : n % 2 ^ (j + 1) = n % 2 ^ j + 2 ^ j * (n / 2 ^ j % 2) := Nat.mod_pow_succ
      have hdiv : n / 2 ^ (j + 1) = n / 2 ^ j / 2 := by rw [Nat.pow_succ, Nat.div_div_eq_div_mul]
      have hdbl : 2 ^ (j + 1) = 2 ^ j + 2 ^ j := by rw [Nat.pow_succ]; omega
      have M2 := Lib.hid (MM.out (2 ^ j) (2 ^ j) (by omega) (by omega))
      have M1 := Lib.hid (MM.out (n % 2 ^ j) (2 ^ j) (by omega) (by omega))
      have hqle : n / 2 ^ j ≤ 60 := Nat.le_trans (Nat.div_le_self _ _) hn
      obtain ⟨q, hq⟩ : ∃ q, n / 2 ^ j = q := ⟨_, rfl⟩
      rw [hq] at hsplit hdiv hqle h0 ⊢
      rw [← hdbl] at M2
      have HDIV := Lib.hid hdiv
      have hi : (0 : Int) < (q : Int) := by omega
      have hq2 : (q : Int).tdiv 2 = ((q / 2 : Nat) : Int) := by rw [Int.tdiv_eq_ediv_of_nonneg (by omega)]; omega
      obtain ⟨q2, hqq⟩ : ∃ q2, q / 2 = q2 := ⟨_, rfl⟩
      rw [hqq] at hq2 HDIV
      have hq2l : q2 ≤ 60 := by omega
      have hq2s : q2 < q := by omega
      by_cases ho : q % 2 = 1
      · have hr : (q : Int).tmod 2 = 1 := by rw [Int.tmod_eq_emod_of_nonneg (by omega)]; omega
        rw [ho, Nat.mul_one] at hsplit
        have HSP := Lib.hid hsplit
        rw [← hsplit] at M1
        generalize tz (z ^ (n % 2 ^ j)) = O1 at *
        generalize tz (z ^ 2 ^ j) = B1 at *
        clear hsplit hdiv hdbl hq hmod hp0 hpj ho hqq
        go_wp2_with fail
        refine (M1.out _ GW).mono ?_
        rintro e w3 ⟨rfl, b3⟩
        have hw3 := hw.trans (b3.mono (by have := hw.size; omega))
        go_wp2_with fail
        refine (M2.out _ (G.below (hD ▸ hw3))).mono ?_
        rintro e w4 ⟨rfl, b4⟩
        have hw4 := hw3.trans (b4.mono (by have := hw3.size; omega))
        go_wp2_with fail
        go_roundw
        case rel => exact ⟨j + 1, by omega, by rw [HDIV.out], rfl, rfl, hw4⟩
        case measure => simp [intOf]; omega
      · have hr : (q : Int).tmod 2 = 0 := by rw [Int.tmod_eq_emod_of_nonneg (by omega)]; omega
        have HSP := Lib.hid (show n % 2 ^ (j + 1) = n % 2 ^ j by rw [hsplit, show q % 2 = 0 by omega, Nat.mul_zero]; rfl)
        generalize hO : tz (z ^ (n % 2 ^ j)) = O1 at *
        have HO := Lib.hid hO
        generalize tz (z ^ 2 ^ j) = B1 at *
        clear hsplit hdiv hdbl hq hmod hp0 hpj ho hqq hO
        go_wp2_with fail
        refine (M2.out _ GW).mono ?_
        rintro e w4 ⟨rfl, b4⟩
        have hw4 := hw.trans (b4.mono (by have := hw.size; omega))
        go_wp2_with fail
        go_roundw
        case rel => exact ⟨j + 1, by omega, by rw [HDIV.out], rfl, by rw [HSP.out, HO.out], hw4⟩
        case measure => simp [intOf]; omega

end Go.Proofs.YthdoadkdofgenaaGreatDoor
/- The reference's Power of a small base to a large exponent. -/
namespace Go.Proofs.YthdoadkdofgenaaGreatDoor
open Go Go.RowKit Go.Shelf

theorem gow_small {z : Int} (hz : z.natAbs < 10) {m : Nat} (hm : m ≤ 16384) : ∃ N : Nat, N ≤ 16385 ∧ 0 < N ∧ (z ^ m).natAbs < 10 ^ N := by
  refine ⟨m + 1, by omega, by omega, ?_⟩
  rw [Int.natAbs_pow]
  have h1 : z.natAbs ^ m ≤ 10 ^ m := Nat.pow_le_pow_left (Nat.le_of_lt hz) m
  exact Nat.lt_of_le_of_lt h1 (Nat.pow_lt_pow_right (by decide) (Nat.lt_succ_self _))
theorem gow_size {z : Int} (hz : z.natAbs < 10) {m : Nat} (hm : m ≤ 16384) : (tz (z ^ m)).size ≤ 16386 := by
  obtain ⟨N, h1, h2, h3⟩ := gow_small hz hm
  have := len_tz h3 h2
  omega
theorem gow_cn {z : Int} (hz : z.natAbs < 10) {m : Nat} (hm : m ≤ 16384) : Cn (tz (z ^ m)) := by
  obtain ⟨N, h1, h2, h3⟩ := gow_small hz hm
  exact cn_tz h3 h2 (by omega)
theorem gwo_pow_le {j : Nat} (h : j ≤ 13) : 2 ^ j ≤ 8192 := Nat.pow_le_pow_right (n := 2) (by decide) h

set_option maxRecDepth 100000 in
set_option maxHeartbeats 2000000 in
theorem gpower_c (s : ByteArray) (hs : Cn s) (hz : (iv s).natAbs < 10) (n : Nat) (hn : n ≤ 7000) (w : World) (G : Gi w) :
    Calls Tryz.prog 57 #[.string s, .int .i64 n] w fun e w' => e = .returned (.string (tz (iv s ^ n))) ∧ Below w.heap.size w w' := by
  obtain ⟨z, hzz⟩ : ∃ z, iv s = z := ⟨_, rfl⟩
  rw [hzz] at hz ⊢
  have hst : s = tz (z ^ 1) := by rw [Int.pow_succ, Int.pow_zero, Int.one_mul, ← hzz]; exact (tz_iv hs.canon).symm
  have MM := Lib.hid (fun (p q : Nat) (hp : p ≤ 8192) (hq : q ≤ 8192) W G => by
    have h := rmul_c (tz (z ^ p)) (tz (z ^ q)) (gow_cn hz (by omega)) (gow_cn hz (by omega)) (by have := gow_size hz (m := p) (by omega); omega) (by have := gow_size hz (m := q) (by omega); omega) W G
    rw [iv_tz, iv_tz, ← Int.pow_add] at h
    exact h)
  have H1 := Lib.hid (show (ByteArray.mk #[49]) = tz (z ^ 0) by rw [Int.pow_zero]; exact ext_bytes (show Lib.itoa 1 = [49] by rw [Im.itoa_nonneg (by decide)]; exact Im.dec_small (by decide)).symm)
  have HS := Lib.hid hst
  clear hs hz hzz hst
  obtain ⟨D, hD⟩ : ∃ D, w.heap.size = D := ⟨_, rfl⟩
  go_enter Tryz.func57, Tryz.ntmps57
  go_wp2_with fail
  go_loopw [0, 1, 5] (fun b c o wr => ∃ j : Nat, j ≤ 13 ∧ c = .int .i64 ((n / 2 ^ j : Nat) : Int) ∧ b = .string (tz (z ^ (2 ^ j))) ∧ o = .string (tz (z ^ (n % 2 ^ j))) ∧ Below D w wr) (fun _ c _ _ => (intOf c).toNat)
  case atStart => exact ⟨0, by decide, by rw [Nat.pow_zero, Nat.div_one], by rw [HS.out, Nat.pow_zero], by rw [Nat.pow_zero, Nat.mod_one, ← H1.out], Below.refl _ _⟩
  case round =>
    obtain ⟨j, hj, rfl, rfl, rfl, hw⟩ := hrel
    have hpj := gwo_pow_le hj
    have hp0 : 0 < 2 ^ j := Nat.pow_pos (by decide)
    have hmod := Nat.mod_lt n hp0
    have GW := G.below (hD ▸ hw)
    by_cases h0 : n / 2 ^ j = 0
    · have hlt : n < 2 ^ j := by
        rcases (Nat.div_eq_zero_iff).1 h0 with h | h
        · omega
        · exact h
      rw [h0, Nat.mod_eq_of_lt hlt]
      have hi : ¬ (0 : Int) < ((0 : Nat) : Int) := by decide
      clear hlt hmod hp0 hpj h0
      go_wp2
      go_ret
      exact ⟨rfl, by first | exact hw | (rw [hD]; exact hw)⟩
    · have hj6 : j < 13 := by
        rcases Nat.lt_or_ge j 13 with h | h
        · exact h
        · exfalso
          obtain rfl : j = 13 := by omega
          apply h0
          exact Nat.div_eq_of_lt (by omega)
      have hsplit : n % 2 ^ (j + 1) = n % 2 ^ j + 2 ^ j * (n / 2 ^ j % 2) := Nat.mod_pow_succ
      have hdiv : n / 2 ^ (j + 1) = n / 2 ^ j / 2 := by rw [Nat.pow_succ, Nat.div_div_eq_div_mul]
      have hdbl : 2 ^ (j + 1) = 2 ^ j + 2 ^ j := by rw [Nat.pow_succ]; omega
      have M2 := Lib.hid (MM.out (2 ^ j) (2 ^ j) (by omega) (by omega))
      have M1 := Lib.hid (MM.out (n % 2 ^ j) (2 ^ j) (by omega) (by omega))
      have hqle : n / 2 ^ j ≤ 7000 := Nat.le_trans (Nat.div_le_self _ _) hn
      obtain ⟨q, hq⟩ : ∃ q, n / 2 ^ j = q := ⟨_, rfl⟩
      rw [hq] at hsplit hdiv hqle h0 ⊢
      rw [← hdbl] at M2
      have HDIV := Lib.hid hdiv
      have hi : (0 : Int) < (q : Int) := by omega
      have hq2 : (q : Int).tdiv 2 = ((q / 2 : Nat) : Int) := by rw [Int.tdiv_eq_ediv_of_nonneg (by omega)]; omega
      obtain ⟨q2, hqq⟩ : ∃ q2, q / 2 = q2 := ⟨_, rfl⟩
      rw [hqq] at hq2 HDIV
      have hq2l : q2 ≤ 7000 := by omega
      have hq2s : q2 < q := by omega
      by_cases ho : q % 2 = 1
      · have hr : (q : Int).tmod 2 = 1 := by rw [Int.tmod_eq_emod_of_nonneg (by omega)]; omega
        rw [ho, Nat.mul_one] at hsplit
        have HSP := Lib.hid hsplit
        rw [← hsplit] at M1
        generalize tz (z ^ (n % 2 ^ j)) = O1 at *
        generalize tz (z ^ 2 ^ j) = B1 at *
        clear hsplit hdiv hdbl hq hmod hp0 hpj ho hqq
        go_wp2_with fail
        refine (M1.out _ GW).mono ?_
        rintro e w3 ⟨rfl, b3⟩
        have hw3 := hw.trans (b3.mono (by have := hw.size; omega))
        go_wp2_with fail
        refine (M2.out _ (G.below (hD ▸ hw3))).mono ?_
        rintro e w4 ⟨rfl, b4⟩
        have hw4 := hw3.trans (b4.mono (by have := hw3.size; omega))
        go_wp2_with fail
        go_roundw
        case rel => exact ⟨j + 1, by omega, by rw [HDIV.out], rfl, rfl, hw4⟩
        case measure => simp [intOf]; omega
      · have hr : (q : Int).tmod 2 = 0 := by rw [Int.tmod_eq_emod_of_nonneg (by omega)]; omega
        have HSP := Lib.hid (show n % 2 ^ (j + 1) = n % 2 ^ j by rw [hsplit, show q % 2 = 0 by omega, Nat.mul_zero]; rfl)
        generalize hO : tz (z ^ (n % 2 ^ j)) = O1 at *
        have HO := Lib.hid hO
        generalize tz (z ^ 2 ^ j) = B1 at *
        clear hsplit hdiv hdbl hq hmod hp0 hpj ho hqq hO
        go_wp2_with fail
        refine (M2.out _ GW).mono ?_
        rintro e w4 ⟨rfl, b4⟩
        have hw4 := hw.trans (b4.mono (by have := hw.size; omega))
        go_wp2_with fail
        go_roundw
        case rel => exact ⟨j + 1, by omega, by rw [HDIV.out], rfl, by rw [HSP.out, HO.out], hw4⟩
        case measure => simp [intOf]; omega

end Go.Proofs.YthdoadkdofgenaaGreatDoor
/- The sum of the logarithms of 2, 3 and 5, rounded down, has the sign of the product of their powers. -/
namespace Go.Proofs.YthdoadkdofgenaaGreatDoor.Iv
open Go
set_option maxHeartbeats 8000000 in
theorem lattice {a b c : Int} (hb : -1000000 ≤ b ∧ b ≤ 1000000) (hc : -1000000 ≤ c ∧ c ≤ 1000000) (h : -2000000 ≤ a * 1000000000000000000000000000000 + b * 1584962500721156181453738943947 + c * 2321928094887362347870319429489 ∧ a * 1000000000000000000000000000000 + b * 1584962500721156181453738943947 + c * 2321928094887362347870319429489 ≤ 2000000) :
    a = 0 ∧ b = 0 ∧ c = 0 := by
  obtain ⟨z, hz⟩ : ∃ z, a * 1000000000000000000000000000000 + b * 1584962500721156181453738943947 + c * 2321928094887362347870319429489 = z := ⟨_, rfl⟩
  rw [hz] at h
  obtain ⟨m0, hm0⟩ : ∃ m, 784486983537 * a + 1243382451210 * b + 1821522367148 * c = m := ⟨_, rfl⟩
  have e0 : 1000000000000000000000000000000 * m0 = 784486983537 * z + 52294912352754045199461 * b + (-63096945292468375322593) * c := by rw [← hm0, ← hz]; clear h hb hc hz hm0; omega
  have f0 : m0 = 0 := by
    obtain ⟨x, hx⟩ : ∃ x, 784486983537 * z = x := ⟨_, rfl⟩
    obtain ⟨y, hy⟩ : ∃ y, 52294912352754045199461 * b = y := ⟨_, rfl⟩
    obtain ⟨v, hv⟩ : ∃ v, (-63096945292468375322593) * c = v := ⟨_, rfl⟩
    rw [hx, hy, hv] at e0
    have bx : -1568973967074000000 ≤ x ∧ x ≤ 1568973967074000000 := by clear e0 hb hc hz hy hv hm0 ; omega
    have bY : -52294912352754045199461000000 ≤ y ∧ y ≤ 52294912352754045199461000000 := by clear e0 h hc hz hx hv bx hm0 ; omega
    have bv : -63096945292468375322593000000 ≤ v ∧ v ≤ 63096945292468375322593000000 := by clear e0 h hb hz hx hy bx bY hm0 ; omega
    clear h hb hc hz hx hy hv hm0 
    omega
  obtain ⟨m1, hm1⟩ : ∃ m, 17529136336934 * a + 27783023764069 * b + 40701394139838 * c = m := ⟨_, rfl⟩
  have e1 : 1000000000000000000000000000000 * m1 = 17529136336934 * z + 74695501122582868161502 * b + 123315039706701840553274 * c := by rw [← hm1, ← hz]; clear h hb hc hz hm1; omega
  have f1 : m1 = 0 := by
    obtain ⟨x, hx⟩ : ∃ x, 17529136336934 * z = x := ⟨_, rfl⟩
    obtain ⟨y, hy⟩ : ∃ y, 74695501122582868161502 * b = y := ⟨_, rfl⟩
    obtain ⟨v, hv⟩ : ∃ v, 123315039706701840553274 * c = v := ⟨_, rfl⟩
    rw [hx, hy, hv] at e1
    have bx : -35058272673868000000 ≤ x ∧ x ≤ 35058272673868000000 := by clear e1 hb hc hz hy hv hm0 e0 f0 hm1 ; omega
    have bY : -74695501122582868161502000000 ≤ y ∧ y ≤ 74695501122582868161502000000 := by clear e1 h hc hz hx hv bx hm0 e0 f0 hm1 ; omega
    have bv : -123315039706701840553274000000 ≤ v ∧ v ≤ 123315039706701840553274000000 := by clear e1 h hb hz hx hy bx bY hm0 e0 f0 hm1 ; omega
    clear h hb hc hz hx hy hv hm0 e0 f0 hm1 
    omega
  obtain ⟨m2, hm2⟩ : ∃ m, 33257738499832 * a + 52712268381024 * b + 77222077395177 * c = m := ⟨_, rfl⟩
  have e2 : 1000000000000000000000000000000 * m2 = 33257738499832 * z + (-325845406571255716916904) * b + (-276038622972136962345848) * c := by rw [← hm2, ← hz]; clear h hb hc hz hm2; omega
  have f2 : m2 = 0 := by
    obtain ⟨x, hx⟩ : ∃ x, 33257738499832 * z = x := ⟨_, rfl⟩
    obtain ⟨y, hy⟩ : ∃ y, (-325845406571255716916904) * b = y := ⟨_, rfl⟩
    obtain ⟨v, hv⟩ : ∃ v, (-276038622972136962345848) * c = v := ⟨_, rfl⟩
    rw [hx, hy, hv] at e2
    have bx : -66515476999664000000 ≤ x ∧ x ≤ 66515476999664000000 := by clear e2 hb hc hz hy hv hm0 e0 f0 hm1 e1 f1 hm2 ; omega
    have bY : -325845406571255716916904000000 ≤ y ∧ y ≤ 325845406571255716916904000000 := by clear e2 h hc hz hx hv bx hm0 e0 f0 hm1 e1 f1 hm2 ; omega
    have bv : -276038622972136962345848000000 ≤ v ∧ v ≤ 276038622972136962345848000000 := by clear e2 h hb hz hx hy bx bY hm0 e0 f0 hm1 e1 f1 hm2 ; omega
    clear h hb hc hz hx hy hv hm0 e0 f0 hm1 e1 f1 hm2 
    omega
  have g0 : a = 4861101 * m0 + (-7614618) * m1 + 3898768 * m2 := by rw [← hm0, ← hm1, ← hm2]; clear h hb hc hz hm0 hm1 hm2 e0 e1 e2 f0 f1 f2; omega
  have g1 : b = 8939898 * m0 + 1881913 * m1 + (-1202774) * m2 := by rw [← hm0, ← hm1, ← hm2]; clear h hb hc hz hm0 hm1 hm2 e0 e1 e2 f0 f1 f2 g0; omega
  have g2 : c = (-8195992) * m0 + 1994832 * m1 + (-858087) * m2 := by rw [← hm0, ← hm1, ← hm2]; clear h hb hc hz hm0 hm1 hm2 e0 e1 e2 f0 f1 f2 g0 g1; omega
  rw [f0, f1, f2] at g0 g1 g2
  exact ⟨by simpa using g0, by simpa using g1, by simpa using g2⟩
/-- Tenth powers with mantissas: less, greater, exponent of 2. -/
def tw (x : Nat) : Nat → Nat × Nat × Nat
  | 0 => (x, x, 0)
  | i + 1 =>
    let t := tw x i
    let s := Nat.log2 (t.1 ^ 10) - 220
    (t.1 ^ 10 / 2 ^ s, (t.2.1 ^ 10 + (2 ^ s - 1)) / 2 ^ s, 10 * t.2.2 + s)
theorem tw_ok (x : Nat) : ∀ i : Nat, (tw x i).1 * 2 ^ (tw x i).2.2 ≤ x ^ (10 ^ i) ∧ x ^ (10 ^ i) ≤ (tw x i).2.1 * 2 ^ (tw x i).2.2
  | 0 => by simp [tw]
  | i + 1 => by
    obtain ⟨h1, h2⟩ := tw_ok x i
    have e : x ^ (10 ^ (i + 1)) = (x ^ (10 ^ i)) ^ 10 := by rw [Nat.pow_succ, Nat.pow_mul]
    have k1 := Nat.pow_le_pow_left h1 10
    have k2 := Nat.pow_le_pow_left h2 10
    rw [← e] at k1 k2
    show (let t := tw x i; let s := Nat.log2 (t.1 ^ 10) - 220; (t.1 ^ 10 / 2 ^ s, (t.2.1 ^ 10 + (2 ^ s - 1)) / 2 ^ s, 10 * t.2.2 + s)).1 * 2 ^ (let t := tw x i; let s := Nat.log2 (t.1 ^ 10) - 220; (t.1 ^ 10 / 2 ^ s, (t.2.1 ^ 10 + (2 ^ s - 1)) / 2 ^ s, 10 * t.2.2 + s)).2.2 ≤ _ ∧ _ ≤ (let t := tw x i; let s := Nat.log2 (t.1 ^ 10) - 220; (t.1 ^ 10 / 2 ^ s, (t.2.1 ^ 10 + (2 ^ s - 1)) / 2 ^ s, 10 * t.2.2 + s)).2.1 * 2 ^ (let t := tw x i; let s := Nat.log2 (t.1 ^ 10) - 220; (t.1 ^ 10 / 2 ^ s, (t.2.1 ^ 10 + (2 ^ s - 1)) / 2 ^ s, 10 * t.2.2 + s)).2.2
    generalize tw x i = t at *
    obtain ⟨lo, hi, ex⟩ := t
    simp only at k1 k2 ⊢
    generalize Nat.log2 (lo ^ 10) - 220 = s
    rw [Nat.mul_pow, ← Nat.pow_mul] at k1 k2
    rw [Nat.pow_add, Nat.mul_comm 10 ex]
    have d1 : lo ^ 10 / 2 ^ s * 2 ^ s ≤ lo ^ 10 := Nat.div_mul_le_self _ _
    have d2 : hi ^ 10 ≤ ((hi ^ 10 + (2 ^ s - 1)) / 2 ^ s) * 2 ^ s := by
      have p : 0 < 2 ^ s := Nat.pow_pos (by decide)
      generalize 2 ^ s = m at *
      generalize hi ^ 10 = n at *
      have q := Nat.div_add_mod (n + (m - 1)) m
      have r := Nat.mod_lt (n + (m - 1)) p
      rw [Nat.mul_comm] at q
      omega
    refine ⟨Nat.le_trans ?_ k1, Nat.le_trans k2 ?_⟩
    · rw [show lo ^ 10 / 2 ^ s * (2 ^ (ex * 10) * 2 ^ s) = (lo ^ 10 / 2 ^ s * 2 ^ s) * 2 ^ (ex * 10) by ac_rfl]
      exact Nat.mul_le_mul_right _ d1
    · rw [show ((hi ^ 10 + (2 ^ s - 1)) / 2 ^ s) * (2 ^ (ex * 10) * 2 ^ s) = (((hi ^ 10 + (2 ^ s - 1)) / 2 ^ s) * 2 ^ s) * 2 ^ (ex * 10) by ac_rfl]
      exact Nat.mul_le_mul_right _ d2
theorem tw_pow (x L t : Nat) (N : Nat) (hN : N = 10 ^ 30) (h : ((tw x 30).2.2 + t == L && Nat.ble (2 ^ t) (tw x 30).1 && Nat.ble (tw x 30).2.1 (2 ^ (t + 1))) = true) : 2 ^ L ≤ x ^ N ∧ x ^ N ≤ 2 ^ (L + 1) := by
  obtain ⟨h1, h2⟩ := tw_ok x 30
  rw [← hN] at h1 h2
  simp only [Bool.and_eq_true, beq_iff_eq, Nat.ble_eq] at h
  obtain ⟨⟨e, f⟩, g⟩ := h
  rw [← e]
  refine ⟨Nat.le_trans ?_ h1, Nat.le_trans h2 ?_⟩
  · rw [Nat.add_comm, Nat.pow_add]; exact Nat.mul_le_mul_right _ f
  · rw [Nat.add_assoc, Nat.add_comm, Nat.pow_add]; exact Nat.mul_le_mul_right _ g
theorem three (N : Nat) (hN : N = 10 ^ 30) : 2 ^ 1584962500721156181453738943947 ≤ 3 ^ N ∧ 3 ^ N ≤ 2 ^ (1584962500721156181453738943947 + 1) := tw_pow 3 1584962500721156181453738943947 220 N hN (by kernel_rfl)
theorem five (N : Nat) (hN : N = 10 ^ 30) : 2 ^ 2321928094887362347870319429489 ≤ 5 ^ N ∧ 5 ^ N ≤ 2 ^ (2321928094887362347870319429489 + 1) := tw_pow 5 2321928094887362347870319429489 220 N hN (by kernel_rfl)
set_option maxHeartbeats 2000000 in
theorem prod_lt (A B C A' B' C' N l3 l5 : Nat) (_hN : 0 < N) (h3 : 2 ^ l3 ≤ 3 ^ N) (h3' : 3 ^ N ≤ 2 ^ (l3 + 1)) (h5 : 2 ^ l5 ≤ 5 ^ N) (h5' : 5 ^ N ≤ 2 ^ (l5 + 1)) (hlt : A' * N + (l3 + 1) * B' + (l5 + 1) * C' < A * N + l3 * B + l5 * C) :
    2 ^ A' * 3 ^ B' * 5 ^ C' < 2 ^ A * 3 ^ B * 5 ^ C := by
  rcases Nat.lt_or_ge (2 ^ A' * 3 ^ B' * 5 ^ C') (2 ^ A * 3 ^ B * 5 ^ C) with h | h
  · exact h
  · exfalso
    have k := Nat.pow_le_pow_left h N
    have split : ∀ X Y Z : Nat, (2 ^ X * 3 ^ Y * 5 ^ Z) ^ N = 2 ^ (X * N) * (3 ^ N) ^ Y * (5 ^ N) ^ Z := fun X Y Z => by
      rw [Nat.mul_pow, Nat.mul_pow, ← Nat.pow_mul, ← Nat.pow_mul, ← Nat.pow_mul, ← Nat.pow_mul, ← Nat.pow_mul, Nat.mul_comm Y N, Nat.mul_comm Z N]
    rw [split, split] at k
    have lo : 2 ^ (A * N + l3 * B + l5 * C) ≤ 2 ^ (A * N) * (3 ^ N) ^ B * (5 ^ N) ^ C := by
      rw [Nat.pow_add, Nat.pow_add, Nat.pow_mul 2 l3 B, Nat.pow_mul 2 l5 C]
      exact Nat.mul_le_mul (Nat.mul_le_mul (Nat.le_refl _) (Nat.pow_le_pow_left h3 B)) (Nat.pow_le_pow_left h5 C)
    have hi : 2 ^ (A' * N) * (3 ^ N) ^ B' * (5 ^ N) ^ C' ≤ 2 ^ (A' * N + (l3 + 1) * B' + (l5 + 1) * C') := by
      rw [Nat.pow_add, Nat.pow_add, Nat.pow_mul 2 (l3 + 1) B', Nat.pow_mul 2 (l5 + 1) C']
      exact Nat.mul_le_mul (Nat.mul_le_mul (Nat.le_refl _) (Nat.pow_le_pow_left h3' B')) (Nat.pow_le_pow_left h5' C')
    have e := Nat.le_trans lo (Nat.le_trans k hi)
    have := (Nat.pow_le_pow_iff_right (by decide : 1 < 2)).1 e
    omega
/-- The sum of the logarithms has the sign of the product of powers. -/
theorem sign_logs (a b c : Int) (hb : -1000000 ≤ b ∧ b ≤ 1000000) (hc : -1000000 ≤ c ∧ c ≤ 1000000) :
    sg (((2 ^ a.toNat * 3 ^ b.toNat * 5 ^ c.toNat : Nat) : Int) - ((2 ^ (-a).toNat * 3 ^ (-b).toNat * 5 ^ (-c).toNat : Nat) : Int)) = sg (lg a b c) := by
  obtain ⟨N, hN⟩ : ∃ N : Nat, N = 10 ^ 30 := ⟨_, rfl⟩
  have t3 := three N hN
  have t5 := five N hN
  have hNv : N = 1000000000000000000000000000000 := hN
  obtain ⟨l3, hl3⟩ : ∃ l : Nat, l = 1584962500721156181453738943947 := ⟨_, rfl⟩
  obtain ⟨l5, hl5⟩ : ∃ l : Nat, l = 2321928094887362347870319429489 := ⟨_, rfl⟩
  rw [← hl3] at t3
  rw [← hl5] at t5
  have hlg : lg a b c = a * 1000000000000000000000000000000 + b * 1584962500721156181453738943947 + c * 2321928094887362347870319429489 := rfl
  by_cases h0 : -2000000 ≤ lg a b c ∧ lg a b c ≤ 2000000
  · rw [hlg] at h0
    obtain ⟨rfl, rfl, rfl⟩ := lattice hb hc h0
    rfl
  · obtain ⟨A, hA⟩ : ∃ A : Nat, a.toNat = A := ⟨_, rfl⟩
    obtain ⟨A', hA'⟩ : ∃ A : Nat, (-a).toNat = A := ⟨_, rfl⟩
    obtain ⟨B, hB⟩ : ∃ A : Nat, b.toNat = A := ⟨_, rfl⟩
    obtain ⟨B', hB'⟩ : ∃ A : Nat, (-b).toNat = A := ⟨_, rfl⟩
    obtain ⟨C, hC⟩ : ∃ A : Nat, c.toNat = A := ⟨_, rfl⟩
    obtain ⟨C', hC'⟩ : ∃ A : Nat, (-c).toNat = A := ⟨_, rfl⟩
    rw [hA, hA', hB, hB', hC, hC']
    have ea : a = (A : Int) - A' := by omega
    have eb : b = (B : Int) - B' := by omega
    have ec : c = (C : Int) - C' := by omega
    have bs : B ≤ 1000000 ∧ B' ≤ 1000000 ∧ C ≤ 1000000 ∧ C' ≤ 1000000 := by omega
    clear hA hA' hB hB' hC hC'
    have hl : lg a b c = ((A : Int) - A') * 1000000000000000000000000000000 + ((B : Int) - B') * 1584962500721156181453738943947 + ((C : Int) - C') * 2321928094887362347870319429489 := by rw [hlg, ea, eb, ec]
    generalize lg a b c = z at *
    clear hlg ea eb ec hb hc
    rcases Int.lt_or_le z 0 with hz | hz
    · have hk := prod_lt A' B' C' A B C N l3 l5 (by omega) t3.1 t3.2 t5.1 t5.2 (by rw [hNv, hl3, hl5]; clear t3 t5 hN hNv hl3 hl5; omega)
      generalize 2 ^ A' * 3 ^ B' * 5 ^ C' = u at *
      generalize 2 ^ A * 3 ^ B * 5 ^ C = v at *
      clear t3 t5 hN hNv hl3 hl5 hl
      unfold sg
      rw [if_neg (by omega), if_pos (by omega), if_neg (by omega), if_pos (by omega)]
    · have hk := prod_lt A B C A' B' C' N l3 l5 (by omega) t3.1 t3.2 t5.1 t5.2 (by rw [hNv, hl3, hl5]; clear t3 t5 hN hNv hl3 hl5; omega)
      generalize 2 ^ A' * 3 ^ B' * 5 ^ C' = u at *
      generalize 2 ^ A * 3 ^ B * 5 ^ C = v at *
      clear t3 t5 hN hNv hl3 hl5 hl
      unfold sg
      rw [if_neg (by omega), if_neg (by omega), if_neg (by omega), if_neg (by omega)]
end Go.Proofs.YthdoadkdofgenaaGreatDoor.Iv
