/- The reference's Power; IntegerPowers, the walk. -/
import Derived.Test.YtnchodofgaaeeaaGreatDoorImYg
import Derived.Test.YtnchodofgaaeeaaGreatDoorImO
namespace Go.Proofs.YtnchodofgaaeeaaGreatDoor
open Go Go.RowKit Go.Shelf

theorem pow_small {z : Int} (hz : z.natAbs < 10 ^ 6) {m : Nat} (hm : m ≤ 130) : ∃ N : Nat, N ≤ 781 ∧ 0 < N ∧ (z ^ m).natAbs < 10 ^ N := by
  refine ⟨6 * m + 1, by omega, by omega, ?_⟩
  rw [Int.natAbs_pow]
  have h1 : z.natAbs ^ m ≤ (10 ^ 6) ^ m := Nat.pow_le_pow_left (Nat.le_of_lt hz) m
  rw [← Nat.pow_mul] at h1
  exact Nat.lt_of_le_of_lt h1 (Nat.pow_lt_pow_right (by decide) (Nat.lt_succ_self _))
theorem pow_size {z : Int} (hz : z.natAbs < 10 ^ 6) {m : Nat} (hm : m ≤ 130) : (tz (z ^ m)).size ≤ 782 := by
  obtain ⟨N, h1, h2, h3⟩ := pow_small hz hm
  have := len_tz h3 h2
  omega
theorem pow_cn {z : Int} (hz : z.natAbs < 10 ^ 6) {m : Nat} (hm : m ≤ 130) : Cn (tz (z ^ m)) := by
  obtain ⟨N, h1, h2, h3⟩ := pow_small hz hm
  exact cn_tz h3 h2 (by omega)
theorem two_pow_le {j : Nat} (h : j ≤ 6) : 2 ^ j ≤ 64 := Nat.pow_le_pow_right (n := 2) (by decide) h

set_option maxRecDepth 100000 in
set_option maxHeartbeats 2000000 in
theorem rpower_c (s : ByteArray) (hs : Cn s) (hz : (iv s).natAbs < 10 ^ 6) (n : Nat) (hn : n ≤ 60) (w : World) (G : Gi w) :
    Calls Tryz.prog 44 #[.string s, .int .i64 n] w fun e w' => e = .returned (.string (tz (iv s ^ n))) ∧ Below w.heap.size w w' := by
  obtain ⟨z, hzz⟩ : ∃ z, iv s = z := ⟨_, rfl⟩
  rw [hzz] at hz ⊢
  have hst : s = tz (z ^ 1) := by rw [Int.pow_succ, Int.pow_zero, Int.one_mul, ← hzz]; exact (tz_iv hs.canon).symm
  have MM := Lib.hid (fun (p q : Nat) (hp : p ≤ 130) (hq : q ≤ 130) W G => by
    have h := rmul_c (tz (z ^ p)) (tz (z ^ q)) (pow_cn hz hp) (pow_cn hz hq) (by have := pow_size hz hp; omega) (by have := pow_size hz hq; omega) W G
    rw [iv_tz, iv_tz, ← Int.pow_add] at h
    exact h)
  have H1 := Lib.hid (show (ByteArray.mk #[49]) = tz (z ^ 0) by rw [Int.pow_zero]; exact ext_bytes (show Lib.itoa 1 = [49] by rw [Im.itoa_nonneg (by decide)]; exact Im.dec_small (by decide)).symm)
  have HS := Lib.hid hst
  clear hs hz hzz hst
  obtain ⟨D, hD⟩ : ∃ D, w.heap.size = D := ⟨_, rfl⟩
  go_enter Tryz.func44, Tryz.ntmps44
  go_wp2_with fail
  go_loopw [0, 1, 5] (fun b c o wr => ∃ j : Nat, j ≤ 6 ∧ c = .int .i64 ((n / 2 ^ j : Nat) : Int) ∧ b = .string (tz (z ^ (2 ^ j))) ∧ o = .string (tz (z ^ (n % 2 ^ j))) ∧ Below D w wr) (fun _ c _ _ => (intOf c).toNat)
  case atStart => exact ⟨0, by decide, by rw [Nat.pow_zero, Nat.div_one], by rw [HS.out, Nat.pow_zero], by rw [Nat.pow_zero, Nat.mod_one, ← H1.out], Below.refl _ _⟩
  case round =>
    obtain ⟨j, hj, rfl, rfl, rfl, hw⟩ := hrel
    have hpj := two_pow_le hj
    have hp0 : 0 < 2 ^ j := Nat.pow_pos (by decide)
    have hmod := Nat.mod_lt n hp0
    have GW := G.below (hD ▸ hw)
    by_cases h0 : n / 2 ^ j = 0
    · have hlt : n < 2 ^ j := by
        rcases (Nat.div_eq_zero_iff).1 h0 with h | h
        · omega
        · exact h
      rw [h0, Nat.mod_eq_of_lt hlt]
      have hi : ¬ (0 : Int) < ((0 : Nat) : Int) := by decide
      clear hlt hmod hp0 hpj h0
      go_wp2
      go_ret
      exact ⟨rfl, by first | exact hw | (rw [hD]; exact hw)⟩
    · have hj6 : j < 6 := by
        rcases Nat.lt_or_ge j 6 with h | h
        · exact h
        · exfalso
          obtain rfl : j = 6 := by omega
          apply h0
          exact Nat.div_eq_of_lt (by omega)
      have hsplit : n % 2 ^ (j + 1) = n % 2 ^ j + 2 ^ j * (n / 2 ^ j % 2) := Nat.mod_pow_succ
      have hdiv : n / 2 ^ (j + 1) = n / 2 ^ j / 2 := by rw [Nat.pow_succ, Nat.div_div_eq_div_mul]
      have hdbl : 2 ^ (j + 1) = 2 ^ j + 2 ^ j := by rw [Nat.pow_succ]; omega
      have M2 := Lib.hid (MM.out (2 ^ j) (2 ^ j) (by omega) (by omega))
      have M1 := Lib.hid (MM.out (n % 2 ^ j) (2 ^ j) (by omega) (by omega))
      have hqle : n / 2 ^ j ≤ 60 := Nat.le_trans (Nat.div_le_self _ _) hn
      obtain ⟨q, hq⟩ : ∃ q, n / 2 ^ j = q := ⟨_, rfl⟩
      rw [hq] at hsplit hdiv hqle h0 ⊢
      rw [← hdbl] at M2
      have HDIV := Lib.hid hdiv
      have hi : (0 : Int) < (q : Int) := by omega
      have hq2 : (q : Int).tdiv 2 = ((q / 2 : Nat) : Int) := by rw [Int.tdiv_eq_ediv_of_nonneg (by omega)]; omega
      obtain ⟨q2, hqq⟩ : ∃ q2, q / 2 = q2 := ⟨_, rfl⟩
      rw [hqq] at hq2 HDIV
      have hq2l : q2 ≤ 60 := by omega
      have hq2s : q2 < q := by omega
      by_cases ho : q % 2 = 1
      · have hr : (q : Int).tmod 2 = 1 := by rw [Int.tmod_eq_emod_of_nonneg (by omega)]; omega
        rw [ho, Nat.mul_one] at hsplit
        have HSP := Lib.hid hsplit
        rw [← hsplit] at M1
        generalize tz (z ^ (n % 2 ^ j)) = O1 at *
        generalize tz (z ^ 2 ^ j) = B1 at *
        clear hsplit hdiv hdbl hq hmod hp0 hpj ho hqq
        go_wp2_with fail
        refine (M1.out _ GW).mono ?_
        rintro e w3 ⟨rfl, b3⟩
        have hw3 := hw.trans (b3.mono (by have := hw.size; omega))
        go_wp2_with fail
        refine (M2.out _ (G.below (hD ▸ hw3))).mono ?_
        rintro e w4 ⟨rfl, b4⟩
        have hw4 := hw3.trans (b4.mono (by have := hw3.size; omega))
        go_wp2_with fail
        go_roundw
        case rel => exact ⟨j + 1, by omega, by rw [HDIV.out], rfl, rfl, hw4⟩
        case measure => simp [intOf]; omega
      · have hr : (q : Int).tmod 2 = 0 := by rw [Int.tmod_eq_emod_of_nonneg (by omega)]; omega
        have HSP := Lib.hid (show n % 2 ^ (j + 1) = n % 2 ^ j by rw [hsplit, show q % 2 = 0 by omega, Nat.mul_zero]; rfl)
        generalize hO : tz (z ^ (n % 2 ^ j)) = O1 at *
        have HO := Lib.hid hO
        generalize tz (z ^ 2 ^ j) = B1 at *
        clear hsplit hdiv hdbl hq hmod hp0 hpj ho hqq hO
        go_wp2_with fail
        refine (M2.out _ GW).mono ?_
        rintro e w4 ⟨rfl, b4⟩
        have hw4 := hw.trans (b4.mono (by have := hw.size; omega))
        go_wp2_with fail
        go_roundw
        case rel => exact ⟨j + 1, by omega, by rw [HDIV.out], rfl, by rw [HSP.out, HO.out], hw4⟩
        case measure => simp [intOf]; omega

set_option maxRecDepth 100000 in
theorem powers_no (a : ByteArray) (m n : Int) (hf : fitB a = false) (w : World) (G : Gi w) :
    Calls Tryz.prog 10 #[.string a, .int .i64 m, .int .i64 n] w fun e w' => e = .returned (.bool true) ∧ Below w.heap.size w w' := by
  have K := Lib.hid (fun W (G : Gi W) => known_any W G)
  have F := Lib.hid (fun W => fits_new [a] (by simp) 22 W 1 rfl)
  rw [show [a].all fitB = false by simp [hf]] at F
  go_enter Tryz.func10, Tryz.ntmps10
  go_wp2_with fail
  refine (K.out _ G).mono ?_
  rintro e wk ⟨rfl, hbk⟩
  go_wp2_with fail
  refine (F.out wk).mono ?_
  rintro e w0 ⟨rfl, b0⟩
  have hb0 := hbk.trans (b0.mono hbk.size)
  go_wp2_with fail
  refine (K.out _ (G.below hb0)).mono ?_
  rintro e w1 ⟨rfl, b1⟩
  go_wp2
  go_ret
  exact ⟨rfl, hb0.trans (b1.mono hb0.size)⟩
set_option maxRecDepth 100000 in
theorem powers_long (a : ByteArray) (m n : Int) (hf : fitB a = true) (hl : 6 < a.size) (w : World) (G : Gi w) :
    Calls Tryz.prog 10 #[.string a, .int .i64 m, .int .i64 n] w fun e w' => e = .returned (.bool true) ∧ Below w.heap.size w w' := by
  have K := Lib.hid (fun W (G : Gi W) => known_any W G)
  have F := Lib.hid (fun W => fits_new [a] (by simp) 22 W 1 rfl)
  rw [show [a].all fitB = true by simp [hf]] at F
  have hli : (6 : Int) < (a.size : Int) := by omega
  go_enter Tryz.func10, Tryz.ntmps10
  go_wp2_with fail
  refine (K.out _ G).mono ?_
  rintro e wk ⟨rfl, hbk⟩
  go_wp2_with fail
  refine (F.out wk).mono ?_
  rintro e w0 ⟨rfl, b0⟩
  have hb0 := hbk.trans (b0.mono hbk.size)
  go_wp2_with fail
  refine (K.out _ (G.below hb0)).mono ?_
  rintro e w1 ⟨rfl, b1⟩
  go_wp2
  go_ret
  exact ⟨rfl, hb0.trans (b1.mono hb0.size)⟩
set_option maxRecDepth 100000 in
theorem powers_m (a : ByteArray) (m n : Int) (hf : fitB a = true) (hl : ¬ 6 < a.size) (h1 : 60 < m) (h2 : m ≤ 6000) (w : World) (G : Gi w) :
    Calls Tryz.prog 10 #[.string a, .int .i64 m, .int .i64 n] w fun e w' => e = .returned (.bool true) ∧ Below w.heap.size w w' := by
  have K := Lib.hid (fun W (G : Gi W) => known_any W G)
  have F := Lib.hid (fun W => fits_new [a] (by simp) 22 W 1 rfl)
  rw [show [a].all fitB = true by simp [hf]] at F
  have hli : ¬ (6 : Int) < (a.size : Int) := by omega
  go_enter Tryz.func10, Tryz.ntmps10
  go_wp2_with fail
  refine (K.out _ G).mono ?_
  rintro e wk ⟨rfl, hbk⟩
  go_wp2_with fail
  refine (F.out wk).mono ?_
  rintro e w0 ⟨rfl, b0⟩
  have hb0 := hbk.trans (b0.mono hbk.size)
  go_wp2_with fail
  refine (K.out _ (G.below hb0)).mono ?_
  rintro e w1 ⟨rfl, b1⟩
  go_wp2
  go_ret
  exact ⟨rfl, hb0.trans (b1.mono hb0.size)⟩
set_option maxRecDepth 100000 in
theorem powers_na (a : ByteArray) (m n : Int) (hf : fitB a = true) (hl : ¬ 6 < a.size) (h3 : ¬ 60 < m) (h1 : 60 < n) (h2 : n ≤ 6000) (w : World) (G : Gi w) :
    Calls Tryz.prog 10 #[.string a, .int .i64 m, .int .i64 n] w fun e w' => e = .returned (.bool true) ∧ Below w.heap.size w w' := by
  have K := Lib.hid (fun W (G : Gi W) => known_any W G)
  have F := Lib.hid (fun W => fits_new [a] (by simp) 22 W 1 rfl)
  rw [show [a].all fitB = true by simp [hf]] at F
  have hli : ¬ (6 : Int) < (a.size : Int) := by omega
  go_enter Tryz.func10, Tryz.ntmps10
  go_wp2_with fail
  refine (K.out _ G).mono ?_
  rintro e wk ⟨rfl, hbk⟩
  go_wp2_with fail
  refine (F.out wk).mono ?_
  rintro e w0 ⟨rfl, b0⟩
  have hb0 := hbk.trans (b0.mono hbk.size)
  go_wp2_with fail
  refine (K.out _ (G.below hb0)).mono ?_
  rintro e w1 ⟨rfl, b1⟩
  go_wp2
  go_ret
  exact ⟨rfl, hb0.trans (b1.mono hb0.size)⟩
set_option maxRecDepth 100000 in
theorem powers_nb (a : ByteArray) (m n : Int) (hf : fitB a = true) (hl : ¬ 6 < a.size) (h3 : 60 < m) (h4 : ¬ m ≤ 6000) (h1 : 60 < n) (h2 : n ≤ 6000) (w : World) (G : Gi w) :
    Calls Tryz.prog 10 #[.string a, .int .i64 m, .int .i64 n] w fun e w' => e = .returned (.bool true) ∧ Below w.heap.size w w' := by
  have K := Lib.hid (fun W (G : Gi W) => known_any W G)
  have F := Lib.hid (fun W => fits_new [a] (by simp) 22 W 1 rfl)
  rw [show [a].all fitB = true by simp [hf]] at F
  have hli : ¬ (6 : Int) < (a.size : Int) := by omega
  go_enter Tryz.func10, Tryz.ntmps10
  go_wp2_with fail
  refine (K.out _ G).mono ?_
  rintro e wk ⟨rfl, hbk⟩
  go_wp2_with fail
  refine (F.out wk).mono ?_
  rintro e w0 ⟨rfl, b0⟩
  have hb0 := hbk.trans (b0.mono hbk.size)
  go_wp2_with fail
  refine (K.out _ (G.below hb0)).mono ?_
  rintro e w1 ⟨rfl, b1⟩
  go_wp2
  go_ret
  exact ⟨rfl, hb0.trans (b1.mono hb0.size)⟩
set_option maxRecDepth 100000 in
set_option maxHeartbeats 4000000 in
theorem powers_neg_ok (a : ByteArray) (m n : Int) (hf : fitB a = true) (hl : ¬ 6 < a.size) (Y : ByteArray) (f : Int) (PN : Hid (∀ W, Gi W → Calls Tryz.prog 43 #[.string a, .int .i64 n] W fun e w' => e = .returned (.tuple #[.string Y, .int .i64 f]) ∧ Below W.heap.size W w')) (m0 : m < 0) (n0 : 0 ≤ n) (n1 : n ≤ 60) (w : World) (G : Gi w) :
    Calls Tryz.prog 10 #[.string a, .int .i64 m, .int .i64 n] w fun e w' => e = .returned (.bool true) ∧ Below w.heap.size w w' := by
  have K := Lib.hid (fun W (G : Gi W) => known_any W G)
  have F := Lib.hid (fun W => fits_new [a] (by simp) 22 W 1 rfl)
  rw [show [a].all fitB = true by simp [hf]] at F
  have hli : ¬ (6 : Int) < (a.size : Int) := by omega
  have PM := Lib.hid (fun W (_ : Gi W) => (power_range a m (by omega) W).mono fun e w' (h : _ ∧ w' = W) => (⟨h.1, h.2 ▸ Below.refl _ _⟩ : _ ∧ Below W.heap.size W w'))
  clear hf hl
  go_enter Tryz.func10, Tryz.ntmps10
  go_wp2_with fail
  refine (K.out _ G).mono ?_
  rintro e wk ⟨rfl, hbk⟩
  go_wp2_with fail
  refine (F.out wk).mono ?_
  rintro e w0 ⟨rfl, b0⟩
  have hb0 := hbk.trans (b0.mono hbk.size)
  have g0 := G.below hb0
  go_wp2_with fail
  refine (PM.out _ g0).mono ?_
  rintro e w1 ⟨rfl, b1⟩
  have hb1 := hb0.trans (b1.mono hb0.size)
  have g1 := G.below hb1
  go_wp2_with fail
  refine (PN.out _ g1).mono ?_
  rintro e w2 ⟨rfl, b2⟩
  have hb2 := hb1.trans (b2.mono hb1.size)
  have g2 := G.below hb2
  go_wp2
  go_ret
  exact ⟨rfl, hb2⟩
set_option maxRecDepth 100000 in
set_option maxHeartbeats 4000000 in
theorem powers_neg_neg (a : ByteArray) (m n : Int) (hf : fitB a = true) (hl : ¬ 6 < a.size) (Y : ByteArray) (f : Int) (PN : Hid (∀ W, Gi W → Calls Tryz.prog 43 #[.string a, .int .i64 n] W fun e w' => e = .returned (.tuple #[.string Y, .int .i64 f]) ∧ Below W.heap.size W w')) (m0 : m < 0) (n0 : n < 0) (w : World) (G : Gi w) :
    Calls Tryz.prog 10 #[.string a, .int .i64 m, .int .i64 n] w fun e w' => e = .returned (.bool true) ∧ Below w.heap.size w w' := by
  have K := Lib.hid (fun W (G : Gi W) => known_any W G)
  have F := Lib.hid (fun W => fits_new [a] (by simp) 22 W 1 rfl)
  rw [show [a].all fitB = true by simp [hf]] at F
  have hli : ¬ (6 : Int) < (a.size : Int) := by omega
  have PM := Lib.hid (fun W (_ : Gi W) => (power_range a m (by omega) W).mono fun e w' (h : _ ∧ w' = W) => (⟨h.1, h.2 ▸ Below.refl _ _⟩ : _ ∧ Below W.heap.size W w'))
  clear hf hl
  go_enter Tryz.func10, Tryz.ntmps10
  go_wp2_with fail
  refine (K.out _ G).mono ?_
  rintro e wk ⟨rfl, hbk⟩
  go_wp2_with fail
  refine (F.out wk).mono ?_
  rintro e w0 ⟨rfl, b0⟩
  have hb0 := hbk.trans (b0.mono hbk.size)
  have g0 := G.below hb0
  go_wp2_with fail
  refine (PM.out _ g0).mono ?_
  rintro e w1 ⟨rfl, b1⟩
  have hb1 := hb0.trans (b1.mono hb0.size)
  have g1 := G.below hb1
  go_wp2_with fail
  refine (PN.out _ g1).mono ?_
  rintro e w2 ⟨rfl, b2⟩
  have hb2 := hb1.trans (b2.mono hb1.size)
  have g2 := G.below hb2
  go_wp2
  go_ret
  exact ⟨rfl, hb2⟩
set_option maxRecDepth 100000 in
set_option maxHeartbeats 4000000 in
theorem powers_neg_big (a : ByteArray) (m n : Int) (hf : fitB a = true) (hl : ¬ 6 < a.size) (Y : ByteArray) (f : Int) (PN : Hid (∀ W, Gi W → Calls Tryz.prog 43 #[.string a, .int .i64 n] W fun e w' => e = .returned (.tuple #[.string Y, .int .i64 f]) ∧ Below W.heap.size W w')) (m0 : m < 0) (n0 : 6000 < n) (w : World) (G : Gi w) :
    Calls Tryz.prog 10 #[.string a, .int .i64 m, .int .i64 n] w fun e w' => e = .returned (.bool true) ∧ Below w.heap.size w w' := by
  have K := Lib.hid (fun W (G : Gi W) => known_any W G)
  have F := Lib.hid (fun W => fits_new [a] (by simp) 22 W 1 rfl)
  rw [show [a].all fitB = true by simp [hf]] at F
  have hli : ¬ (6 : Int) < (a.size : Int) := by omega
  have PM := Lib.hid (fun W (_ : Gi W) => (power_range a m (by omega) W).mono fun e w' (h : _ ∧ w' = W) => (⟨h.1, h.2 ▸ Below.refl _ _⟩ : _ ∧ Below W.heap.size W w'))
  clear hf hl
  go_enter Tryz.func10, Tryz.ntmps10
  go_wp2_with fail
  refine (K.out _ G).mono ?_
  rintro e wk ⟨rfl, hbk⟩
  go_wp2_with fail
  refine (F.out wk).mono ?_
  rintro e w0 ⟨rfl, b0⟩
  have hb0 := hbk.trans (b0.mono hbk.size)
  have g0 := G.below hb0
  go_wp2_with fail
  refine (PM.out _ g0).mono ?_
  rintro e w1 ⟨rfl, b1⟩
  have hb1 := hb0.trans (b1.mono hb0.size)
  have g1 := G.below hb1
  go_wp2_with fail
  refine (PN.out _ g1).mono ?_
  rintro e w2 ⟨rfl, b2⟩
  have hb2 := hb1.trans (b2.mono hb1.size)
  have g2 := G.below hb2
  go_wp2
  go_ret
  exact ⟨rfl, hb2⟩
set_option maxRecDepth 100000 in
set_option maxHeartbeats 4000000 in
theorem powers_big_ok (a : ByteArray) (m n : Int) (hf : fitB a = true) (hl : ¬ 6 < a.size) (Y : ByteArray) (f : Int) (PN : Hid (∀ W, Gi W → Calls Tryz.prog 43 #[.string a, .int .i64 n] W fun e w' => e = .returned (.tuple #[.string Y, .int .i64 f]) ∧ Below W.heap.size W w')) (m0 : 6000 < m) (n0 : 0 ≤ n) (n1 : n ≤ 60) (w : World) (G : Gi w) :
    Calls Tryz.prog 10 #[.string a, .int .i64 m, .int .i64 n] w fun e w' => e = .returned (.bool true) ∧ Below w.heap.size w w' := by
  have K := Lib.hid (fun W (G : Gi W) => known_any W G)
  have F := Lib.hid (fun W => fits_new [a] (by simp) 22 W 1 rfl)
  rw [show [a].all fitB = true by simp [hf]] at F
  have hli : ¬ (6 : Int) < (a.size : Int) := by omega
  have PM := Lib.hid (fun W (_ : Gi W) => (power_range a m (by omega) W).mono fun e w' (h : _ ∧ w' = W) => (⟨h.1, h.2 ▸ Below.refl _ _⟩ : _ ∧ Below W.heap.size W w'))
  clear hf hl
  go_enter Tryz.func10, Tryz.ntmps10
  go_wp2_with fail
  refine (K.out _ G).mono ?_
  rintro e wk ⟨rfl, hbk⟩
  go_wp2_with fail
  refine (F.out wk).mono ?_
  rintro e w0 ⟨rfl, b0⟩
  have hb0 := hbk.trans (b0.mono hbk.size)
  have g0 := G.below hb0
  go_wp2_with fail
  refine (PM.out _ g0).mono ?_
  rintro e w1 ⟨rfl, b1⟩
  have hb1 := hb0.trans (b1.mono hb0.size)
  have g1 := G.below hb1
  go_wp2_with fail
  refine (PN.out _ g1).mono ?_
  rintro e w2 ⟨rfl, b2⟩
  have hb2 := hb1.trans (b2.mono hb1.size)
  have g2 := G.below hb2
  go_wp2
  go_ret
  exact ⟨rfl, hb2⟩
set_option maxRecDepth 100000 in
set_option maxHeartbeats 4000000 in
theorem powers_big_neg (a : ByteArray) (m n : Int) (hf : fitB a = true) (hl : ¬ 6 < a.size) (Y : ByteArray) (f : Int) (PN : Hid (∀ W, Gi W → Calls Tryz.prog 43 #[.string a, .int .i64 n] W fun e w' => e = .returned (.tuple #[.string Y, .int .i64 f]) ∧ Below W.heap.size W w')) (m0 : 6000 < m) (n0 : n < 0) (w : World) (G : Gi w) :
    Calls Tryz.prog 10 #[.string a, .int .i64 m, .int .i64 n] w fun e w' => e = .returned (.bool true) ∧ Below w.heap.size w w' := by
  have K := Lib.hid (fun W (G : Gi W) => known_any W G)
  have F := Lib.hid (fun W => fits_new [a] (by simp) 22 W 1 rfl)
  rw [show [a].all fitB = true by simp [hf]] at F
  have hli : ¬ (6 : Int) < (a.size : Int) := by omega
  have PM := Lib.hid (fun W (_ : Gi W) => (power_range a m (by omega) W).mono fun e w' (h : _ ∧ w' = W) => (⟨h.1, h.2 ▸ Below.refl _ _⟩ : _ ∧ Below W.heap.size W w'))
  clear hf hl
  go_enter Tryz.func10, Tryz.ntmps10
  go_wp2_with fail
  refine (K.out _ G).mono ?_
  rintro e wk ⟨rfl, hbk⟩
  go_wp2_with fail
  refine (F.out wk).mono ?_
  rintro e w0 ⟨rfl, b0⟩
  have hb0 := hbk.trans (b0.mono hbk.size)
  have g0 := G.below hb0
  go_wp2_with fail
  refine (PM.out _ g0).mono ?_
  rintro e w1 ⟨rfl, b1⟩
  have hb1 := hb0.trans (b1.mono hb0.size)
  have g1 := G.below hb1
  go_wp2_with fail
  refine (PN.out _ g1).mono ?_
  rintro e w2 ⟨rfl, b2⟩
  have hb2 := hb1.trans (b2.mono hb1.size)
  have g2 := G.below hb2
  go_wp2
  go_ret
  exact ⟨rfl, hb2⟩
set_option maxRecDepth 100000 in
set_option maxHeartbeats 4000000 in
theorem powers_big_big (a : ByteArray) (m n : Int) (hf : fitB a = true) (hl : ¬ 6 < a.size) (Y : ByteArray) (f : Int) (PN : Hid (∀ W, Gi W → Calls Tryz.prog 43 #[.string a, .int .i64 n] W fun e w' => e = .returned (.tuple #[.string Y, .int .i64 f]) ∧ Below W.heap.size W w')) (m0 : 6000 < m) (n0 : 6000 < n) (w : World) (G : Gi w) :
    Calls Tryz.prog 10 #[.string a, .int .i64 m, .int .i64 n] w fun e w' => e = .returned (.bool true) ∧ Below w.heap.size w w' := by
  have K := Lib.hid (fun W (G : Gi W) => known_any W G)
  have F := Lib.hid (fun W => fits_new [a] (by simp) 22 W 1 rfl)
  rw [show [a].all fitB = true by simp [hf]] at F
  have hli : ¬ (6 : Int) < (a.size : Int) := by omega
  have PM := Lib.hid (fun W (_ : Gi W) => (power_range a m (by omega) W).mono fun e w' (h : _ ∧ w' = W) => (⟨h.1, h.2 ▸ Below.refl _ _⟩ : _ ∧ Below W.heap.size W w'))
  clear hf hl
  go_enter Tryz.func10, Tryz.ntmps10
  go_wp2_with fail
  refine (K.out _ G).mono ?_
  rintro e wk ⟨rfl, hbk⟩
  go_wp2_with fail
  refine (F.out wk).mono ?_
  rintro e w0 ⟨rfl, b0⟩
  have hb0 := hbk.trans (b0.mono hbk.size)
  have g0 := G.below hb0
  go_wp2_with fail
  refine (PM.out _ g0).mono ?_
  rintro e w1 ⟨rfl, b1⟩
  have hb1 := hb0.trans (b1.mono hb0.size)
  have g1 := G.below hb1
  go_wp2_with fail
  refine (PN.out _ g1).mono ?_
  rintro e w2 ⟨rfl, b2⟩
  have hb2 := hb1.trans (b2.mono hb1.size)
  have g2 := G.below hb2
  go_wp2
  go_ret
  exact ⟨rfl, hb2⟩
set_option maxRecDepth 100000 in
set_option maxHeartbeats 4000000 in
theorem powers_ok_ok (a : ByteArray) (m n : Int) (hf : fitB a = true) (hl : ¬ 6 < a.size) (Y : ByteArray) (f : Int) (PN : Hid (∀ W, Gi W → Calls Tryz.prog 43 #[.string a, .int .i64 n] W fun e w' => e = .returned (.tuple #[.string Y, .int .i64 f]) ∧ Below W.heap.size W w')) (m0 : 0 ≤ m) (m1 : m ≤ 60) (n0 : 0 ≤ n) (n1 : n ≤ 60) (hY : ∀ z, iv a = z → Y = tz (z ^ n.toNat)) (hf0 : f = 0) (w : World) (G : Gi w) :
    Calls Tryz.prog 10 #[.string a, .int .i64 m, .int .i64 n] w fun e w' => e = .returned (.bool true) ∧ Below w.heap.size w w' := by
  have K := Lib.hid (fun W (G : Gi W) => known_any W G)
  have F := Lib.hid (fun W => fits_new [a] (by simp) 22 W 1 rfl)
  rw [show [a].all fitB = true by simp [hf]] at F
  have hli : ¬ (6 : Int) < (a.size : Int) := by omega
  obtain ⟨ca, za⟩ := fit_cn hf
  have hd := dgs_len a.data.toList
  rw [size_list] at hd
  have hz : (iv a).natAbs < 10 ^ 6 := lt_up (iv_lt ca.canon) (by omega)
  obtain ⟨M, hM⟩ : ∃ M : Nat, m = (M : Int) := ⟨m.toNat, by omega⟩
  subst hM
  have hmul : ∀ k, k ≤ 120 → k * (Im.dgs a.data.toList).length ≤ 24000 := fun k hk => by
    have := Nat.mul_le_mul hk (show (Im.dgs a.data.toList).length ≤ 6 by omega)
    omega
  have PM := Lib.hid (fun W G => power_c a ca M (by omega) (hmul M (by omega)) W G)
  have RM := Lib.hid (fun W G => rpower_c a ca hz M (by omega) W G)
  obtain ⟨N, hN⟩ : ∃ N : Nat, n = (N : Int) := ⟨n.toNat, by omega⟩
  subst hN
  have PZ := Lib.hid (fun W G => power_c a ca (M + N) (by omega) (hmul (M + N) (by omega)) W G)
  obtain ⟨z, hzz⟩ : ∃ z, iv a = z := ⟨_, rfl⟩
  have hY2 := hY z hzz
  rw [show ((N : Int)).toNat = N from rfl] at hY2
  rw [hzz] at hz PM RM PZ
  subst hY2
  have MU := Lib.hid (fun W G => by
    have h := mul_c (tz (z ^ M)) (tz (z ^ N)) (pow_cn hz (by omega)) (pow_cn hz (by omega)) W G
    rw [iv_tz, iv_tz, ← Int.pow_add] at h
    exact h)
  have hsum : (M : Int) + (N : Int) = ((M + N : Nat) : Int) := by omega
  obtain ⟨S, hS⟩ : ∃ S, M + N = S := ⟨_, rfl⟩
  rw [hS] at PZ MU hsum
  subst hf0
  clear hY hf hl ca za hd hz hmul hzz hS
  generalize tz (z ^ S) = TS at *
  generalize tz (z ^ M) = TM at *
  generalize tz (z ^ N) = TN at *
  go_enter Tryz.func10, Tryz.ntmps10
  go_wp2_with fail
  refine (K.out _ G).mono ?_
  rintro e wk ⟨rfl, hbk⟩
  go_wp2_with fail
  refine (F.out wk).mono ?_
  rintro e w0 ⟨rfl, b0⟩
  have hb0 := hbk.trans (b0.mono hbk.size)
  have g0 := G.below hb0
  go_wp2_with fail
  refine (PM.out _ g0).mono ?_
  rintro e w1 ⟨rfl, b1⟩
  have hb1 := hb0.trans (b1.mono hb0.size)
  have g1 := G.below hb1
  go_wp2_with fail
  refine (PN.out _ g1).mono ?_
  rintro e w2 ⟨rfl, b2⟩
  have hb2 := hb1.trans (b2.mono hb1.size)
  have g2 := G.below hb2
  go_wp2_with fail
  refine (RM.out _ g2).mono ?_
  rintro e w3 ⟨rfl, b3⟩
  have hb3 := hb2.trans (b3.mono hb2.size)
  have g3 := G.below hb3
  go_wp2_with fail
  refine (PZ.out _ g3).mono ?_
  rintro e w4 ⟨rfl, b4⟩
  have hb4 := hb3.trans (b4.mono hb3.size)
  have g4 := G.below hb4
  go_wp2_with fail
  refine (MU.out _ g4).mono ?_
  rintro e w5 ⟨rfl, b5⟩
  have hb5 := hb4.trans (b5.mono hb4.size)
  have g5 := G.below hb5
  go_wp2
  go_ret
  exact ⟨rfl, hb5⟩
set_option maxRecDepth 100000 in
set_option maxHeartbeats 4000000 in
theorem powers_ok_neg (a : ByteArray) (m n : Int) (hf : fitB a = true) (hl : ¬ 6 < a.size) (Y : ByteArray) (f : Int) (PN : Hid (∀ W, Gi W → Calls Tryz.prog 43 #[.string a, .int .i64 n] W fun e w' => e = .returned (.tuple #[.string Y, .int .i64 f]) ∧ Below W.heap.size W w')) (m0 : 0 ≤ m) (m1 : m ≤ 60) (n0 : n < 0) (hY : Y = ⟨#[]⟩) (hf0 : f = 3) (w : World) (G : Gi w) :
    Calls Tryz.prog 10 #[.string a, .int .i64 m, .int .i64 n] w fun e w' => e = .returned (.bool true) ∧ Below w.heap.size w w' := by
  have K := Lib.hid (fun W (G : Gi W) => known_any W G)
  have F := Lib.hid (fun W => fits_new [a] (by simp) 22 W 1 rfl)
  rw [show [a].all fitB = true by simp [hf]] at F
  have hli : ¬ (6 : Int) < (a.size : Int) := by omega
  obtain ⟨ca, za⟩ := fit_cn hf
  have hd := dgs_len a.data.toList
  rw [size_list] at hd
  have hz : (iv a).natAbs < 10 ^ 6 := lt_up (iv_lt ca.canon) (by omega)
  obtain ⟨M, hM⟩ : ∃ M : Nat, m = (M : Int) := ⟨m.toNat, by omega⟩
  subst hM
  have hmul : ∀ k, k ≤ 120 → k * (Im.dgs a.data.toList).length ≤ 24000 := fun k hk => by
    have := Nat.mul_le_mul hk (show (Im.dgs a.data.toList).length ≤ 6 by omega)
    omega
  have PM := Lib.hid (fun W G => power_c a ca M (by omega) (hmul M (by omega)) W G)
  have RM := Lib.hid (fun W G => rpower_c a ca hz M (by omega) W G)
  generalize tz (iv a ^ M) = TM at *
  subst hY hf0
  clear hf hl ca za hd hz hmul
  go_enter Tryz.func10, Tryz.ntmps10
  go_wp2_with fail
  refine (K.out _ G).mono ?_
  rintro e wk ⟨rfl, hbk⟩
  go_wp2_with fail
  refine (F.out wk).mono ?_
  rintro e w0 ⟨rfl, b0⟩
  have hb0 := hbk.trans (b0.mono hbk.size)
  have g0 := G.below hb0
  go_wp2_with fail
  refine (PM.out _ g0).mono ?_
  rintro e w1 ⟨rfl, b1⟩
  have hb1 := hb0.trans (b1.mono hb0.size)
  have g1 := G.below hb1
  go_wp2_with fail
  refine (PN.out _ g1).mono ?_
  rintro e w2 ⟨rfl, b2⟩
  have hb2 := hb1.trans (b2.mono hb1.size)
  have g2 := G.below hb2
  go_wp2_with fail
  refine (RM.out _ g2).mono ?_
  rintro e w3 ⟨rfl, b3⟩
  have hb3 := hb2.trans (b3.mono hb2.size)
  have g3 := G.below hb3
  go_wp2
  go_ret
  exact ⟨rfl, hb3⟩
set_option maxRecDepth 100000 in
set_option maxHeartbeats 4000000 in
theorem powers_ok_big (a : ByteArray) (m n : Int) (hf : fitB a = true) (hl : ¬ 6 < a.size) (Y : ByteArray) (f : Int) (PN : Hid (∀ W, Gi W → Calls Tryz.prog 43 #[.string a, .int .i64 n] W fun e w' => e = .returned (.tuple #[.string Y, .int .i64 f]) ∧ Below W.heap.size W w')) (m0 : 0 ≤ m) (m1 : m ≤ 60) (n0 : 6000 < n) (hY : Y = ⟨#[]⟩) (hf0 : f = 3) (w : World) (G : Gi w) :
    Calls Tryz.prog 10 #[.string a, .int .i64 m, .int .i64 n] w fun e w' => e = .returned (.bool true) ∧ Below w.heap.size w w' := by
  have K := Lib.hid (fun W (G : Gi W) => known_any W G)
  have F := Lib.hid (fun W => fits_new [a] (by simp) 22 W 1 rfl)
  rw [show [a].all fitB = true by simp [hf]] at F
  have hli : ¬ (6 : Int) < (a.size : Int) := by omega
  obtain ⟨ca, za⟩ := fit_cn hf
  have hd := dgs_len a.data.toList
  rw [size_list] at hd
  have hz : (iv a).natAbs < 10 ^ 6 := lt_up (iv_lt ca.canon) (by omega)
  obtain ⟨M, hM⟩ : ∃ M : Nat, m = (M : Int) := ⟨m.toNat, by omega⟩
  subst hM
  have hmul : ∀ k, k ≤ 120 → k * (Im.dgs a.data.toList).length ≤ 24000 := fun k hk => by
    have := Nat.mul_le_mul hk (show (Im.dgs a.data.toList).length ≤ 6 by omega)
    omega
  have PM := Lib.hid (fun W G => power_c a ca M (by omega) (hmul M (by omega)) W G)
  have RM := Lib.hid (fun W G => rpower_c a ca hz M (by omega) W G)
  generalize tz (iv a ^ M) = TM at *
  subst hY hf0
  clear hf hl ca za hd hz hmul
  go_enter Tryz.func10, Tryz.ntmps10
  go_wp2_with fail
  refine (K.out _ G).mono ?_
  rintro e wk ⟨rfl, hbk⟩
  go_wp2_with fail
  refine (F.out wk).mono ?_
  rintro e w0 ⟨rfl, b0⟩
  have hb0 := hbk.trans (b0.mono hbk.size)
  have g0 := G.below hb0
  go_wp2_with fail
  refine (PM.out _ g0).mono ?_
  rintro e w1 ⟨rfl, b1⟩
  have hb1 := hb0.trans (b1.mono hb0.size)
  have g1 := G.below hb1
  go_wp2_with fail
  refine (PN.out _ g1).mono ?_
  rintro e w2 ⟨rfl, b2⟩
  have hb2 := hb1.trans (b2.mono hb1.size)
  have g2 := G.below hb2
  go_wp2_with fail
  refine (RM.out _ g2).mono ?_
  rintro e w3 ⟨rfl, b3⟩
  have hb3 := hb2.trans (b3.mono hb2.size)
  have g3 := G.below hb3
  go_wp2
  go_ret
  exact ⟨rfl, hb3⟩
theorem powers_walk (a : ByteArray) (m n : Int) (w : World) (G : Gi w) :
    Calls Tryz.prog 10 #[.string a, .int .i64 m, .int .i64 n] w fun e w' => e = .returned (.bool true) ∧ Below w.heap.size w w' := by
  cases hf : fitB a with
  | false => exact powers_no a m n hf w G
  | true =>
    by_cases hl : 6 < a.size
    · exact powers_long a m n hf hl w G
    · by_cases hm : 60 < m ∧ m ≤ 6000
      · exact powers_m a m n hf hl hm.1 hm.2 w G
      · by_cases hn : 60 < n ∧ n ≤ 6000
        · by_cases h3 : 60 < m
          · exact powers_nb a m n hf hl h3 (fun h => hm ⟨h3, h⟩) hn.1 hn.2 w G
          · exact powers_na a m n hf hl h3 hn.1 hn.2 w G
        · obtain ⟨ca, za⟩ := fit_cn hf
          have hd := dgs_len a.data.toList
          rw [size_list] at hd
          have PR : ∀ k : Int, (k < 0 ∨ 6000 < k) → ∀ W, Gi W → Calls Tryz.prog 43 #[.string a, .int .i64 k] W fun e w' => e = .returned (.tuple #[.string ⟨#[]⟩, .int .i64 3]) ∧ Below W.heap.size W w' :=
            fun k hk W _ => (power_range a k hk W).mono fun e w' (h : _ ∧ w' = W) => ⟨h.1, h.2 ▸ Below.refl _ _⟩
          have PC : ∀ k : Int, 0 ≤ k → k ≤ 60 → ∀ W, Gi W → Calls Tryz.prog 43 #[.string a, .int .i64 k] W fun e w' => e = .returned (.tuple #[.string (tz (iv a ^ k.toNat)), .int .i64 0]) ∧ Below W.heap.size W w' := fun k h0 h1 W G => by
            obtain ⟨q, rfl⟩ : ∃ q : Nat, k = (q : Int) := ⟨k.toNat, by omega⟩
            have := Nat.mul_le_mul (show q ≤ 60 by omega) (show (Im.dgs a.data.toList).length ≤ 6 by omega)
            exact power_c a ca q (by omega) (by omega) W G
          rcases (show m < 0 ∨ 6000 < m ∨ (0 ≤ m ∧ m ≤ 60) by omega) with hm1 | hm1 | hm1
          · rcases (show n < 0 ∨ 6000 < n ∨ (0 ≤ n ∧ n ≤ 60) by omega) with hn1 | hn1 | hn1
            · exact powers_neg_neg a m n hf hl _ _ (Lib.hid (PR n (.inl hn1))) hm1 hn1 w G
            · exact powers_neg_big a m n hf hl _ _ (Lib.hid (PR n (.inr hn1))) hm1 hn1 w G
            · exact powers_neg_ok a m n hf hl _ _ (Lib.hid (PC n hn1.1 hn1.2)) hm1 hn1.1 hn1.2 w G
          · rcases (show n < 0 ∨ 6000 < n ∨ (0 ≤ n ∧ n ≤ 60) by omega) with hn1 | hn1 | hn1
            · exact powers_big_neg a m n hf hl _ _ (Lib.hid (PR n (.inl hn1))) hm1 hn1 w G
            · exact powers_big_big a m n hf hl _ _ (Lib.hid (PR n (.inr hn1))) hm1 hn1 w G
            · exact powers_big_ok a m n hf hl _ _ (Lib.hid (PC n hn1.1 hn1.2)) hm1 hn1.1 hn1.2 w G
          · rcases (show n < 0 ∨ 6000 < n ∨ (0 ≤ n ∧ n ≤ 60) by omega) with hn1 | hn1 | hn1
            · exact powers_ok_neg a m n hf hl _ _ (Lib.hid (PR n (.inl hn1))) hm1.1 hm1.2 hn1 rfl rfl w G
            · exact powers_ok_big a m n hf hl _ _ (Lib.hid (PR n (.inr hn1))) hm1.1 hm1.2 hn1 rfl rfl w G
            · exact powers_ok_ok a m n hf hl _ _ (Lib.hid (PC n hn1.1 hn1.2)) hm1.1 hm1.2 hn1.1 hn1.2 (fun z hz => by rw [hz]) rfl w G
end Go.Proofs.YtnchodofgaaeeaaGreatDoor
