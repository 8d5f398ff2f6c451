/- The reference's Sign: the sign of the sum of the logarithms. -/
import Derived.Test.YthdoadkdofgenaaGreatDoorIvEa
import Derived.Test.YthdoadkdofgenaaGreatDoorIvEd
import Derived.Test.YthdoadkdofgenaaGreatDoorIvO
import Derived.Test.YthdoadkdofgenaaGreatDoorIvM
namespace Go.Proofs.YthdoadkdofgenaaGreatDoor
open Go Go.RowKit Go.Shelf

theorem p2_iv : iv ⟨#[50]⟩ = 2 := by decide
theorem p3_iv : iv ⟨#[51]⟩ = 3 := by decide
theorem p5_iv : iv ⟨#[53]⟩ = 5 := by decide
theorem p2_cn : Cn ⟨#[50]⟩ := cn_bit 50 (by decide)
theorem p3_cn : Cn ⟨#[51]⟩ := cn_bit 51 (by decide)
theorem p5_cn : Cn ⟨#[53]⟩ := cn_bit 53 (by decide)
theorem pw_le {p n N : Nat} (hp : p ≤ 10) (h : n ≤ N) : p ^ n ≤ 10 ^ N := Nat.le_trans (Nat.pow_le_pow_left hp n) (Nat.pow_le_pow_right (by decide) h)
theorem nat_tz {x K : Nat} (h : x ≤ 10 ^ K) (hK : K ≤ 29000) : Cn (tz (x : Int)) ∧ (tz (x : Int)).size ≤ 29999 := by
  have h1 : (x : Int).natAbs < 10 ^ (K + 1) := Nat.lt_of_le_of_lt (show (x : Int).natAbs ≤ 10 ^ K from h) (Nat.pow_lt_pow_right (by decide) (Nat.lt_succ_self _))
  have := len_tz h1 (Nat.succ_pos _)
  exact ⟨cn_tz h1 (Nat.succ_pos _) (by omega), by omega⟩
theorem step_le {x p m K N : Nat} (hx : x ≤ 10 ^ K) (hp : p ≤ 10) (hm : m ≤ N) : x * p ^ m ≤ 10 ^ (K + N) := by
  rw [Nat.pow_add]
  exact Nat.mul_le_mul hx (pw_le hp hm)
/-- Mul of a product and a power. -/
theorem mul_step (x p m K N : Nat) (hx : x ≤ 10 ^ K) (hK : K ≤ 14000) (hp : p ≤ 10) (hm : m ≤ N) (hN : N ≤ 7000) (w : World) (G : Gi w) :
    Calls Tryz.prog 56 #[.string (tz (x : Int)), .string (tz ((p : Int) ^ m))] w fun e w' => e = .returned (.string (tz ((x * p ^ m : Nat) : Int))) ∧ Below w.heap.size w w' := by
  obtain ⟨c1, s1⟩ := nat_tz hx (by omega)
  have hp2 : (p : Int) ^ m = ((p ^ m : Nat) : Int) := by rw [Int.natCast_pow]
  obtain ⟨c2, s2⟩ := nat_tz (pw_le hp hm) (by omega)
  rw [hp2]
  have h := rmul_c (tz (x : Int)) (tz ((p ^ m : Nat) : Int)) c1 c2 (by omega) (by omega) w G
  rw [iv_tz, iv_tz, ← Int.natCast_mul] at h
  exact h
theorem sgn_sg0 (z : Int) : sgn z = Iv.sg z := rfl
theorem gcd_le7 (a b : Int) (B : Nat) (ha : a.natAbs ≤ B) (hb : b.natAbs ≤ B) : Int.gcd a b ≤ B := by
  show Nat.gcd a.natAbs b.natAbs ≤ B
  by_cases h : a.natAbs = 0
  · rw [h, Nat.gcd_zero_left]; exact hb
  · exact Nat.le_trans (Nat.gcd_le_left _ (by omega)) ha
theorem tdiv_bd7 {x : Int} {g : Nat} (h : -7000 ≤ x ∧ x ≤ 7000) : -7000 ≤ x.tdiv g ∧ x.tdiv g ≤ 7000 := by
  have := Int.natAbs_tdiv_le_natAbs x g
  omega
set_option maxRecDepth 100000 in
set_option maxHeartbeats 8000000 in
theorem rsign_any (a0 a1 a2 ad : Int) (w : World) (G : Gi w) (h0 : -7000 ≤ a0 ∧ a0 ≤ 7000) (h1 : -7000 ≤ a1 ∧ a1 ≤ 7000) (h2 : -7000 ≤ a2 ∧ a2 ≤ 7000) :
    Calls Tryz.prog 34 #[.agg #[.int .i64 a0, .int .i64 a1, .int .i64 a2, .int .i64 ad]] w fun e w' => e = .returned (.int .i64 (Iv.sg (Iv.lg a0 a1 a2))) ∧ Below w.heap.size w w' := by
  have C1 := Lib.hid (fun W => rdivisor_any a0 a1 W (by omega) (by omega) (by omega) (by omega))
  have gb1 := gcd_le7 a0 a1 7000 (by omega) (by omega)
  have d0 : (Int.gcd (Int.gcd a0 a1 : Nat) a2 : Int) ∣ a0 := Int.dvd_trans (Int.gcd_dvd_left ..) (Int.gcd_dvd_left ..)
  have d1 : (Int.gcd (Int.gcd a0 a1 : Nat) a2 : Int) ∣ a1 := Int.dvd_trans (Int.gcd_dvd_left ..) (Int.gcd_dvd_right ..)
  have d2 : (Int.gcd (Int.gcd a0 a1 : Nat) a2 : Int) ∣ a2 := Int.gcd_dvd_right ..
  obtain ⟨g1, hg1⟩ : ∃ g, Int.gcd a0 a1 = g := ⟨_, rfl⟩
  rw [hg1] at C1 gb1 d0 d1 d2
  have C2 := Lib.hid (fun W => rdivisor_any (g1 : Int) a2 W (by omega) (by omega) (by omega) (by omega))
  have gb2 := gcd_le7 (g1 : Int) a2 7000 (by omega) (by omega)
  obtain ⟨g, hg⟩ : ∃ g, Int.gcd (g1 : Int) a2 = g := ⟨_, rfl⟩
  rw [hg] at C2 gb2 d0 d1 d2
  have n0 := tdiv_bd7 (g := g) h0
  have n1 := tdiv_bd7 (g := g) h1
  have n2 := tdiv_bd7 (g := g) h2
  have e0 := Int.tdiv_mul_cancel d0
  have e1 := Int.tdiv_mul_cancel d1
  have e2 := Int.tdiv_mul_cancel d2
  obtain ⟨D, hD⟩ : ∃ D, w.heap.size = D := ⟨_, rfl⟩
  obtain ⟨gi, hgi⟩ : ∃ x : Int, (g : Int) = x := ⟨_, rfl⟩
  have ld : (w.alloc (.cells #[.int .i64 a0, .int .i64 a1, .int .i64 a2, .int .i64 ad] 29)).heap[D]? = some (.cells #[.int .i64 a0, .int .i64 a1, .int .i64 a2, .int .i64 ad] 29) := heap_new hD.symm
  have y0 := cell4_0 ld
  have y1 := cell4_1 ld
  have y2 := cell4_2 ld
  clear ld
  by_cases hz : g = 0
  · have hs : Iv.sg (Iv.lg a0 a1 a2) = 0 := by
      rw [← e0, ← e1, ← e2, hz]
      simp [Iv.lg, Iv.sg]
    rw [hs]
    rw [hgi] at C2
    obtain rfl : gi = 0 := by omega
    clear hs e0 e1 e2 n0 n1 n2 d0 d1 d2 hg1 hg gb1 gb2 hgi hz h0 h1 h2
    go_enter Tryz.func34, Tryz.ntmps34
    go_wp2_with (go_quiet (first | (go_at_call 54; with_reducible exact Calls.quiet_of (C1.out _)) | (go_at_call 54; with_reducible exact Calls.quiet_of (C2.out _)) | fail))
    go_ret
    exact ⟨rfl, by first | exact ((Below.refl _ w).alloc (Nat.le_refl _) _).trans ((drew_below' _ _).mono (by simp)) | (rw [hD]; exact ((Below.refl _ w).alloc (by omega) _).trans ((drew_below' _ _).mono (by simp; omega)))⟩
  · have hgz : ¬ gi = 0 := by omega
    have hgm : ¬ gi = -1 := by omega
    have hne : (gi == 0) = false := by rw [beq_eq_false_iff_ne]; exact hgz
    rw [hgi] at C2 n0 n1 n2 e0 e1 e2
    obtain ⟨n0v, hn0⟩ : ∃ n, a0.tdiv gi = n := ⟨_, rfl⟩
    obtain ⟨n1v, hn1⟩ : ∃ n, a1.tdiv gi = n := ⟨_, rfl⟩
    obtain ⟨n2v, hn2⟩ : ∃ n, a2.tdiv gi = n := ⟨_, rfl⟩
    rw [hn0] at n0 e0
    rw [hn1] at n1 e1
    rw [hn2] at n2 e2
    have hs : Iv.sg (Iv.lg a0 a1 a2) = Iv.sg (Iv.lg n0v n1v n2v) := by
      rw [← e0, ← e1, ← e2, ← hgi, Iv.lg_scale, Iv.sg_scale _ (by omega)]
    have hl := Iv.sign_logs n0v n1v n2v (by omega) (by omega)
    rw [hs, ← hl]
    clear hs hl e0 e1 e2 d0 d1 d2 hg1 hg gb1 gb2 hgi hz h0 h1 h2
    obtain ⟨N, hN⟩ : ∃ N : Nat, N = 7000 := ⟨_, rfl⟩
    obtain ⟨U0, hU0⟩ : ∃ x : Nat, x = 1 := ⟨_, rfl⟩
    have bU0 : U0 ≤ 10 ^ 0 := by rw [hU0]; decide
    obtain ⟨U1, hU1⟩ : ∃ x : Nat, x = U0 * 2 ^ n0v.toNat := ⟨_, rfl⟩
    have bU1 : U1 ≤ 10 ^ (0 + N) := by rw [hU1]; exact step_le bU0 (by decide) (by omega)
    have MU0 := Lib.hid (fun W G => mul_step U0 2 n0v.toNat (0) N bU0 (by omega) (by decide) (by omega) (by omega) W G)
    rw [← hU1] at MU0
    have WU0 := Lib.hid (fun W G => gpower_c ⟨#[50]⟩ p2_cn (by rw [p2_iv]; decide) n0v.toNat (by omega) W G)
    rw [p2_iv] at WU0
    have IU0 : n0v ≤ 0 → U1 = U0 := fun h => by rw [hU1, show n0v.toNat = 0 by omega]; simp
    have IU0 := Lib.hid IU0
    obtain ⟨U2, hU2⟩ : ∃ x : Nat, x = U1 * 3 ^ n1v.toNat := ⟨_, rfl⟩
    have bU2 : U2 ≤ 10 ^ (0 + N + N) := by rw [hU2]; exact step_le bU1 (by decide) (by omega)
    have MU1 := Lib.hid (fun W G => mul_step U1 3 n1v.toNat (0 + N) N bU1 (by omega) (by decide) (by omega) (by omega) W G)
    rw [← hU2] at MU1
    have WU1 := Lib.hid (fun W G => gpower_c ⟨#[51]⟩ p3_cn (by rw [p3_iv]; decide) n1v.toNat (by omega) W G)
    rw [p3_iv] at WU1
    have IU1 : n1v ≤ 0 → U2 = U1 := fun h => by rw [hU2, show n1v.toNat = 0 by omega]; simp
    have IU1 := Lib.hid IU1
    obtain ⟨U3, hU3⟩ : ∃ x : Nat, x = U2 * 5 ^ n2v.toNat := ⟨_, rfl⟩
    have bU3 : U3 ≤ 10 ^ (0 + N + N + N) := by rw [hU3]; exact step_le bU2 (by decide) (by omega)
    have MU2 := Lib.hid (fun W G => mul_step U2 5 n2v.toNat (0 + N + N) N bU2 (by omega) (by decide) (by omega) (by omega) W G)
    rw [← hU3] at MU2
    have WU2 := Lib.hid (fun W G => gpower_c ⟨#[53]⟩ p5_cn (by rw [p5_iv]; decide) n2v.toNat (by omega) W G)
    rw [p5_iv] at WU2
    have IU2 : n2v ≤ 0 → U3 = U2 := fun h => by rw [hU3, show n2v.toNat = 0 by omega]; simp
    have IU2 := Lib.hid IU2
    obtain ⟨V0, hV0⟩ : ∃ x : Nat, x = 1 := ⟨_, rfl⟩
    have bV0 : V0 ≤ 10 ^ 0 := by rw [hV0]; decide
    obtain ⟨V1, hV1⟩ : ∃ x : Nat, x = V0 * 2 ^ (-n0v).toNat := ⟨_, rfl⟩
    have bV1 : V1 ≤ 10 ^ (0 + N) := by rw [hV1]; exact step_le bV0 (by decide) (by omega)
    have MV0 := Lib.hid (fun W G => mul_step V0 2 (-n0v).toNat (0) N bV0 (by omega) (by decide) (by omega) (by omega) W G)
    rw [← hV1] at MV0
    have WV0 := Lib.hid (fun W G => gpower_c ⟨#[50]⟩ p2_cn (by rw [p2_iv]; decide) (-n0v).toNat (by omega) W G)
    rw [p2_iv] at WV0
    have IV0 : 0 ≤ n0v → V1 = V0 := fun h => by rw [hV1, show (-n0v).toNat = 0 by omega]; simp
    have IV0 := Lib.hid IV0
    obtain ⟨V2, hV2⟩ : ∃ x : Nat, x = V1 * 3 ^ (-n1v).toNat := ⟨_, rfl⟩
    have bV2 : V2 ≤ 10 ^ (0 + N + N) := by rw [hV2]; exact step_le bV1 (by decide) (by omega)
    have MV1 := Lib.hid (fun W G => mul_step V1 3 (-n1v).toNat (0 + N) N bV1 (by omega) (by decide) (by omega) (by omega) W G)
    rw [← hV2] at MV1
    have WV1 := Lib.hid (fun W G => gpower_c ⟨#[51]⟩ p3_cn (by rw [p3_iv]; decide) (-n1v).toNat (by omega) W G)
    rw [p3_iv] at WV1
    have IV1 : 0 ≤ n1v → V2 = V1 := fun h => by rw [hV2, show (-n1v).toNat = 0 by omega]; simp
    have IV1 := Lib.hid IV1
    obtain ⟨V3, hV3⟩ : ∃ x : Nat, x = V2 * 5 ^ (-n2v).toNat := ⟨_, rfl⟩
    have bV3 : V3 ≤ 10 ^ (0 + N + N + N) := by rw [hV3]; exact step_le bV2 (by decide) (by omega)
    have MV2 := Lib.hid (fun W G => mul_step V2 5 (-n2v).toNat (0 + N + N) N bV2 (by omega) (by decide) (by omega) (by omega) W G)
    rw [← hV3] at MV2
    have WV2 := Lib.hid (fun W G => gpower_c ⟨#[53]⟩ p5_cn (by rw [p5_iv]; decide) (-n2v).toNat (by omega) W G)
    rw [p5_iv] at WV2
    have IV2 : 0 ≤ n2v → V3 = V2 := fun h => by rw [hV3, show (-n2v).toNat = 0 by omega]; simp
    have IV2 := Lib.hid IV2
    have hgoal : 2 ^ n0v.toNat * 3 ^ n1v.toNat * 5 ^ n2v.toNat = U3 := by rw [hU3, hU2, hU1, hU0, Nat.one_mul]
    have hgoal2 : 2 ^ (-n0v).toNat * 3 ^ (-n1v).toNat * 5 ^ (-n2v).toNat = V3 := by rw [hV3, hV2, hV1, hV0, Nat.one_mul]
    rw [hgoal, hgoal2]
    have CMP := Lib.hid (fun W G => rcmp_c (tz (U3 : Int)) (tz (V3 : Int)) (nat_tz bU3 (by omega)).1 (nat_tz bV3 (by omega)).1 (by have := (nat_tz bU3 (by omega)).2; omega) (by have := (nat_tz bV3 (by omega)).2; omega) W G)
    rw [iv_tz, iv_tz, sgn_sg0] at CMP
    have H1 := Lib.hid (show (ByteArray.mk #[49]) = tz ((U0 : Nat) : Int) by rw [hU0]; exact ext_bytes (show Lib.itoa 1 = [49] by rw [Im.itoa_nonneg (by decide)]; exact Im.dec_small (by decide)).symm)
    have H2 := Lib.hid (show (ByteArray.mk #[49]) = tz ((V0 : Nat) : Int) by rw [hV0]; exact ext_bytes (show Lib.itoa 1 = [49] by rw [Im.itoa_nonneg (by decide)]; exact Im.dec_small (by decide)).symm)
    obtain ⟨res, hres⟩ : ∃ x, Iv.sg ((U3 : Int) - (V3 : Int)) = x := ⟨_, rfl⟩
    rw [hres] at CMP ⊢
    clear hres hgoal hgoal2 hN bU0 bU1 bU2 bU3 bV0 bV1 bV2 bV3 hU0 hU1 hU2 hU3 hV0 hV1 hV2 hV3
    generalize tz ((2 : Int) ^ n0v.toNat) = QU0 at *
    generalize tz ((3 : Int) ^ n1v.toNat) = QU1 at *
    generalize tz ((5 : Int) ^ n2v.toNat) = QU2 at *
    generalize tz ((2 : Int) ^ (-n0v).toNat) = QV0 at *
    generalize tz ((3 : Int) ^ (-n1v).toNat) = QV1 at *
    generalize tz ((5 : Int) ^ (-n2v).toNat) = QV2 at *
    generalize hSU0 : tz ((U0 : Nat) : Int) = SU0 at *
    generalize hSV0 : tz ((V0 : Nat) : Int) = SV0 at *
    generalize hSU1 : tz ((U1 : Nat) : Int) = SU1 at *
    generalize hSV1 : tz ((V1 : Nat) : Int) = SV1 at *
    generalize hSU2 : tz ((U2 : Nat) : Int) = SU2 at *
    generalize hSV2 : tz ((V2 : Nat) : Int) = SV2 at *
    generalize hSU3 : tz ((U3 : Nat) : Int) = SU3 at *
    generalize hSV3 : tz ((V3 : Nat) : Int) = SV3 at *
    have JU0 := Lib.hid (fun h => show SU1 = SU0 by rw [← hSU1, ← hSU0, IU0.out h])
    have JU1 := Lib.hid (fun h => show SU2 = SU1 by rw [← hSU2, ← hSU1, IU1.out h])
    have JU2 := Lib.hid (fun h => show SU3 = SU2 by rw [← hSU3, ← hSU2, IU2.out h])
    have JV0 := Lib.hid (fun h => show SV1 = SV0 by rw [← hSV1, ← hSV0, IV0.out h])
    have JV1 := Lib.hid (fun h => show SV2 = SV1 by rw [← hSV2, ← hSV1, IV1.out h])
    have JV2 := Lib.hid (fun h => show SV3 = SV2 by rw [← hSV3, ← hSV2, IV2.out h])
    clear hSU0 hSU1 hSU2 hSU3 hSV0 hSV1 hSV2 hSV3 IU0 IU1 IU2 IV0 IV1 IV2
    have wn0 := wrap_in (q := n0v) (by omega) (by omega)
    have wn1 := wrap_in (q := n1v) (by omega) (by omega)
    have wn2 := wrap_in (q := n2v) (by omega) (by omega)
    go_enter Tryz.func34, Tryz.ntmps34
    go_upto_region 5 with (go_quiet (first | (go_at_call 54; with_reducible exact Calls.quiet_of (C1.out _)) | (go_at_call 54; with_reducible exact Calls.quiet_of (C2.out _)) | fail))
    go_wp2_with fail
    obtain ⟨V, hV⟩ : ∃ V, ((w.alloc (.cells #[.int .i64 a0, .int .i64 a1, .int .i64 a2, .int .i64 ad] 29)).drewN nq).alloc (.cells #[.string ⟨#[50]⟩, .string ⟨#[51]⟩, .string ⟨#[53]⟩] 93) = V := ⟨_, rfl⟩
    have k1 : Below D w ((w.alloc (.cells #[.int .i64 a0, .int .i64 a1, .int .i64 a2, .int .i64 ad] 29)).drewN nq) := ((Below.refl D w).alloc (by omega) _).trans ((drew_below' _ nq).mono (by simp; omega))
    have hwV : Below D w V := by rw [← hV]; exact k1.alloc (by have := k1.size; omega) _
    have h0V : V.heap[D]? = some (.cells #[.int .i64 a0, .int .i64 a1, .int .i64 a2, .int .i64 ad] 29) := by rw [← hV]; exact heap_old (X := (w.alloc _).drewN nq) (heap_new (X := w) hD.symm)
    have h1V : V.heap[D + 1]? = some (.cells #[.string ⟨#[50]⟩, .string ⟨#[51]⟩, .string ⟨#[53]⟩] 93) := by rw [← hV]; exact heap_new (X := (w.alloc _).drewN nq) (by simp [hD])
    rw [hV]
    clear hV k1 y0 y1 y2 C1 C2
    go_loopw [4, 5, 7] (fun u v i wr => ((i = .int .i64 0 ∧ u = .string SU0 ∧ v = .string SV0) ∨ (i = .int .i64 1 ∧ u = .string SU1 ∧ v = .string SV1) ∨ (i = .int .i64 2 ∧ u = .string SU2 ∧ v = .string SV2) ∨ (i = .int .i64 3 ∧ u = .string SU3 ∧ v = .string SV3)) ∧ Below D w wr ∧ wr.heap[D]? = some (.cells #[.int .i64 a0, .int .i64 a1, .int .i64 a2, .int .i64 ad] 29) ∧ wr.heap[D + 1]? = some (.cells #[.string ⟨#[50]⟩, .string ⟨#[51]⟩, .string ⟨#[53]⟩] 93)) (fun _ _ i _ => 3 - (intOf i).toNat)
    case atStart => exact ⟨.inl ⟨rfl, by rw [H1.out], by rw [H2.out]⟩, hwV, h0V, h1V⟩
    case round =>
      obtain ⟨hk, hw, hc0, hc1⟩ := hrel
      clear hwV h0V h1V H1 H2
      have GW := G.below (hD ▸ hw)
      rcases hk with ⟨rfl, rfl, rfl⟩ | ⟨rfl, rfl, rfl⟩ | ⟨rfl, rfl, rfl⟩ | ⟨rfl, rfl, rfl⟩
      · have r0 := cell4_0 hc0
        have r1 := cell3_0 hc1
        have HC0 := Lib.hid hc0
        have HC1 := Lib.hid hc1
        clear hc0 hc1
        rcases Int.lt_trichotomy n0v 0 with hn | hn | hn
        · have hneg : ¬ (0 : Int) < n0v := by omega
          have jj := JU0.out (by omega)
          obtain ⟨m, hm⟩ : ∃ m : Int, -n0v = m := ⟨_, rfl⟩
          have wm := wrap_in (q := -n0v) (by omega) (by omega)
          rw [hm] at wm
          have hmt : (((-n0v).toNat : Nat) : Int) = m := by omega
          have WW := WV0
          rw [hmt] at WW
          clear hmt
          go_wp2_with fail
          refine (WW.out _ GW).mono ?_
          rintro e w3 ⟨rfl, b3⟩
          have hw3 := hw.trans (b3.mono (by have := hw.size; omega))
          have hs3 := hw.size
          have hl0 := (Array.getElem?_eq_some_iff.1 HC0.out).1
          have hl1 := (Array.getElem?_eq_some_iff.1 HC1.out).1
          go_wp2_with fail
          refine (MV0.out _ (G.below (hD ▸ hw3))).mono ?_
          rintro e w4 ⟨rfl, b4⟩
          have hw4 := hw3.trans (b4.mono (by have := hw3.size; omega))
          have b34 := b3.trans (b4.mono b3.size)
          go_wp2_with fail
          go_roundw
          case rel => exact ⟨.inr (.inl ⟨rfl, by rw [jj], rfl⟩), hw4, (b34.block _ hl0).trans HC0.out, (b34.block _ hl1).trans HC1.out⟩
          case measure => simp [intOf]
        · have jj := JU0.out (by omega)
          have jk := JV0.out (by omega)
          subst hn
          go_wp2_with fail
          go_roundw
          case rel => exact ⟨.inr (.inl ⟨rfl, by rw [jj], by rw [jk]⟩), hw, HC0.out, HC1.out⟩
          case measure => simp [intOf]
        · have hneg : ¬ n0v < (0 : Int) := by omega
          have jj := JV0.out (by omega)
          have hmt : ((n0v.toNat : Nat) : Int) = n0v := by omega
          have WW := WU0
          rw [hmt] at WW
          clear hmt
          go_wp2_with fail
          refine (WW.out _ GW).mono ?_
          rintro e w3 ⟨rfl, b3⟩
          have hw3 := hw.trans (b3.mono (by have := hw.size; omega))
          have hs3 := hw.size
          have hl0 := (Array.getElem?_eq_some_iff.1 HC0.out).1
          have hl1 := (Array.getElem?_eq_some_iff.1 HC1.out).1
          go_wp2_with fail
          refine (MU0.out _ (G.below (hD ▸ hw3))).mono ?_
          rintro e w4 ⟨rfl, b4⟩
          have hw4 := hw3.trans (b4.mono (by have := hw3.size; omega))
          have b34 := b3.trans (b4.mono b3.size)
          go_wp2_with fail
          go_roundw
          case rel => exact ⟨.inr (.inl ⟨rfl, rfl, by rw [jj]⟩), hw4, (b34.block _ hl0).trans HC0.out, (b34.block _ hl1).trans HC1.out⟩
          case measure => simp [intOf]
      · have r0 := cell4_1 hc0
        have r1 := cell3_1 hc1
        have HC0 := Lib.hid hc0
        have HC1 := Lib.hid hc1
        clear hc0 hc1
        rcases Int.lt_trichotomy n1v 0 with hn | hn | hn
        · have hneg : ¬ (0 : Int) < n1v := by omega
          have jj := JU1.out (by omega)
          obtain ⟨m, hm⟩ : ∃ m : Int, -n1v = m := ⟨_, rfl⟩
          have wm := wrap_in (q := -n1v) (by omega) (by omega)
          rw [hm] at wm
          have hmt : (((-n1v).toNat : Nat) : Int) = m := by omega
          have WW := WV1
          rw [hmt] at WW
          clear hmt
          go_wp2_with fail
          refine (WW.out _ GW).mono ?_
          rintro e w3 ⟨rfl, b3⟩
          have hw3 := hw.trans (b3.mono (by have := hw.size; omega))
          have hs3 := hw.size
          have hl0 := (Array.getElem?_eq_some_iff.1 HC0.out).1
          have hl1 := (Array.getElem?_eq_some_iff.1 HC1.out).1
          go_wp2_with fail
          refine (MV1.out _ (G.below (hD ▸ hw3))).mono ?_
          rintro e w4 ⟨rfl, b4⟩
          have hw4 := hw3.trans (b4.mono (by have := hw3.size; omega))
          have b34 := b3.trans (b4.mono b3.size)
          go_wp2_with fail
          go_roundw
          case rel => exact ⟨.inr (.inr (.inl ⟨rfl, by rw [jj], rfl⟩)), hw4, (b34.block _ hl0).trans HC0.out, (b34.block _ hl1).trans HC1.out⟩
          case measure => simp [intOf]
        · have jj := JU1.out (by omega)
          have jk := JV1.out (by omega)
          subst hn
          go_wp2_with fail
          go_roundw
          case rel => exact ⟨.inr (.inr (.inl ⟨rfl, by rw [jj], by rw [jk]⟩)), hw, HC0.out, HC1.out⟩
          case measure => simp [intOf]
        · have hneg : ¬ n1v < (0 : Int) := by omega
          have jj := JV1.out (by omega)
          have hmt : ((n1v.toNat : Nat) : Int) = n1v := by omega
          have WW := WU1
          rw [hmt] at WW
          clear hmt
          go_wp2_with fail
          refine (WW.out _ GW).mono ?_
          rintro e w3 ⟨rfl, b3⟩
          have hw3 := hw.trans (b3.mono (by have := hw.size; omega))
          have hs3 := hw.size
          have hl0 := (Array.getElem?_eq_some_iff.1 HC0.out).1
          have hl1 := (Array.getElem?_eq_some_iff.1 HC1.out).1
          go_wp2_with fail
          refine (MU1.out _ (G.below (hD ▸ hw3))).mono ?_
          rintro e w4 ⟨rfl, b4⟩
          have hw4 := hw3.trans (b4.mono (by have := hw3.size; omega))
          have b34 := b3.trans (b4.mono b3.size)
          go_wp2_with fail
          go_roundw
          case rel => exact ⟨.inr (.inr (.inl ⟨rfl, rfl, by rw [jj]⟩)), hw4, (b34.block _ hl0).trans HC0.out, (b34.block _ hl1).trans HC1.out⟩
          case measure => simp [intOf]
      · have r0 := cell4_2 hc0
        have r1 := cell3_2 hc1
        have HC0 := Lib.hid hc0
        have HC1 := Lib.hid hc1
        clear hc0 hc1
        rcases Int.lt_trichotomy n2v 0 with hn | hn | hn
        · have hneg : ¬ (0 : Int) < n2v := by omega
          have jj := JU2.out (by omega)
          obtain ⟨m, hm⟩ : ∃ m : Int, -n2v = m := ⟨_, rfl⟩
          have wm := wrap_in (q := -n2v) (by omega) (by omega)
          rw [hm] at wm
          have hmt : (((-n2v).toNat : Nat) : Int) = m := by omega
          have WW := WV2
          rw [hmt] at WW
          clear hmt
          go_wp2_with fail
          refine (WW.out _ GW).mono ?_
          rintro e w3 ⟨rfl, b3⟩
          have hw3 := hw.trans (b3.mono (by have := hw.size; omega))
          have hs3 := hw.size
          have hl0 := (Array.getElem?_eq_some_iff.1 HC0.out).1
          have hl1 := (Array.getElem?_eq_some_iff.1 HC1.out).1
          go_wp2_with fail
          refine (MV2.out _ (G.below (hD ▸ hw3))).mono ?_
          rintro e w4 ⟨rfl, b4⟩
          have hw4 := hw3.trans (b4.mono (by have := hw3.size; omega))
          have b34 := b3.trans (b4.mono b3.size)
          go_wp2_with fail
          go_roundw
          case rel => exact ⟨.inr (.inr (.inr ⟨rfl, by rw [jj], rfl⟩)), hw4, (b34.block _ hl0).trans HC0.out, (b34.block _ hl1).trans HC1.out⟩
          case measure => simp [intOf]
        · have jj := JU2.out (by omega)
          have jk := JV2.out (by omega)
          subst hn
          go_wp2_with fail
          go_roundw
          case rel => exact ⟨.inr (.inr (.inr ⟨rfl, by rw [jj], by rw [jk]⟩)), hw, HC0.out, HC1.out⟩
          case measure => simp [intOf]
        · have hneg : ¬ n2v < (0 : Int) := by omega
          have jj := JV2.out (by omega)
          have hmt : ((n2v.toNat : Nat) : Int) = n2v := by omega
          have WW := WU2
          rw [hmt] at WW
          clear hmt
          go_wp2_with fail
          refine (WW.out _ GW).mono ?_
          rintro e w3 ⟨rfl, b3⟩
          have hw3 := hw.trans (b3.mono (by have := hw.size; omega))
          have hs3 := hw.size
          have hl0 := (Array.getElem?_eq_some_iff.1 HC0.out).1
          have hl1 := (Array.getElem?_eq_some_iff.1 HC1.out).1
          go_wp2_with fail
          refine (MU2.out _ (G.below (hD ▸ hw3))).mono ?_
          rintro e w4 ⟨rfl, b4⟩
          have hw4 := hw3.trans (b4.mono (by have := hw3.size; omega))
          have b34 := b3.trans (b4.mono b3.size)
          go_wp2_with fail
          go_roundw
          case rel => exact ⟨.inr (.inr (.inr ⟨rfl, rfl, by rw [jj]⟩)), hw4, (b34.block _ hl0).trans HC0.out, (b34.block _ hl1).trans HC1.out⟩
          case measure => simp [intOf]
      · clear hc0 hc1
        go_wp2_with fail
        refine (CMP.out _ GW).mono ?_
        rintro e w3 ⟨rfl, b3⟩
        have HW := Lib.hid (hw.trans (b3.mono (by have := hw.size; omega)))
        go_wp2
        go_ret
        exact ⟨rfl, by first | exact HW.out | (rw [hD]; exact HW.out)⟩
end Go.Proofs.YthdoadkdofgenaaGreatDoor
