/- Contracts of the law's f, check, shift, odd. -/
import Derived.Test.YtkoljddejjfbiaaGreatDoorPtE
namespace Go.Proofs.YtkoljddejjfbiaaGreatDoor
open Go Go.RowKit Go.Shelf

set_option maxHeartbeats 1000000 in
theorem lcheck_any (n d : Int) (w : World) :
    Calls Tryz.prog 11 #[.agg #[.int .i64 n, .int .i64 d]] w fun e w' => e = .returned (.int .i64 (pk n d)) ∧ Below w.heap.size w w' := by
  have C := Lib.hid (fun W => rright_any n d W)
  obtain ⟨D, hD⟩ : ∃ D, w.heap.size = D := ⟨_, rfl⟩
  unfold pk
  cases hr : FracMath.rightB n d with
  | false =>
    rw [hr] at C
    rw [if_pos rfl]
    clear hr
    go_enter Tryz.func11, Tryz.ntmps11
    go_wp2_with fail
    refine (C.out _).mono ?_
    rintro e w1 ⟨rfl, hb1⟩
    have hw1 : Below w.heap.size w w1 := ((Below.refl _ w).alloc (Nat.le_refl _) _).trans (hb1.mono (by simp))
    go_wp2
    go_ret
    exact ⟨rfl, hw1⟩
  | true =>
    rw [hr] at C
    rw [if_neg (by decide)]
    obtain ⟨k1, k2, k3, k4, _⟩ := FracMath.right_of hr
    obtain ⟨x, hx⟩ : ∃ x : Int, (if n ≤ 0 ∨ 128 * d < n then 3 else if 128 < d then 4 else 0) = x := ⟨_, rfl⟩
    rw [hx]
    have HX := Lib.hid hx
    clear hr hx
    go_enter Tryz.func11, Tryz.ntmps11
    go_wp2_with fail
    refine (C.out _).mono ?_
    rintro e w1 ⟨rfl, hb1⟩
    have hp : w1.heap[D]? = some (.cells #[.int .i64 n, .int .i64 d] 23) := (hb1.block D (by simp [hD])).trans (heap_new hD.symm)
    have hw1 : Below w.heap.size w w1 := ((Below.refl _ w).alloc (Nat.le_refl _) _).trans (hb1.mono (by simp))
    have c0 := cell2_0 hp
    have c1 := cell2_1 hp
    have wm := wrap_in (q := 128 * d) (by omega) (by omega)
    clear hp C hb1
    by_cases h1 : n ≤ 0
    · obtain rfl : x = 3 := by rw [← HX.out, if_pos (.inl h1)]
      go_wp2
      go_ret
      exact ⟨rfl, hw1⟩
    by_cases h2 : 128 * d < n
    · obtain rfl : x = 3 := by rw [← HX.out, if_pos (.inr h2)]
      go_wp2
      go_ret
      exact ⟨rfl, hw1⟩
    by_cases h3 : 128 < d
    · obtain rfl : x = 4 := by rw [← HX.out, if_neg (by omega), if_pos h3]
      go_wp2
      go_ret
      exact ⟨rfl, hw1⟩
    · obtain rfl : x = 0 := by rw [← HX.out, if_neg (by omega), if_neg h3]
      go_wp2
      go_ret
      exact ⟨rfl, hw1⟩

set_option maxHeartbeats 1000000 in
theorem lf_any (n d : Int) (w : World) (h1 : -9223372036854775807 ≤ n) (h2 : n ≤ 9223372036854775807) (h3 : 0 < d) (h4 : d ≤ 9223372036854775807) (p q : Int) (hp : FracMath.qn n d = p) (hq : FracMath.qd n d = q) :
    Calls Tryz.prog 12 #[.int .i64 n, .int .i64 d] w fun e w' => e = .returned (.agg #[.int .i64 p, .int .i64 q]) ∧ Below w.heap.size w w' := by
  have C := Lib.hid (fun W => rlowest_any n d W h1 h2 h3 h4)
  rw [hp, hq] at C
  clear hp hq h1 h2 h3 h4
  obtain ⟨D, hD⟩ : ∃ D, w.heap.size = D := ⟨_, rfl⟩
  go_enter Tryz.func12, Tryz.ntmps12
  go_wp2_with fail
  refine (C.out _).mono ?_
  rintro e w1 ⟨rfl, hb1⟩
  have hp : w1.heap[D]? = some (.cells #[.int .i64 0, .int .i64 0] 23) := (hb1.block D (by simp [hD])).trans (heap_new hD.symm)
  have hw1 : Below w.heap.size w w1 := ((Below.refl _ w).alloc (Nat.le_refl _) _).trans (hb1.mono (by simp))
  have f0 := free2_0 hp
  have f1 := free2_1 hp
  have c0 := cell2_0 hp
  have c1 := cell2_1 hp
  have hE := set2_1 (x := .int .i64 q) (set2_0 (x := .int .i64 p) hp)
  have z0 := cell2_0 hE
  have z1 := cell2_1 hE
  have HW := Lib.hid ((hw1.setCell (p := ⟨D, 0, none⟩) (by simp; omega) (.int .i64 p)).setCell (p := ⟨D, 1, none⟩) (by simp; omega) (.int .i64 q))
  clear hE hp C hb1 hw1
  go_wp2
  exact bodyPost_ret (v := .agg #[.int .i64 p, .int .i64 q]) (by simp [results, Tryz.results12, go_sem, z0, z1]) rfl ⟨rfl, HW.out⟩

/-- The greatest odd divisor. -/
def oddp (n : Nat) : Nat := if h : 0 < n ∧ n % 2 = 0 then oddp (n / 2) else n
termination_by n
decreasing_by exact Nat.div_lt_self h.1 (by decide)
theorem oddp_even {n : Nat} (h : 0 < n) (h2 : n % 2 = 0) : oddp n = oddp (n / 2) := by rw [oddp, dif_pos ⟨h, h2⟩]
theorem oddp_odd {n : Nat} (h2 : n % 2 = 1) : oddp n = n := by rw [oddp, dif_neg (by omega)]
theorem oddp_double {n : Nat} (h : 0 < n) : oddp (2 * n) = oddp n := by rw [oddp_even (by omega) (by omega)]; congr 1; omega
theorem oddp_pow (o : Nat) (ho : o % 2 = 1) : ∀ k, oddp (o * 2 ^ k) = o
  | 0 => by rw [Nat.pow_zero, Nat.mul_one]; exact oddp_odd ho
  | k + 1 => by
    rw [Nat.pow_succ, ← Nat.mul_assoc, Nat.mul_comm _ 2, oddp_double (Nat.mul_pos (by omega) (Nat.pow_pos (by decide)))]
    exact oddp_pow o ho k
theorem oddp_split : ∀ n, 0 < n → ∃ k, n = oddp n * 2 ^ k ∧ oddp n % 2 = 1 := by
  intro n
  induction n using Nat.strongRecOn with
  | ind n ih =>
    intro h
    rcases Nat.mod_two_eq_zero_or_one n with h2 | h2
    · obtain ⟨k, e1, e2⟩ := ih (n / 2) (by omega) (by omega)
      rw [oddp_even h h2]
      refine ⟨k + 1, ?_, e2⟩
      rw [Nat.pow_succ, ← Nat.mul_assoc, ← e1]; omega
    · exact ⟨0, by rw [oddp_odd h2, Nat.pow_zero, Nat.mul_one], by rw [oddp_odd h2]; exact h2⟩

set_option maxHeartbeats 1000000 in
theorem lodd_any (n : Nat) (h : 0 < n) (hb : n ≤ 9223372036854775807) (w : World) :
    Calls Tryz.prog 22 #[.int .i64 n] w fun e w' => e = .returned (.int .i64 (oddp n : Nat)) ∧ w' = w := by
  obtain ⟨o, ho⟩ : ∃ o, oddp n = o := ⟨_, rfl⟩
  rw [ho]
  have HO := Lib.hid ho
  clear ho
  go_enter Tryz.func22, Tryz.ntmps22
  go_wp2_with fail
  go_loopw [0] (fun x wr => ∃ m : Nat, 0 < m ∧ m ≤ 9223372036854775807 ∧ Hid (oddp m = o) ∧ x = .int .i64 m ∧ wr = w) (fun x _ => (intOf x).toNat)
  case atStart => exact ⟨n, h, hb, HO, rfl, by first | rfl | trivial⟩
  case round =>
    obtain ⟨m, hm, hmb, hmo, rfl, rfl⟩ := hrel
    clear HO h hb
    rcases Nat.mod_two_eq_zero_or_one m with h2 | h2
    · have ht : ((m : Int)).tmod 2 = 0 := by rw [Int.tmod_eq_emod_of_nonneg (by omega)]; omega
      have hd : ((m : Int)).tdiv 2 = ((m / 2 : Nat) : Int) := by rw [Int.tdiv_eq_ediv_of_nonneg (by omega)]; omega
      have hn := Lib.hid (show oddp (m / 2) = o by rw [← hmo.out, oddp_even hm h2])
      obtain ⟨q, hq⟩ : ∃ q, m / 2 = q := ⟨_, rfl⟩
      rw [hq] at hd hn
      have b1 : q < m ∧ 0 < q := by omega
      clear h2 hq hmo
      go_wp2_with fail
      go_roundw
      case rel => exact ⟨q, b1.2, by omega, hn, rfl, by first | rfl | trivial⟩
      case measure => simp [intOf]; omega
    · have ht : ((m : Int)).tmod 2 = 1 := by rw [Int.tmod_eq_emod_of_nonneg (by omega)]; omega
      obtain rfl : m = o := by rw [← hmo.out, oddp_odd h2]
      clear h2 hmo
      go_wp2
      go_ret
      exact ⟨rfl, rfl⟩

theorem pt_sz {z : Int} (h : z.natAbs < 10 ^ 211) : (tz z).size ≤ 212 := len_tz h (by decide)
theorem pt_msz {b e f : Nat} (hb : b < 10 ^ 7) (he : e ≤ 30) (hf : f ≤ 30) : (tz ((b : Int) ^ e * 2 ^ f)).size ≤ 423 := by
  have h1 := pt_pow hb he
  have h2 := pt_pow (b := 2) (e := f) (by decide) hf
  obtain ⟨k, hk⟩ : ∃ k, k = 211 := ⟨_, rfl⟩
  rw [← hk] at h1 h2
  have h3 : ((b : Int) ^ e * 2 ^ f).natAbs < 10 ^ (k + k) := by
    rw [Int.natAbs_mul, Nat.pow_add]
    exact Nat.mul_lt_mul'' h1 h2
  have := len_tz h3 (by omega)
  omega

set_option maxRecDepth 100000 in
set_option maxHeartbeats 4000000 in
theorem lshift_ok (a b c d s : Int) (h1 : pk a b = 0) (h2 : pk c d = 0) (hs : ShI (c * b) (d * a) s) (w : World) (G : Gi w) :
    Calls Tryz.prog 21 #[.agg #[.int .i64 a, .int .i64 b], .agg #[.int .i64 c, .int .i64 d]] w fun e w' => e = .returned (.int .i64 s) ∧ Below w.heap.size w w' := by
  obtain ⟨m1, m2⟩ := pr_bd h1 h2
  obtain ⟨m3, m4⟩ : 0 < d * a ∧ d * a ≤ 2097152 := by rw [Int.mul_comm]; exact pr_bd h2 h1
  have wx := wrap_in (q := c * b) (by omega) (by omega)
  have wy := wrap_in (q := d * a) (by omega) (by omega)
  obtain ⟨n, en⟩ : ∃ n : Nat, c * b = n := ⟨(c * b).toNat, by omega⟩
  obtain ⟨m, em⟩ : ∃ n : Nat, d * a = n := ⟨(d * a).toNat, by omega⟩
  unfold ShI at hs
  rw [en, em, Int.toNat_natCast, Int.toNat_natCast] at hs
  rw [en] at wx
  rw [em] at wy
  have EN := Lib.hid en
  have EM := Lib.hid em
  have hn : 0 < n := by omega
  have hd : 0 < m := by omega
  have hn2 : n ≤ 2097152 := by omega
  have hd2 : m ≤ 2097152 := by omega
  clear m1 m2 m3 m4 h1 h2
  obtain ⟨i, j, ho⟩ := Pt.oct_ex hn hd
  obtain ⟨bi, bj⟩ := Pt.oct_le ho hn hd hn2 hd2
  obtain ⟨ba, bb⟩ := Pt.oct_bd ho hn2 hd2
  obtain ⟨k, hk⟩ := Pt.st_ex (n * 2 ^ i) (m * 2 ^ j)
  have es := Pt.sh_is hs hd ho hk
  have NL := Lib.hid (fun t (h : t < i) => Pt.oct_num_lt ho h)
  have DL := Lib.hid (fun t (h : t < j) => Pt.oct_den_le ho h)
  have NX := Lib.hid ho.2.1
  have DX := Lib.hid (Nat.lt_of_le_of_lt (Pt.le_pow n i) ho.2.2)
  have MX := Lib.hid (Pt.le_pow m j)
  have OZ := Lib.hid ho.1
  obtain ⟨A, hA⟩ : ∃ f : Nat → Nat, ∀ t, n * 2 ^ t = f t := ⟨_, fun _ => rfl⟩
  obtain ⟨B, hB⟩ : ∃ f : Nat → Nat, ∀ t, m * 2 ^ t = f t := ⟨_, fun _ => rfl⟩
  have A0 := Lib.hid (show A 0 = n by rw [← hA, Nat.pow_zero, Nat.mul_one])
  have B0 := Lib.hid (show B 0 = m by rw [← hB, Nat.pow_zero, Nat.mul_one])
  have AS := Lib.hid (fun t => show A (t + 1) = A t * 2 by rw [← hA, ← hA, Nat.pow_succ, Nat.mul_assoc])
  have BS := Lib.hid (fun t => show B (t + 1) = B t * 2 by rw [← hB, ← hB, Nat.pow_succ, Nat.mul_assoc])
  simp only [hA, hB] at NL DL NX DX MX ba bb hk
  have b7 : B j < 10 ^ 7 := by omega
  have a7 : A i < 10 ^ 7 := by omega
  have DL2 := Lib.hid (fun t (h : t < j) => show 2 * B t ≤ n from DL.out t h)
  have NL2 := Lib.hid (fun t (h : t < i) => show A t < B j from Nat.lt_of_lt_of_le (NL.out t h) MX.out)
  have RA := Lib.hid (fun W G => lpower_c (A i) 24 a7 (by decide) W G)
  have RB := Lib.hid (fun W G => lpower_c (B j) 24 b7 (by decide) W G)
  rw [show ((24 : Nat) : Int) = 24 from rfl] at RA RB
  have PW := Lib.hid (fun (q : Nat) (hq : q < 12) W G => lpower_c 2 (2 * q + 1) (by decide) (by omega) W G)
  have ML := Lib.hid (fun (q : Nat) (hq : q < 12) W G => by
    have h := rmul_c (tz ((B j : Int) ^ 24)) (tz ((2 : Int) ^ (2 * q + 1))) (pt_pcn b7 (by decide)) (pt_pcn (b := 2) (by decide) (by omega)) (by have := pt_sz (pt_pow b7 (e := 24) (by decide)); omega) (by have := pt_sz (z := (2 : Int) ^ (2 * q + 1)) (pt_pow (b := 2) (e := 2 * q + 1) (by decide) (by omega)); omega) W G
    rw [iv_tz, iv_tz] at h
    exact h)
  have CM := Lib.hid (fun (q : Nat) (hq : q < 12) W G => by
    have h := rcmp_c (tz ((A i : Int) ^ 24)) (tz ((B j : Int) ^ 24 * 2 ^ (2 * q + 1))) (pt_pcn a7 (by decide)) (pt_mcn b7 (by decide) (by omega)) (by have := pt_sz (pt_pow a7 (e := 24) (by decide)); omega) (by have := pt_msz b7 (e := 24) (f := 2 * q + 1) (by decide) (by omega); omega) W G
    rw [iv_tz, iv_tz] at h
    exact h)
  have SG := Lib.hid (fun (q : Nat) => show (sgn ((A i : Int) ^ 24 - (B j : Int) ^ 24 * 2 ^ (2 * q + 1)) < 0) ↔ Pt.pS (A i) (B j) q = true by rw [sgn_lt, ← pS_int, decide_eq_true_eq])
  obtain ⟨x, hx⟩ : ∃ x, tz ((A i : Int) ^ 24) = x := ⟨_, rfl⟩
  obtain ⟨y, hy⟩ : ∃ y, tz ((B j : Int) ^ 24) = y := ⟨_, rfl⟩
  obtain ⟨P2, hP2⟩ : ∃ f : Nat → ByteArray, ∀ q, tz ((2 : Int) ^ (2 * q + 1)) = f q := ⟨_, fun _ => rfl⟩
  obtain ⟨M2, hM2⟩ : ∃ f : Nat → ByteArray, ∀ q, tz ((B j : Int) ^ 24 * 2 ^ (2 * q + 1)) = f q := ⟨_, fun _ => rfl⟩
  obtain ⟨S2, hS2⟩ : ∃ f : Nat → Int, ∀ q, sgn ((A i : Int) ^ 24 - (B j : Int) ^ 24 * 2 ^ (2 * q + 1)) = f q := ⟨_, fun _ => rfl⟩
  rw [show (((2 : Nat) : Int)) = 2 from rfl] at PW
  simp only [hx, hy, hP2, hM2, hS2] at RA RB PW ML CM SG
  have SL := Lib.hid (fun q (h : q < k) => show ¬ S2 q < 0 from fun g => by
    have := hk.2.1 q h
    rw [(SG.out q).1 g] at this; cases this)
  have SR := Lib.hid (fun q (h : k ≤ q) (h' : q < 12) => show S2 q < 0 from (SG.out q).2 (hk.2.2 q h h'))
  have hk12 := hk.1
  have ES := Lib.hid es
  clear hs hA hB ho DL NL hx hy hP2 hM2 hS2 hk es en em SG
  obtain ⟨D, hD⟩ : ∃ D, w.heap.size = D := ⟨_, rfl⟩
  obtain ⟨W0, hW0⟩ : ∃ W0, (w.alloc (.cells #[.int .i64 a, .int .i64 b] 23)).alloc (.cells #[.int .i64 c, .int .i64 d] 23) = W0 := ⟨_, rfl⟩
  have hb0 : Below D w W0 := by rw [← hW0]; exact ((Below.refl _ w).alloc (by omega) _).alloc (by simp; omega) _
  have p0 : W0.heap[D]? = some (.cells #[.int .i64 a, .int .i64 b] 23) := by rw [← hW0]; exact heap_old (heap_new hD.symm)
  have p1 : W0.heap[D + 1]? = some (.cells #[.int .i64 c, .int .i64 d] 23) := by rw [← hW0]; exact heap_new (by simp [hD])
  have c0 := cell2_0 p0
  have c1 := cell2_1 p0
  have c2 := cell2_0 p1
  have c3 := cell2_1 p1
  have e1 : c * b = n := EN.out
  have e2 : d * a = m := EM.out
  have HW0 := Lib.hid (fun q => hb0.trans ((drew_below' W0 q).mono (by have := hb0.size; omega)))
  clear p0 p1 hb0
  go_enter Tryz.func21, Tryz.ntmps21
  go_upto_region 1 with fail
  try rw [hW0]
  go_quiet (fail)
  go_wp2_with fail
  have HWn := Lib.hid (HW0.out nq)
  clear c0 c1 c2 c3 e1 e2 EN EM HW0 wx wy
  go_loopw [6, 7] (fun u v wr => ∃ t : Nat, t ≤ j ∧ u = .int .i64 (B t : Int) ∧ v = .int .i64 (t : Int) ∧ Below D w wr) (fun u v _ => ((j : Int) - intOf v).toNat)
  case atStart => exact ⟨0, Nat.zero_le _, by rw [B0.out], rfl, HWn.out⟩
  case round =>
    obtain ⟨t, ht, rfl, rfl, hw⟩ := hrel
    clear HWn
    have wk2 := wrap_in (q := 2 * (B t : Int)) (by
      have : B t ≤ 4194304 := by
        by_cases h : t < j
        · have := DL2.out t h; omega
        · obtain rfl : t = j := by omega
          exact bb
      omega) (by
      have : B t ≤ 4194304 := by
        by_cases h : t < j
        · have := DL2.out t h; omega
        · obtain rfl : t = j := by omega
          exact bb
      omega)
    by_cases hlt : t < j
    · have h1 : 2 * (B t : Int) ≤ (n : Int) := by have := DL2.out t hlt; omega
      have wj := wrap_in (q := (t : Int) + 1) (by omega) (by omega)
      have E1 := Lib.hid (show ((B (t + 1) : Nat) : Int) = 2 * (B t : Int) by rw [BS.out]; omega)
      go_wp2_with fail
      go_roundw
      case rel => exact ⟨t + 1, hlt, by rw [E1.out], by rw [show ((t + 1 : Nat) : Int) = (t : Int) + 1 by omega], hw⟩
      case measure => simp [intOf]; omega
    · obtain rfl : t = j := by omega
      have h1 : ¬ 2 * (B t : Int) ≤ (n : Int) := by have := DX.out; omega
      obtain ⟨wo, hwo⟩ : ∃ wo, wo = wr := ⟨_, rfl⟩
      subst hwo
      have HWo := Lib.hid hw
      clear hw
      go_wp2_with fail
      go_loopw [5, 7] (fun u v wr => ∃ r : Nat, r ≤ i ∧ u = .int .i64 (A r : Int) ∧ v = .int .i64 ((t : Int) - r) ∧ Below D w wr) (fun u v _ => ((i : Int) - ((t : Int) - intOf v)).toNat)
      case atStart => exact ⟨0, Nat.zero_le _, by rw [A0.out], by rw [show (t : Int) - ((0 : Nat) : Int) = t by omega], HWo.out⟩
      case round =>
        obtain ⟨r, hr, rfl, rfl, hw⟩ := hrel
        clear HWo h1 hlt wk2
        by_cases hlt : r < i
        · have h1 : (A r : Int) < (B t : Int) := by have := NL2.out r hlt; omega
          have wk2 := wrap_in (q := 2 * (A r : Int)) (by omega) (by omega)
          have wj := wrap_in (q := (t : Int) - r - 1) (by omega) (by omega)
          have E1 := Lib.hid (show ((A (r + 1) : Nat) : Int) = 2 * (A r : Int) by rw [AS.out]; omega)
          go_wp2_with fail
          go_roundw
          case rel => exact ⟨r + 1, hlt, by rw [E1.out], by rw [show (t : Int) - ((r + 1 : Nat) : Int) = (t : Int) - r - 1 by omega], hw⟩
          case measure => simp [intOf]; omega
        · obtain rfl : r = i := by omega
          have h1 : ¬ (A r : Int) < (B t : Int) := by have := NX.out; omega
          obtain ⟨wo, hwo⟩ : ∃ wo, wo = wr := ⟨_, rfl⟩
          subst hwo
          have HWo := Lib.hid hw
          clear hw
          go_wp2_with fail
          refine (RA.out _ (G.below (hD ▸ HWo.out))).mono ?_
          rintro e w2 ⟨rfl, hb2⟩
          have hw2 := HWo.out.trans (hb2.mono (by have := HWo.out.size; omega))
          have hz2 := hw2.size
          go_wp2_with fail
          refine (RB.out _ (G.below (hD ▸ hw2))).mono ?_
          rintro e w3 ⟨rfl, hb3⟩
          have hw3 := hw2.trans (hb3.mono (by omega))
          have HW3 := Lib.hid hw3
          clear hw3 hb3 hw2 hb2 hz2 HWo h1
          go_wp2_with fail
          go_loopw [10, 11] (fun u v wr => ∃ lo hi : Nat, u = .int .i64 lo ∧ v = .int .i64 hi ∧ lo ≤ k ∧ k ≤ hi ∧ hi ≤ 12 ∧ Below D w wr) (fun u v _ => (intOf v - intOf u).toNat)
          case atStart => exact ⟨0, 12, rfl, rfl, Nat.zero_le _, hk12, Nat.le_refl _, HW3.out⟩
          case round =>
            obtain ⟨lo, hi, rfl, rfl, hlo, hhi, hh12, hw⟩ := hrel
            clear HW3
            by_cases hl2 : lo < hi
            · obtain ⟨q, hq⟩ : ∃ q, (lo + hi) / 2 = q := ⟨_, rfl⟩
              have hqb : lo ≤ q ∧ q < hi := by omega
              have hq2 : ((lo : Int) + (hi : Int)).tdiv 2 = (q : Int) := by rw [Int.tdiv_eq_ediv_of_nonneg (by omega)]; omega
              have wa := wrap_in (q := (lo : Int) + (hi : Int)) (by omega) (by omega)
              have wq := wrap_in (q := (q : Int)) (by omega) (by omega)
              have wb := wrap_in (q := 2 * (q : Int)) (by omega) (by omega)
              have wc := wrap_in (q := 2 * (q : Int) + 1) (by omega) (by omega)
              have PQ := Lib.hid (PW.out q (by omega))
              have MQ := Lib.hid (ML.out q (by omega))
              have CQ := Lib.hid (CM.out q (by omega))
              rw [show ((2 * q + 1 : Nat) : Int) = 2 * (q : Int) + 1 by omega] at PQ
              have hz := hw.size
              clear hq
              go_wp2_with fail
              refine (PQ.out _ (G.below (hD ▸ hw))).mono ?_
              rintro e w4 ⟨rfl, hb4⟩
              have hw4 := hw.trans (hb4.mono (by omega))
              have hz4 := hw4.size
              clear hb4
              go_wp2_with fail
              refine (MQ.out _ (G.below (hD ▸ hw4))).mono ?_
              rintro e w5 ⟨rfl, hb5⟩
              have hw5 := hw4.trans (hb5.mono (by omega))
              have hz5 := hw5.size
              clear hb5
              go_wp2_with fail
              refine (CQ.out _ (G.below (hD ▸ hw5))).mono ?_
              rintro e w6 ⟨rfl, hb6⟩
              have hw6 := hw5.trans (hb6.mono (by omega))
              clear hb6 hw5 hw4 hw hz hz4 hz5 PQ MQ CQ
              by_cases hqk : q < k
              · have hs := SL.out q hqk
                have wd := wrap_in (q := (q : Int) + 1) (by omega) (by omega)
                go_wp2_with fail
                go_roundw
                case rel => exact ⟨q + 1, hi, by rw [show ((q + 1 : Nat) : Int) = (q : Int) + 1 by omega], rfl, by omega, hhi, hh12, hw6⟩
                case measure => simp [intOf]; omega
              · have hs := SR.out q (by omega) (by omega)
                go_wp2_with fail
                go_roundw
                case rel => exact ⟨lo, q, rfl, rfl, hlo, by omega, by omega, hw6⟩
                case measure => simp [intOf]; omega
            · obtain rfl : lo = k := by omega
              have we1 := wrap_in (q := 12 * ((t : Int) - r)) (by omega) (by omega)
              have we2 := wrap_in (q := 12 * ((t : Int) - r) + (lo : Int)) (by omega) (by omega)
              go_wp2
              go_ret
              exact ⟨ret_int ES.out.symm, hD ▸ hw⟩
end Go.Proofs.YtkoljddejjfbiaaGreatDoor
