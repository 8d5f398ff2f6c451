/- Sizes that are written over a denominator: what is read of them, and what Add, Sub, Scale, Compare, Sign and Cents answer. -/
import Derived.Test.YthdoadkdofgenaaGreatDoorIvZ
import Derived.Test.YthdoadkdofgenaaGreatDoorIvK
namespace Go.Proofs.YthdoadkdofgenaaGreatDoor
open Go Go.RowKit Go.Shelf

theorem rd_of_write {A B C : Int} {D : Nat} (hD : 0 < D) (hok : Iv.okB A B C D = true) :
    Iv.rdE (FracMath.qn A D) (FracMath.qd A D) (FracMath.qn B D) (FracMath.qd B D) (FracMath.qn C D) (FracMath.qd C D) = 0 ∧ ∃ d : Nat, rdD (FracMath.qn A D) (FracMath.qd A D) (FracMath.qn B D) (FracMath.qd B D) (FracMath.qn C D) (FracMath.qd C D) = (d : Int) ∧ 0 < d ∧ d ≤ 240 ∧ rdA (FracMath.qn A D) (FracMath.qd A D) (FracMath.qn B D) (FracMath.qd B D) (FracMath.qn C D) (FracMath.qd C D) * (D : Int) = A * (d : Int) ∧ rdB (FracMath.qn A D) (FracMath.qd A D) (FracMath.qn B D) (FracMath.qd B D) (FracMath.qn C D) (FracMath.qd C D) * (D : Int) = B * (d : Int) ∧ rdC (FracMath.qn A D) (FracMath.qd A D) (FracMath.qn B D) (FracMath.qd B D) (FracMath.qn C D) (FracMath.qd C D) * (D : Int) = C * (d : Int) := by
  have h0 := (Iv.rd_write (a := A) (b := B) (c := C) hD).2 hok
  refine ⟨h0, ?_⟩
  obtain ⟨d, hd, d1, d2⟩ := rd_nat _ _ _ _ _ _ h0
  refine ⟨d, hd, d1, d2, ?_⟩
  have hDi : (0 : Int) < (D : Int) := by omega
  have hg := Iv.g4_pos (a := A) (b := B) (c := C) hDi
  have l1 := Iv.qn_low hg (Iv.g4_a A B C D) (Int.ofNat_dvd.1 (Iv.g4_d A B C D))
  have l2 := Iv.qn_low hg (Iv.g4_b A B C D) (Int.ofNat_dvd.1 (Iv.g4_d A B C D))
  have l3 := Iv.qn_low hg (Iv.g4_c A B C D) (Int.ofNat_dvd.1 (Iv.g4_d A B C D))
  have hp : 0 < D / Iv.g4 A B C D := Iv.low_pos hD
  have e1 := Iv.g4_low (a := A) (b := B) (c := C) hDi
  rw [Iv.tdiv_nat] at e1
  have hD3 : Iv.D3 (FracMath.qd A D) (FracMath.qd B D) (FracMath.qd C D) = D / Iv.g4 A B C D := by
    rw [l1.2, l2.2, l3.2]
    exact Iv.D3_write hp e1
  have hda : ∀ x : Int, (Iv.g4 A B C D : Int) ∣ x → x.tdiv (Iv.g4 A B C D : Int) * (D : Int) = x * ((D / Iv.g4 A B C D : Nat) : Int) := fun x hx => by
    obtain ⟨y, rfl⟩ := hx
    have hz : (Iv.g4 A B C D : Int) ≠ 0 := by omega
    rw [Int.mul_tdiv_cancel_left _ hz]
    obtain ⟨m, hm⟩ := Int.ofNat_dvd.1 (Iv.g4_d A B C D)
    have hm2 : D / Iv.g4 A B C D = m := by conv => lhs; lhs; rw [hm]
                                           exact Nat.mul_div_cancel_left _ hg
    rw [hm2]
    conv => lhs; rw [hm]
    rw [Int.natCast_mul]
    ac_rfl
  have hdd : (d : Int) = ((D / Iv.g4 A B C D : Nat) : Int) := by
    rw [← hd]
    unfold rdD
    rw [if_pos h0, hD3]
  rw [hdd]
  unfold rdA rdB rdC
  rw [if_pos h0, if_pos h0, if_pos h0, hD3]
  refine ⟨?_, ?_, ?_⟩
  · rw [l1.1, l1.2, Iv.up_write hp]; exact hda A (Iv.g4_a A B C D)
  · rw [l2.1, l2.2, Iv.up_write hp]; exact hda B (Iv.g4_b A B C D)
  · rw [l3.1, l3.2, Iv.up_write hp]; exact hda C (Iv.g4_c A B C D)
theorem prop_comb {p q A A' d e D D' k : Int} (h1 : p * D = A * d) (h2 : q * D' = A' * e) : (p * e + k * q * d) * (D * D') = (A * D' + k * A' * D) * (d * e) := by
  have a : p * e * (D * D') = A * D' * (d * e) := by
    rw [show p * e * (D * D') = (p * D) * (e * D') by ac_rfl, h1]; ac_rfl
  have b : k * q * d * (D * D') = k * A' * D * (d * e) := by
    rw [show k * q * d * (D * D') = k * (q * D') * (d * D) by ac_rfl, h2]; ac_rfl
  rw [Int.add_mul, Int.add_mul, a, b]
/-- What is put together of two sizes. -/
theorem comb_sz {pa pb pc qa qb qc A B C A' B' C' k : Int} {d e D D' : Nat} (hd : 0 < d) (he : 0 < e) (hD : 0 < D) (hD' : 0 < D') (a1 : pa * D = A * d) (b1 : pb * D = B * d) (c1 : pc * D = C * d) (a2 : qa * D' = A' * e) (b2 : qb * D' = B' * e) (c2 : qc * D' = C' * e) (p q X Y : Int) (x1 : p * D = X * d) (y1 : q * D' = Y * e) :
    szN (Iv.cb p q d e k) (Iv.cb pa qa d e k) (Iv.cb pb qb d e k) (Iv.cb pc qc d e k) (Nat.lcm d e) = szN (X * D' + k * Y * D) (A * D' + k * A' * D) (B * D' + k * B' * D) (C * D' + k * C' * D) (D * D') ∧
    szD (Iv.cb p q d e k) (Iv.cb pa qa d e k) (Iv.cb pb qb d e k) (Iv.cb pc qc d e k) (Nat.lcm d e) = szD (X * D' + k * Y * D) (A * D' + k * A' * D) (B * D' + k * B' * D) (C * D' + k * C' * D) (D * D') ∧
    szE (Iv.cb pa qa d e k) (Iv.cb pb qb d e k) (Iv.cb pc qc d e k) (Nat.lcm d e) = szE (A * D' + k * A' * D) (B * D' + k * B' * D) (C * D' + k * C' * D) (D * D') := by
  obtain ⟨u1, u2, u3⟩ := cb_sz p q pa qa pb qb pc qc k hd he
  have f : ∀ p q X Y : Int, p * D = X * d → q * D' = Y * e → (p * (e : Int) + k * q * (d : Int)) * ((D * D' : Nat) : Int) = (X * (D' : Int) + k * Y * (D : Int)) * ((d * e : Nat) : Int) := fun p q X Y h1 h2 => by
    rw [Int.natCast_mul, Int.natCast_mul]; exact prop_comb h1 h2
  obtain ⟨v1, v2, v3⟩ := sz_eqv (Nat.mul_pos hd he) (Nat.mul_pos hD hD') (f _ _ _ _ x1 y1) (f _ _ _ _ a1 a2) (f _ _ _ _ b1 b2) (f _ _ _ _ c1 c2)
  exact ⟨u1.trans v1, u2.trans v2, u3.trans v3⟩
theorem sgn_sg (z : Int) : sgn z = Iv.sg z := rfl
theorem lg_comb {A B C A' B' C' k : Int} {D D' : Int} : Iv.lg (A * D' + k * A' * D) (B * D' + k * B' * D) (C * D' + k * C' * D) = Iv.lg A B C * D' + k * (Iv.lg A' B' C' * D) := by
  unfold Iv.lg
  generalize Iv.L2 = l2
  generalize Iv.L3 = l3
  generalize Iv.L5 = l5
  have f : ∀ X Y l : Int, (X * D' + k * Y * D) * l = X * l * D' + k * (Y * l * D) := fun X Y l => by
    rw [Int.add_mul, show X * D' * l = X * l * D' by ac_rfl, show k * Y * D * l = k * (Y * l * D) by ac_rfl]
  rw [f, f, f]
  simp only [Int.add_mul, Int.mul_add]
  omega

theorem addw (A B C A' B' C' : Int) (D D' : Nat) (hD : 0 < D) (hD' : 0 < D') (h1 : Iv.okB A B C D = true) (h2 : Iv.okB A' B' C' D' = true) (w : World) :
    Calls Tryz.prog 16 #[.agg #[.int .i64 (FracMath.qn A D), .int .i64 (FracMath.qd A D), .int .i64 (FracMath.qn B D), .int .i64 (FracMath.qd B D), .int .i64 (FracMath.qn C D), .int .i64 (FracMath.qd C D)], .agg #[.int .i64 (FracMath.qn A' D'), .int .i64 (FracMath.qd A' D'), .int .i64 (FracMath.qn B' D'), .int .i64 (FracMath.qd B' D'), .int .i64 (FracMath.qn C' D'), .int .i64 (FracMath.qd C' D')]] w fun e w' => e = .returned (.tuple #[.agg #[.int .i64 (szN (A * D' + 1 * A' * D) (A * D' + 1 * A' * D) (B * D' + 1 * B' * D) (C * D' + 1 * C' * D) (D * D')), .int .i64 (szD (A * D' + 1 * A' * D) (A * D' + 1 * A' * D) (B * D' + 1 * B' * D) (C * D' + 1 * C' * D) (D * D')), .int .i64 (szN (B * D' + 1 * B' * D) (A * D' + 1 * A' * D) (B * D' + 1 * B' * D) (C * D' + 1 * C' * D) (D * D')), .int .i64 (szD (B * D' + 1 * B' * D) (A * D' + 1 * A' * D) (B * D' + 1 * B' * D) (C * D' + 1 * C' * D) (D * D')), .int .i64 (szN (C * D' + 1 * C' * D) (A * D' + 1 * A' * D) (B * D' + 1 * B' * D) (C * D' + 1 * C' * D) (D * D')), .int .i64 (szD (C * D' + 1 * C' * D) (A * D' + 1 * A' * D) (B * D' + 1 * B' * D) (C * D' + 1 * C' * D) (D * D'))], .int .i64 (szE (A * D' + 1 * A' * D) (B * D' + 1 * B' * D) (C * D' + 1 * C' * D) (D * D'))]) ∧ Below w.heap.size w w' := by
  obtain ⟨e0, d, ed, d1, d2, a1, b1, c1⟩ := rd_of_write hD h1
  obtain ⟨f0, e, ee, e1, e2, a2, b2, c2⟩ := rd_of_write hD' h2
  have h := ivadd_ok (FracMath.qn A D) (FracMath.qd A D) (FracMath.qn B D) (FracMath.qd B D) (FracMath.qn C D) (FracMath.qd C D) (FracMath.qn A' D') (FracMath.qd A' D') (FracMath.qn B' D') (FracMath.qd B' D') (FracMath.qn C' D') (FracMath.qd C' D') d e w e0 f0 ed d1 d2 ee e1 e2
  obtain ⟨u1, u2, u3⟩ := comb_sz (k := 1) d1 e1 hD hD' a1 b1 c1 a2 b2 c2 _ _ _ _ a1 a2
  obtain ⟨v1, v2, _⟩ := comb_sz (k := 1) d1 e1 hD hD' a1 b1 c1 a2 b2 c2 _ _ _ _ b1 b2
  obtain ⟨w1, w2, _⟩ := comb_sz (k := 1) d1 e1 hD hD' a1 b1 c1 a2 b2 c2 _ _ _ _ c1 c2
  rw [u1, u2, u3, v1, v2, w1, w2] at h
  exact h
theorem subw (A B C A' B' C' : Int) (D D' : Nat) (hD : 0 < D) (hD' : 0 < D') (h1 : Iv.okB A B C D = true) (h2 : Iv.okB A' B' C' D' = true) (w : World) :
    Calls Tryz.prog 17 #[.agg #[.int .i64 (FracMath.qn A D), .int .i64 (FracMath.qd A D), .int .i64 (FracMath.qn B D), .int .i64 (FracMath.qd B D), .int .i64 (FracMath.qn C D), .int .i64 (FracMath.qd C D)], .agg #[.int .i64 (FracMath.qn A' D'), .int .i64 (FracMath.qd A' D'), .int .i64 (FracMath.qn B' D'), .int .i64 (FracMath.qd B' D'), .int .i64 (FracMath.qn C' D'), .int .i64 (FracMath.qd C' D')]] w fun e w' => e = .returned (.tuple #[.agg #[.int .i64 (szN (A * D' + (-1) * A' * D) (A * D' + (-1) * A' * D) (B * D' + (-1) * B' * D) (C * D' + (-1) * C' * D) (D * D')), .int .i64 (szD (A * D' + (-1) * A' * D) (A * D' + (-1) * A' * D) (B * D' + (-1) * B' * D) (C * D' + (-1) * C' * D) (D * D')), .int .i64 (szN (B * D' + (-1) * B' * D) (A * D' + (-1) * A' * D) (B * D' + (-1) * B' * D) (C * D' + (-1) * C' * D) (D * D')), .int .i64 (szD (B * D' + (-1) * B' * D) (A * D' + (-1) * A' * D) (B * D' + (-1) * B' * D) (C * D' + (-1) * C' * D) (D * D')), .int .i64 (szN (C * D' + (-1) * C' * D) (A * D' + (-1) * A' * D) (B * D' + (-1) * B' * D) (C * D' + (-1) * C' * D) (D * D')), .int .i64 (szD (C * D' + (-1) * C' * D) (A * D' + (-1) * A' * D) (B * D' + (-1) * B' * D) (C * D' + (-1) * C' * D) (D * D'))], .int .i64 (szE (A * D' + (-1) * A' * D) (B * D' + (-1) * B' * D) (C * D' + (-1) * C' * D) (D * D'))]) ∧ Below w.heap.size w w' := by
  obtain ⟨e0, d, ed, d1, d2, a1, b1, c1⟩ := rd_of_write hD h1
  obtain ⟨f0, e, ee, e1, e2, a2, b2, c2⟩ := rd_of_write hD' h2
  have h := ivsub_ok (FracMath.qn A D) (FracMath.qd A D) (FracMath.qn B D) (FracMath.qd B D) (FracMath.qn C D) (FracMath.qd C D) (FracMath.qn A' D') (FracMath.qd A' D') (FracMath.qn B' D') (FracMath.qd B' D') (FracMath.qn C' D') (FracMath.qd C' D') d e w e0 f0 ed d1 d2 ee e1 e2
  obtain ⟨u1, u2, u3⟩ := comb_sz (k := (-1)) d1 e1 hD hD' a1 b1 c1 a2 b2 c2 _ _ _ _ a1 a2
  obtain ⟨v1, v2, _⟩ := comb_sz (k := (-1)) d1 e1 hD hD' a1 b1 c1 a2 b2 c2 _ _ _ _ b1 b2
  obtain ⟨w1, w2, _⟩ := comb_sz (k := (-1)) d1 e1 hD hD' a1 b1 c1 a2 b2 c2 _ _ _ _ c1 c2
  rw [u1, u2, u3, v1, v2, w1, w2] at h
  exact h
theorem comparew (A B C A' B' C' : Int) (D D' : Nat) (hD : 0 < D) (hD' : 0 < D') (h1 : Iv.okB A B C D = true) (h2 : Iv.okB A' B' C' D' = true) (w : World) (G : Gi w) :
    Calls Tryz.prog 20 #[.agg #[.int .i64 (FracMath.qn A D), .int .i64 (FracMath.qd A D), .int .i64 (FracMath.qn B D), .int .i64 (FracMath.qd B D), .int .i64 (FracMath.qn C D), .int .i64 (FracMath.qd C D)], .agg #[.int .i64 (FracMath.qn A' D'), .int .i64 (FracMath.qd A' D'), .int .i64 (FracMath.qn B' D'), .int .i64 (FracMath.qd B' D'), .int .i64 (FracMath.qn C' D'), .int .i64 (FracMath.qd C' D')]] w fun e w' => e = .returned (.tuple #[.int .i64 (Iv.sg (Iv.lg A B C * D' - Iv.lg A' B' C' * D)), .int .i64 0]) ∧ Below w.heap.size w w' := by
  obtain ⟨e0, d, ed, d1, d2, a1, b1, c1⟩ := rd_of_write hD h1
  obtain ⟨f0, e, ee, e1, e2, a2, b2, c2⟩ := rd_of_write hD' h2
  have h := ivcompare_ok (FracMath.qn A D) (FracMath.qd A D) (FracMath.qn B D) (FracMath.qd B D) (FracMath.qn C D) (FracMath.qd C D) (FracMath.qn A' D') (FracMath.qd A' D') (FracMath.qn B' D') (FracMath.qd B' D') (FracMath.qn C' D') (FracMath.qd C' D') d e w G e0 f0 ed d1 d2 ee e1 e2
  rw [sgn_sg] at h
  have f : ∀ p q X Y : Int, p * D = X * d → q * D' = Y * e → Iv.cb p q d e (-1) * ((D * D' : Nat) : Int) = (X * (D' : Int) + (-1) * Y * (D : Int)) * ((Nat.lcm d e : Nat) : Int) := fun p q X Y h1 h2 => by
    have hde : ((d * e : Nat) : Int) ≠ 0 := by have := Nat.mul_pos d1 e1; omega
    apply Int.eq_of_mul_eq_mul_right hde
    have k1 := Iv.cb_eqv d1 e1 p q (-1)
    have k2 := prop_comb (k := -1) h1 h2
    rw [show Iv.cb p q d e (-1) * ((D * D' : Nat) : Int) * ((d * e : Nat) : Int) = (Iv.cb p q d e (-1) * ((d * e : Nat) : Int)) * ((D * D' : Nat) : Int) by ac_rfl, k1]
    rw [show (p * (e : Int) + (-1) * q * (d : Int)) * ((Nat.lcm d e : Nat) : Int) * ((D * D' : Nat) : Int) = ((p * (e : Int) + (-1) * q * (d : Int)) * ((D : Int) * (D' : Int))) * ((Nat.lcm d e : Nat) : Int) by rw [Int.natCast_mul]; ac_rfl, k2, Int.natCast_mul]
    ac_rfl
  have hl := Iv.lg_eqv (f _ _ _ _ a1 a2) (f _ _ _ _ b1 b2) (f _ _ _ _ c1 c2)
  have hs := Iv.sg_eqv (Nat.lcm_pos d1 e1) (Nat.mul_pos hD hD') hl
  rw [hs, lg_comb] at h
  rw [show Iv.lg A B C * (D' : Int) - Iv.lg A' B' C' * (D : Int) = Iv.lg A B C * (D' : Int) + (-1) * (Iv.lg A' B' C' * (D : Int)) by omega]
  exact h
theorem signw (A B C : Int) (D : Nat) (hD : 0 < D) (h1 : Iv.okB A B C D = true) (w : World) (G : Gi w) :
    Calls Tryz.prog 19 #[.agg #[.int .i64 (FracMath.qn A D), .int .i64 (FracMath.qd A D), .int .i64 (FracMath.qn B D), .int .i64 (FracMath.qd B D), .int .i64 (FracMath.qn C D), .int .i64 (FracMath.qd C D)]] w fun e w' => e = .returned (.tuple #[.int .i64 (Iv.sg (Iv.lg A B C)), .int .i64 0]) ∧ Below w.heap.size w w' := by
  obtain ⟨e0, d, ed, d1, d2, a1, b1, c1⟩ := rd_of_write hD h1
  have h := ivsign_ok (FracMath.qn A D) (FracMath.qd A D) (FracMath.qn B D) (FracMath.qd B D) (FracMath.qn C D) (FracMath.qd C D) w G e0
  rw [sgn_sg, Iv.sg_eqv d1 hD (Iv.lg_eqv a1 b1 c1)] at h
  exact h
theorem centsw (A B C : Int) (D : Nat) (hD : 0 < D) (h1 : Iv.okB A B C D = true) (w : World) (G : Gi w) :
    Calls Tryz.prog 22 #[.agg #[.int .i64 (FracMath.qn A D), .int .i64 (FracMath.qd A D), .int .i64 (FracMath.qn B D), .int .i64 (FracMath.qd B D), .int .i64 (FracMath.qn C D), .int .i64 (FracMath.qd C D)]] w fun e w' => e = .returned (.tuple #[.int .i64 (Iv.cn (Iv.lg A B C) D), .int .i64 0]) ∧ Below w.heap.size w w' := by
  obtain ⟨e0, d, ed, d1, d2, a1, b1, c1⟩ := rd_of_write hD h1
  have h := ivcents_ok (FracMath.qn A D) (FracMath.qd A D) (FracMath.qn B D) (FracMath.qd B D) (FracMath.qn C D) (FracMath.qd C D) d w G e0 ed d1 d2
  rw [Iv.cn_eqv d1 hD (Iv.lg_eqv a1 b1 c1)] at h
  exact h
theorem scalew (A B C k : Int) (D m : Nat) (hD : 0 < D) (hm : 0 < m) (h1 : Iv.okB A B C D = true) (hr : FracMath.rightB k (m : Int) = true) (w : World) :
    Calls Tryz.prog 18 #[.agg #[.int .i64 (FracMath.qn A D), .int .i64 (FracMath.qd A D), .int .i64 (FracMath.qn B D), .int .i64 (FracMath.qd B D), .int .i64 (FracMath.qn C D), .int .i64 (FracMath.qd C D)], .agg #[.int .i64 k, .int .i64 (m : Int)]] w fun e w' => e = .returned (.tuple #[.agg #[.int .i64 (szN (A * k) (A * k) (B * k) (C * k) (D * m)), .int .i64 (szD (A * k) (A * k) (B * k) (C * k) (D * m)), .int .i64 (szN (B * k) (A * k) (B * k) (C * k) (D * m)), .int .i64 (szD (B * k) (A * k) (B * k) (C * k) (D * m)), .int .i64 (szN (C * k) (A * k) (B * k) (C * k) (D * m)), .int .i64 (szD (C * k) (A * k) (B * k) (C * k) (D * m))], .int .i64 (szE (A * k) (B * k) (C * k) (D * m))]) ∧ Below w.heap.size w w' := by
  obtain ⟨e0, d, ed, d1, d2, a1, b1, c1⟩ := rd_of_write hD h1
  have h := ivscale_ok (FracMath.qn A D) (FracMath.qd A D) (FracMath.qn B D) (FracMath.qd B D) (FracMath.qn C D) (FracMath.qd C D) k d m w e0 ed d1 d2 hr
  have f : ∀ p X : Int, p * D = X * d → (p * k) * ((D * m : Nat) : Int) = (X * k) * ((d * m : Nat) : Int) := fun p X hx => by
    rw [Int.natCast_mul, Int.natCast_mul, show p * k * ((D : Int) * (m : Int)) = (p * (D : Int)) * (k * (m : Int)) by ac_rfl, hx]
    ac_rfl
  obtain ⟨u1, u2, u3⟩ := sz_eqv (Nat.mul_pos d1 hm) (Nat.mul_pos hD hm) (f _ _ a1) (f _ _ a1) (f _ _ b1) (f _ _ c1)
  obtain ⟨v1, v2, _⟩ := sz_eqv (Nat.mul_pos d1 hm) (Nat.mul_pos hD hm) (f _ _ b1) (f _ _ a1) (f _ _ b1) (f _ _ c1)
  obtain ⟨w1, w2, _⟩ := sz_eqv (Nat.mul_pos d1 hm) (Nat.mul_pos hD hm) (f _ _ c1) (f _ _ a1) (f _ _ b1) (f _ _ c1)
  rw [u1, u2, u3, v1, v2, w1, w2] at h
  exact h
set_option maxRecDepth 10000 in
set_option maxHeartbeats 4000000 in
theorem lmake_any (a b c u : Int) (d : Nat) (w : World) (ha : -128 ≤ a ∧ a ≤ 127) (hb : -128 ≤ b ∧ b ≤ 127) (hc : -128 ≤ c ∧ c ≤ 127) (hu : 0 ≤ u ∧ u ≤ 255) (hd : (d : Int) = 1 + u % 12) :
    Calls Tryz.prog 37 #[.agg #[.int .i8 a, .int .i8 b, .int .i8 c, .int .u8 u]] w fun e w' => e = .returned (.agg #[.int .i64 (FracMath.qn a d), .int .i64 (FracMath.qd a d), .int .i64 (FracMath.qn b d), .int .i64 (FracMath.qd b d), .int .i64 (FracMath.qn c d), .int .i64 (FracMath.qd c d)]) ∧ Below w.heap.size w w' := by
  have SZ := Lib.hid (fun W => lsize_any a b c (d : Int) W (by omega) (by omega) (by omega) (by omega) (by omega) (by omega) (by omega) (by omega))
  generalize FracMath.qn a d = pa at *
  generalize FracMath.qd a d = qa at *
  generalize FracMath.qn b d = pb at *
  generalize FracMath.qd b d = qb at *
  generalize FracMath.qn c d = pc at *
  generalize FracMath.qd c d = qc at *
  obtain ⟨r, hr⟩ : ∃ r, u.tmod 12 = r := ⟨_, rfl⟩
  have hr2 : 0 ≤ r ∧ r < 12 ∧ (d : Int) = 1 + r := by rw [← hr, Int.tmod_eq_emod_of_nonneg hu.1]; omega
  obtain ⟨dd, hdd⟩ : ∃ x : Int, (d : Int) = x := ⟨_, rfl⟩
  rw [hdd] at SZ hr2
  clear hd hdd
  obtain ⟨r0, r1, r2⟩ := hr2
  have e1 : 1 + r = dd := r2.symm
  have e2 : 0 ≤ dd ∧ dd ≤ 12 := by omega
  clear r2
  obtain ⟨D, hD⟩ : ∃ D, w.heap.size = D := ⟨_, rfl⟩
  go_enter Tryz.func37, Tryz.ntmps37
  go_wp2_with fail
  refine (SZ.out _).mono ?_
  rintro e w1 ⟨rfl, hb1⟩
  have h1 : w1.heap[D + 1]? = some (.cells #[.int .i64 0, .int .i64 0, .int .i64 0, .int .i64 0, .int .i64 0, .int .i64 0] 25) := (hb1.block (D + 1) (by simp [hD])).trans (heap_new (by simp [hD]))
  have hw1 : Below D w w1 := (((Below.refl _ w).alloc (by omega) _).alloc (by simp; omega) _).trans (hb1.mono (by simp; omega))
  have r0 := cell6_0 h1
  have f0 := free6_0 h1
  have r1 := cell6_1 h1
  have f1 := free6_1 h1
  have r2 := cell6_2 h1
  have f2 := free6_2 h1
  have r3 := cell6_3 h1
  have f3 := free6_3 h1
  have r4 := cell6_4 h1
  have f4 := free6_4 h1
  have r5 := cell6_5 h1
  have f5 := free6_5 h1
  obtain ⟨U, hU⟩ : ∃ U, ((((((w1.setCell ⟨D + 1, 0, none⟩ (.int .i64 pa)).setCell ⟨D + 1, 1, none⟩ (.int .i64 qa)).setCell ⟨D + 1, 2, none⟩ (.int .i64 pb)).setCell ⟨D + 1, 3, none⟩ (.int .i64 qb)).setCell ⟨D + 1, 4, none⟩ (.int .i64 pc)).setCell ⟨D + 1, 5, none⟩ (.int .i64 qc)) = U := ⟨_, rfl⟩
  have HW := Lib.hid (show Below D w U by rw [← hU]; exact ((((((hw1.setCell (p := ⟨D + 1, 0, none⟩) (show D ≤ D + 1 by omega) (.int .i64 pa)).setCell (p := ⟨D + 1, 1, none⟩) (show D ≤ D + 1 by omega) (.int .i64 qa)).setCell (p := ⟨D + 1, 2, none⟩) (show D ≤ D + 1 by omega) (.int .i64 pb)).setCell (p := ⟨D + 1, 3, none⟩) (show D ≤ D + 1 by omega) (.int .i64 qb)).setCell (p := ⟨D + 1, 4, none⟩) (show D ≤ D + 1 by omega) (.int .i64 pc)).setCell (p := ⟨D + 1, 5, none⟩) (show D ≤ D + 1 by omega) (.int .i64 qc)))
  have hE : U.heap[D + 1]? = some (.cells #[.int .i64 pa, .int .i64 qa, .int .i64 pb, .int .i64 qb, .int .i64 pc, .int .i64 qc] 25) := by rw [← hU]; exact (set6_5 (x := .int .i64 qc) (set6_4 (x := .int .i64 pc) (set6_3 (x := .int .i64 qb) (set6_2 (x := .int .i64 pb) (set6_1 (x := .int .i64 qa) (set6_0 (x := .int .i64 pa) h1))))))
  have HU := Lib.hid hU
  have z0 := cell6_0 hE
  have z1 := cell6_1 hE
  have z2 := cell6_2 hE
  have z3 := cell6_3 hE
  have z4 := cell6_4 hE
  have z5 := cell6_5 hE
  clear hE hU h1 hw1 hb1
  go_wp2
  rw [HU.out]
  refine bodyPost_ret (v := .agg #[.int .i64 pa, .int .i64 qa, .int .i64 pb, .int .i64 qb, .int .i64 pc, .int .i64 qc]) (by simp [results, Tryz.results37, go_sem, z0, z1, z2, z3, z4, z5]) rfl ⟨rfl, by first | exact HW.out | (rw [hD]; exact HW.out)⟩
end Go.Proofs.YthdoadkdofgenaaGreatDoor
/- The walk of IntervalParts. -/
namespace Go.Proofs.YthdoadkdofgenaaGreatDoor
open Go Go.RowKit Go.Shelf

theorem sz_ok {a b c : Int} {D : Nat} (h : Iv.okB a b c D = true) (x : Int) : szN x a b c D = FracMath.qn x D ∧ szD x a b c D = FracMath.qd x D ∧ szE a b c D = 0 := by
  unfold szN szD szE
  rw [h]
  exact ⟨rfl, rfl, rfl⟩
theorem ok_small {a b c : Int} {D : Nat} (ha : -6000 ≤ a ∧ a ≤ 6000) (hb : -6000 ≤ b ∧ b ≤ 6000) (hc : -6000 ≤ c ∧ c ≤ 6000) (hD : D ≤ 240) : Iv.okB a b c D = true := by
  apply Iv.ok_of_in
  unfold Iv.inB
  simp only [decide_eq_true_eq]
  omega
theorem right_one {m : Nat} (h1 : 1 ≤ m) (h2 : m ≤ 12) : FracMath.rightB 1 (m : Int) = true := by
  rw [FracMath.right_in (by omega) (by omega) (by omega) (by omega)]
  unfold FracMath.gg
  simp
/-- The numbers of i parts. -/
def prF (a b c : Int) (q : Nat) (j i : Nat) : Int := match j with | 0 => FracMath.qn (a * i) q | 1 => FracMath.qd (a * i) q | 2 => FracMath.qn (b * i) q | 3 => FracMath.qd (b * i) q | 4 => FracMath.qn (c * i) q | _ => FracMath.qd (c * i) q
theorem mul_bd2 {a : Int} {i : Nat} (ha : -128 ≤ a ∧ a ≤ 127) (hi : i ≤ 12) : -1536 ≤ a * (i : Int) ∧ a * (i : Int) ≤ 1536 := by
  have h := mulb (x := a) (y := (i : Int)) (X := 128) (Y := 12) (by omega) (by omega) (by omega) (by omega)
  omega
theorem cmp_cents (X Y : Int) {d e : Nat} (hd : 0 < d) (he : 0 < e) : (Iv.sg (X * e - Y * d) = -1 ∧ Iv.cn X d ≤ Iv.cn Y e) ∨ (Iv.sg (X * e - Y * d) = 0 ∧ Iv.cn X d = Iv.cn Y e) ∨ (Iv.sg (X * e - Y * d) = 1 ∧ Iv.cn Y e ≤ Iv.cn X d) := by
  generalize hx : X * (e : Int) = x
  generalize hy : Y * (d : Int) = y
  unfold Iv.sg
  rcases Int.lt_trichotomy x y with h | h | h
  · left
    rw [if_neg (by omega), if_pos (by omega)]
    exact ⟨rfl, Iv.cn_mono hd he (by omega)⟩
  · right; left
    rw [if_pos (by omega)]
    exact ⟨rfl, Iv.cn_eqv hd he (by omega)⟩
  · right; right
    rw [if_neg (by omega), if_neg (by omega)]
    exact ⟨rfl, Iv.cn_mono he hd (by omega)⟩

theorem make_z {u : Int} (hu : 0 ≤ u ∧ u ≤ 255) : ∃ d : Nat, (d : Int) = 1 + u % 12 ∧ 1 ≤ d ∧ d ≤ 12 := ⟨(1 + u % 12).toNat, by omega, by omega, by omega⟩
set_option maxRecDepth 100000 in
set_option maxHeartbeats 8000000 in
theorem parts_walk (a0 b0 c0 u0 a1 b1 c1 u1 n : Int) (ha0 : -128 ≤ a0 ∧ a0 ≤ 127) (hb0 : -128 ≤ b0 ∧ b0 ≤ 127) (hc0 : -128 ≤ c0 ∧ c0 ≤ 127) (ha1 : -128 ≤ a1 ∧ a1 ≤ 127) (hb1 : -128 ≤ b1 ∧ b1 ≤ 127) (hc1 : -128 ≤ c1 ∧ c1 ≤ 127) (hu0 : 0 ≤ u0 ∧ u0 ≤ 255) (hu1 : 0 ≤ u1 ∧ u1 ≤ 255) (hn : 0 ≤ n ∧ n ≤ 255) (w : World) (G : Gi w) (N : Nm w) :
    Calls Tryz.prog 11 #[.agg #[.int .i8 a0, .int .i8 b0, .int .i8 c0, .int .u8 u0], .agg #[.int .i8 a1, .int .i8 b1, .int .i8 c1, .int .u8 u1], .int .u8 n] w fun e w' => e = .returned (.bool true) ∧ Below w.heap.size w w' := by
  have KN := Lib.hid (fun W (G : Gi W) (N : Nm W) => lknown_any W G N)
  obtain ⟨d, hd, d1, d2⟩ := make_z hu0
  obtain ⟨d', hd', d3, d4⟩ := make_z hu1
  obtain ⟨m, hm, m1, m2⟩ := make_z hn
  have ok0 : Iv.okB a0 b0 c0 d = true := ok_small (by omega) (by omega) (by omega) (by omega)
  have ok1 : Iv.okB a1 b1 c1 d' = true := ok_small (by omega) (by omega) (by omega) (by omega)
  have MP := Lib.hid (fun W => lmake_any a0 b0 c0 u0 d W ha0 hb0 hc0 hu0 hd)
  have MQ := Lib.hid (fun W => lmake_any a1 b1 c1 u1 d' W ha1 hb1 hc1 hu1 hd')
  have CM := Lib.hid (fun W G => comparew a0 b0 c0 a1 b1 c1 d d' (by omega) (by omega) ok0 ok1 W G)
  have C0 := Lib.hid (fun W G => centsw a0 b0 c0 d (by omega) ok0 W G)
  have C1 := Lib.hid (fun W G => centsw a1 b1 c1 d' (by omega) ok1 W G)
  have H3 := Lib.hid (cmp_cents (Iv.lg a0 b0 c0) (Iv.lg a1 b1 c1) (d := d) (e := d') (by omega) (by omega))
  obtain ⟨q, hq⟩ : ∃ q, d * m = q := ⟨_, rfl⟩
  have hq0 : 0 < q := by rw [← hq]; exact Nat.mul_pos (by omega) (by omega)
  have hq1 : q ≤ 144 := by rw [← hq]; exact Nat.mul_le_mul d2 m2
  have okI : ∀ i : Nat, i ≤ 12 → Iv.okB (a0 * i) (b0 * i) (c0 * i) q = true := fun i hi => by
    have k1 := mul_bd2 ha0 hi
    have k2 := mul_bd2 hb0 hi
    have k3 := mul_bd2 hc0 hi
    exact ok_small (by omega) (by omega) (by omega) (by omega)
  have sc := fun W => scalew a0 b0 c0 1 d m (by omega) (by omega) ok0 (right_one m1 m2) W
  rw [hq] at sc
  have o1 : Iv.okB (a0 * 1) (b0 * 1) (c0 * 1) q = true := okI 1 (by omega)
  simp only [(sz_ok o1 (a0 * 1)).1, (sz_ok o1 (a0 * 1)).2.1, (sz_ok o1 (b0 * 1)).1, (sz_ok o1 (b0 * 1)).2.1, (sz_ok o1 (c0 * 1)).1, (sz_ok o1 (c0 * 1)).2.1, (sz_ok o1 (a0 * 1)).2.2] at sc
  have ad : ∀ i : Nat, i < 12 → ∀ W, Calls Tryz.prog 16 #[.agg #[.int .i64 (FracMath.qn (a0 * (i : Int)) q), .int .i64 (FracMath.qd (a0 * (i : Int)) q), .int .i64 (FracMath.qn (b0 * (i : Int)) q), .int .i64 (FracMath.qd (b0 * (i : Int)) q), .int .i64 (FracMath.qn (c0 * (i : Int)) q), .int .i64 (FracMath.qd (c0 * (i : Int)) q)], .agg #[.int .i64 (FracMath.qn (a0 * ((1 : Nat) : Int)) q), .int .i64 (FracMath.qd (a0 * ((1 : Nat) : Int)) q), .int .i64 (FracMath.qn (b0 * ((1 : Nat) : Int)) q), .int .i64 (FracMath.qd (b0 * ((1 : Nat) : Int)) q), .int .i64 (FracMath.qn (c0 * ((1 : Nat) : Int)) q), .int .i64 (FracMath.qd (c0 * ((1 : Nat) : Int)) q)]] W fun e w' => e = .returned (.tuple #[.agg #[.int .i64 (FracMath.qn (a0 * ((i + 1 : Nat) : Int)) q), .int .i64 (FracMath.qd (a0 * ((i + 1 : Nat) : Int)) q), .int .i64 (FracMath.qn (b0 * ((i + 1 : Nat) : Int)) q), .int .i64 (FracMath.qd (b0 * ((i + 1 : Nat) : Int)) q), .int .i64 (FracMath.qn (c0 * ((i + 1 : Nat) : Int)) q), .int .i64 (FracMath.qd (c0 * ((i + 1 : Nat) : Int)) q)], .int .i64 0]) ∧ Below W.heap.size W w' := fun i hi W => by
    have h := addw (a0 * (i : Int)) (b0 * (i : Int)) (c0 * (i : Int)) (a0 * ((1 : Nat) : Int)) (b0 * ((1 : Nat) : Int)) (c0 * ((1 : Nat) : Int)) q q hq0 hq0 (okI i (by omega)) (okI 1 (by omega)) W
    have f : ∀ x : Int, (x * (i : Int) * (q : Int) + 1 * (x * ((1 : Nat) : Int)) * (q : Int)) * (q : Int) = (x * ((i + 1 : Nat) : Int)) * ((q * q : Nat) : Int) := fun x => by
      rw [Int.natCast_mul, Int.natCast_add, Int.one_mul, ← Int.add_mul, ← Int.mul_add, Int.mul_assoc]
    have s := fun x => sz_eqv (Nat.mul_pos hq0 hq0) hq0 (f x) (f a0) (f b0) (f c0)
    have o := okI (i + 1) (by omega)
    rw [(s a0).1, (s a0).2.1, (s b0).1, (s b0).2.1, (s c0).1, (s c0).2.1, (s a0).2.2, (sz_ok o _).1, (sz_ok o _).2.1, (sz_ok o _).1, (sz_ok o _).2.1, (sz_ok o _).1, (sz_ok o _).2.1, (sz_ok o 0).2.2] at h
    exact h
  have en : ∀ x : Int, FracMath.qn (x * (m : Int)) q = FracMath.qn x d ∧ FracMath.qd (x * (m : Int)) q = FracMath.qd x d := fun x => by
    rw [← hq, Int.natCast_mul]
    exact ⟨Iv.qn_scale x d (by omega), Iv.qd_scale x d (by omega)⟩
  obtain ⟨F, hF⟩ : ∃ F : Nat → Nat → Int, F = prF a0 b0 c0 q := ⟨_, rfl⟩
  have SC := Lib.hid (fun W => show Calls Tryz.prog 18 #[.agg #[.int .i64 (FracMath.qn a0 d), .int .i64 (FracMath.qd a0 d), .int .i64 (FracMath.qn b0 d), .int .i64 (FracMath.qd b0 d), .int .i64 (FracMath.qn c0 d), .int .i64 (FracMath.qd c0 d)], .agg #[.int .i64 1, .int .i64 (m : Int)]] W fun e w' => e = .returned (.tuple #[.agg #[.int .i64 (F 0 1), .int .i64 (F 1 1), .int .i64 (F 2 1), .int .i64 (F 3 1), .int .i64 (F 4 1), .int .i64 (F 5 1)], .int .i64 0]) ∧ Below W.heap.size W w' by rw [hF]; exact sc W)
  have AD := Lib.hid (fun (i : Nat) (hi : i < 12) W => show Calls Tryz.prog 16 #[.agg #[.int .i64 (F 0 i), .int .i64 (F 1 i), .int .i64 (F 2 i), .int .i64 (F 3 i), .int .i64 (F 4 i), .int .i64 (F 5 i)], .agg #[.int .i64 (F 0 1), .int .i64 (F 1 1), .int .i64 (F 2 1), .int .i64 (F 3 1), .int .i64 (F 4 1), .int .i64 (F 5 1)]] W fun e w' => e = .returned (.tuple #[.agg #[.int .i64 (F 0 (i + 1)), .int .i64 (F 1 (i + 1)), .int .i64 (F 2 (i + 1)), .int .i64 (F 3 (i + 1)), .int .i64 (F 4 (i + 1)), .int .i64 (F 5 (i + 1))], .int .i64 0]) ∧ Below W.heap.size W w' by rw [hF]; exact ad i hi W)
  have EN := Lib.hid (show F 0 m = FracMath.qn a0 d ∧ F 1 m = FracMath.qd a0 d ∧ F 2 m = FracMath.qn b0 d ∧ F 3 m = FracMath.qd b0 d ∧ F 4 m = FracMath.qn c0 d ∧ F 5 m = FracMath.qd c0 d by rw [hF]; exact ⟨(en a0).1, (en a0).2, (en b0).1, (en b0).2, (en c0).1, (en c0).2⟩)
  clear sc ad en hF o1 okI hq hq0 hq1 ok0 ok1
  generalize Iv.sg (Iv.lg a0 b0 c0 * d' - Iv.lg a1 b1 c1 * d) = s at *
  generalize Iv.cn (Iv.lg a0 b0 c0) d = k0 at *
  generalize Iv.cn (Iv.lg a1 b1 c1) d' = k1 at *
  generalize FracMath.qn a0 d = p0 at *
  generalize FracMath.qd a0 d = p1 at *
  generalize FracMath.qn b0 d = p2 at *
  generalize FracMath.qd b0 d = p3 at *
  generalize FracMath.qn c0 d = p4 at *
  generalize FracMath.qd c0 d = p5 at *
  generalize FracMath.qn a1 d' = t0 at *
  generalize FracMath.qd a1 d' = t1 at *
  generalize FracMath.qn b1 d' = t2 at *
  generalize FracMath.qd b1 d' = t3 at *
  generalize FracMath.qn c1 d' = t4 at *
  generalize FracMath.qd c1 d' = t5 at *
  obtain ⟨r, hr⟩ : ∃ r, n.tmod 12 = r := ⟨_, rfl⟩
  have hr2 : 0 ≤ r ∧ r < 12 ∧ (m : Int) = 1 + r := by rw [← hr, Int.tmod_eq_emod_of_nonneg hn.1]; omega
  obtain ⟨r0, r1, r2⟩ := hr2
  have e1 : 1 + r = (m : Int) := r2.symm
  have hmi : 1 ≤ (m : Int) ∧ (m : Int) ≤ 12 := by omega
  clear r2 hd hd' hm d1 d2 d3 d4 ha0 hb0 hc0 ha1 hb1 hc1 hu0 hu1 hn
  have hep := eq_size p0 p1 p2 p3 p4 p5
  obtain ⟨D, hD⟩ : ∃ D, w.heap.size = D := ⟨_, rfl⟩
  go_enter Tryz.func11, Tryz.ntmps11
  have G1 : Gi ((w.alloc (.cells #[.int .i8 a0, .int .i8 b0, .int .i8 c0, .int .u8 u0] 67)).alloc (.cells #[.int .i8 a1, .int .i8 b1, .int .i8 c1, .int .u8 u1] 67)) := G.below (by rw [hD]; exact (((Below.refl _ w).alloc (by first | omega | (simp; omega)) (.cells #[.int .i8 a0, .int .i8 b0, .int .i8 c0, .int .u8 u0] 67)).alloc (by first | omega | (simp; omega)) (.cells #[.int .i8 a1, .int .i8 b1, .int .i8 c1, .int .u8 u1] 67)))
  have N1 : Nm ((w.alloc (.cells #[.int .i8 a0, .int .i8 b0, .int .i8 c0, .int .u8 u0] 67)).alloc (.cells #[.int .i8 a1, .int .i8 b1, .int .i8 c1, .int .u8 u1] 67)) := N.below (by rw [hD]; exact (((Below.refl _ w).alloc (by first | omega | (simp; omega)) (.cells #[.int .i8 a0, .int .i8 b0, .int .i8 c0, .int .u8 u0] 67)).alloc (by first | omega | (simp; omega)) (.cells #[.int .i8 a1, .int .i8 b1, .int .i8 c1, .int .u8 u1] 67)))
  go_wp2_with fail
  refine (KN.out _ G1 N1).mono ?_
  rintro e v1 ⟨rfl, hb_v1⟩
  have cP_v1 : v1.heap[D]? = some (.cells #[.int .i8 a0, .int .i8 b0, .int .i8 c0, .int .u8 u0] 67) := (hb_v1.block (D) (Array.getElem?_eq_some_iff.1 (show ((w.alloc (.cells #[.int .i8 a0, .int .i8 b0, .int .i8 c0, .int .u8 u0] 67)).alloc (.cells #[.int .i8 a1, .int .i8 b1, .int .i8 c1, .int .u8 u1] 67)).heap[D]? = some (.cells #[.int .i8 a0, .int .i8 b0, .int .i8 c0, .int .u8 u0] 67) from (heap_old (o := .cells #[.int .i8 a1, .int .i8 b1, .int .i8 c1, .int .u8 u1] 67) (heap_new (by first | omega | (simp; omega)))))).1).trans (heap_old (o := .cells #[.int .i8 a1, .int .i8 b1, .int .i8 c1, .int .u8 u1] 67) (heap_new (by first | omega | (simp; omega))))
  have cQ_v1 : v1.heap[D + 1]? = some (.cells #[.int .i8 a1, .int .i8 b1, .int .i8 c1, .int .u8 u1] 67) := (hb_v1.block (D + 1) (Array.getElem?_eq_some_iff.1 (show ((w.alloc (.cells #[.int .i8 a0, .int .i8 b0, .int .i8 c0, .int .u8 u0] 67)).alloc (.cells #[.int .i8 a1, .int .i8 b1, .int .i8 c1, .int .u8 u1] 67)).heap[D + 1]? = some (.cells #[.int .i8 a1, .int .i8 b1, .int .i8 c1, .int .u8 u1] 67) from (heap_new (by first | omega | (simp; omega))))).1).trans (heap_new (by first | omega | (simp; omega)))
  have hw_v1 : Below D w v1 := ((((Below.refl _ w).alloc (by first | omega | (simp; omega)) (.cells #[.int .i8 a0, .int .i8 b0, .int .i8 c0, .int .u8 u0] 67)).alloc (by first | omega | (simp; omega)) (.cells #[.int .i8 a1, .int .i8 b1, .int .i8 c1, .int .u8 u1] 67))).trans (hb_v1.mono (by first | omega | (simp; omega)))
  clear hb_v1
  have ld2 : v1.heap[D]? = some (.cells #[.int .i8 a0, .int .i8 b0, .int .i8 c0, .int .u8 u0] 67) := cP_v1
  have y2_0 := cell4_0 ld2
  have y2_1 := cell4_1 ld2
  have y2_2 := cell4_2 ld2
  have y2_3 := cell4_3 ld2
  clear ld2
  go_wp2_with fail
  refine (MP.out _).mono ?_
  rintro e v3 ⟨rfl, hb_v3⟩
  have hs_v3 := hw_v1.size
  have cP_v3 : v3.heap[D]? = some (.cells #[.int .i8 a0, .int .i8 b0, .int .i8 c0, .int .u8 u0] 67) := (hb_v3.block (D) (Array.getElem?_eq_some_iff.1 (show v1.heap[D]? = some (.cells #[.int .i8 a0, .int .i8 b0, .int .i8 c0, .int .u8 u0] 67) from cP_v1)).1).trans cP_v1
  have cQ_v3 : v3.heap[D + 1]? = some (.cells #[.int .i8 a1, .int .i8 b1, .int .i8 c1, .int .u8 u1] 67) := (hb_v3.block (D + 1) (Array.getElem?_eq_some_iff.1 (show v1.heap[D + 1]? = some (.cells #[.int .i8 a1, .int .i8 b1, .int .i8 c1, .int .u8 u1] 67) from cQ_v1)).1).trans cQ_v1
  have hw_v3 : Below D w v3 := (hw_v1).trans (hb_v3.mono (by first | omega | (simp; omega)))
  clear cP_v1 cQ_v1 hb_v3 y2_0 y2_1 y2_2 y2_3 hw_v1 hs_v3
  obtain ⟨EA, hEA⟩ : ∃ E, v3.heap.size = E := ⟨_, rfl⟩
  have ld4 : (v3.alloc (.cells #[.int .i64 p0, .int .i64 p1, .int .i64 p2, .int .i64 p3, .int .i64 p4, .int .i64 p5] 25)).heap[EA]? = some (.cells #[.int .i64 p0, .int .i64 p1, .int .i64 p2, .int .i64 p3, .int .i64 p4, .int .i64 p5] 25) := (heap_new (by first | omega | (simp; omega)))
  have y4_0 := cell6_0 ld4
  have y4_1 := cell6_1 ld4
  have y4_2 := cell6_2 ld4
  have y4_3 := cell6_3 ld4
  have y4_4 := cell6_4 ld4
  have y4_5 := cell6_5 ld4
  clear ld4
  go_wp2_with fail
  refine (SC.out _).mono ?_
  rintro e v5 ⟨rfl, hb_v5⟩
  have hs_v5 := hw_v3.size
  have cP_v5 : v5.heap[D]? = some (.cells #[.int .i8 a0, .int .i8 b0, .int .i8 c0, .int .u8 u0] 67) := (hb_v5.block (D) (Array.getElem?_eq_some_iff.1 (show (v3.alloc (.cells #[.int .i64 p0, .int .i64 p1, .int .i64 p2, .int .i64 p3, .int .i64 p4, .int .i64 p5] 25)).heap[D]? = some (.cells #[.int .i8 a0, .int .i8 b0, .int .i8 c0, .int .u8 u0] 67) from (heap_old (o := .cells #[.int .i64 p0, .int .i64 p1, .int .i64 p2, .int .i64 p3, .int .i64 p4, .int .i64 p5] 25) cP_v3))).1).trans (heap_old (o := .cells #[.int .i64 p0, .int .i64 p1, .int .i64 p2, .int .i64 p3, .int .i64 p4, .int .i64 p5] 25) cP_v3)
  have cQ_v5 : v5.heap[D + 1]? = some (.cells #[.int .i8 a1, .int .i8 b1, .int .i8 c1, .int .u8 u1] 67) := (hb_v5.block (D + 1) (Array.getElem?_eq_some_iff.1 (show (v3.alloc (.cells #[.int .i64 p0, .int .i64 p1, .int .i64 p2, .int .i64 p3, .int .i64 p4, .int .i64 p5] 25)).heap[D + 1]? = some (.cells #[.int .i8 a1, .int .i8 b1, .int .i8 c1, .int .u8 u1] 67) from (heap_old (o := .cells #[.int .i64 p0, .int .i64 p1, .int .i64 p2, .int .i64 p3, .int .i64 p4, .int .i64 p5] 25) cQ_v3))).1).trans (heap_old (o := .cells #[.int .i64 p0, .int .i64 p1, .int .i64 p2, .int .i64 p3, .int .i64 p4, .int .i64 p5] 25) cQ_v3)
  have cA_v5 : v5.heap[EA]? = some (.cells #[.int .i64 p0, .int .i64 p1, .int .i64 p2, .int .i64 p3, .int .i64 p4, .int .i64 p5] 25) := (hb_v5.block (EA) (Array.getElem?_eq_some_iff.1 (show (v3.alloc (.cells #[.int .i64 p0, .int .i64 p1, .int .i64 p2, .int .i64 p3, .int .i64 p4, .int .i64 p5] 25)).heap[EA]? = some (.cells #[.int .i64 p0, .int .i64 p1, .int .i64 p2, .int .i64 p3, .int .i64 p4, .int .i64 p5] 25) from (heap_new (by first | omega | (simp; omega))))).1).trans (heap_new (by first | omega | (simp; omega)))
  have hw_v5 : Below D w v5 := ((hw_v3.alloc (by have := hw_v3.size; first | omega | (simp; omega)) (.cells #[.int .i64 p0, .int .i64 p1, .int .i64 p2, .int .i64 p3, .int .i64 p4, .int .i64 p5] 25))).trans (hb_v5.mono (by first | omega | (simp; omega)))
  clear cP_v3 cQ_v3 hb_v5 y4_0 y4_1 y4_2 y4_3 y4_4 y4_5 hw_v3 hs_v5
  obtain ⟨ER, hER⟩ : ∃ E, v5.heap.size = E := ⟨_, rfl⟩
  have ld6 : (v5.alloc (.cells #[.int .i64 (F 0 1), .int .i64 (F 1 1), .int .i64 (F 2 1), .int .i64 (F 3 1), .int .i64 (F 4 1), .int .i64 (F 5 1)] 25)).heap[ER]? = some (.cells #[.int .i64 (F 0 1), .int .i64 (F 1 1), .int .i64 (F 2 1), .int .i64 (F 3 1), .int .i64 (F 4 1), .int .i64 (F 5 1)] 25) := (heap_new (by first | omega | (simp; omega)))
  have y6_0 := cell6_0 ld6
  have y6_1 := cell6_1 ld6
  have y6_2 := cell6_2 ld6
  have y6_3 := cell6_3 ld6
  have y6_4 := cell6_4 ld6
  have y6_5 := cell6_5 ld6
  clear ld6
  go_wp2_with fail
  obtain ⟨V, hV⟩ : ∃ V, ((v5.alloc (.cells #[.int .i64 (F 0 1), .int .i64 (F 1 1), .int .i64 (F 2 1), .int .i64 (F 3 1), .int .i64 (F 4 1), .int .i64 (F 5 1)] 25)).alloc (.cells #[.int .i64 (F 0 1), .int .i64 (F 1 1), .int .i64 (F 2 1), .int .i64 (F 3 1), .int .i64 (F 4 1), .int .i64 (F 5 1)] 25)) = V := ⟨_, rfl⟩
  have hwV : Below D w V := by rw [← hV]; exact ((hw_v5.alloc (by have := hw_v5.size; first | omega | (simp; omega)) (.cells #[.int .i64 (F 0 1), .int .i64 (F 1 1), .int .i64 (F 2 1), .int .i64 (F 3 1), .int .i64 (F 4 1), .int .i64 (F 5 1)] 25)).alloc (by have := hw_v5.size; first | omega | (simp; omega)) (.cells #[.int .i64 (F 0 1), .int .i64 (F 1 1), .int .i64 (F 2 1), .int .i64 (F 3 1), .int .i64 (F 4 1), .int .i64 (F 5 1)] 25))
  have hQV : V.heap[D + 1]? = some (.cells #[.int .i8 a1, .int .i8 b1, .int .i8 c1, .int .u8 u1] 67) := by rw [← hV]; exact (heap_old (o := .cells #[.int .i64 (F 0 1), .int .i64 (F 1 1), .int .i64 (F 2 1), .int .i64 (F 3 1), .int .i64 (F 4 1), .int .i64 (F 5 1)] 25) (heap_old (o := .cells #[.int .i64 (F 0 1), .int .i64 (F 1 1), .int .i64 (F 2 1), .int .i64 (F 3 1), .int .i64 (F 4 1), .int .i64 (F 5 1)] 25) cQ_v5))
  have hAV : V.heap[EA]? = some (.cells #[.int .i64 p0, .int .i64 p1, .int .i64 p2, .int .i64 p3, .int .i64 p4, .int .i64 p5] 25) := by rw [← hV]; exact (heap_old (o := .cells #[.int .i64 (F 0 1), .int .i64 (F 1 1), .int .i64 (F 2 1), .int .i64 (F 3 1), .int .i64 (F 4 1), .int .i64 (F 5 1)] 25) (heap_old (o := .cells #[.int .i64 (F 0 1), .int .i64 (F 1 1), .int .i64 (F 2 1), .int .i64 (F 3 1), .int .i64 (F 4 1), .int .i64 (F 5 1)] 25) cA_v5))
  have hRV : V.heap[ER]? = some (.cells #[.int .i64 (F 0 1), .int .i64 (F 1 1), .int .i64 (F 2 1), .int .i64 (F 3 1), .int .i64 (F 4 1), .int .i64 (F 5 1)] 25) := by rw [← hV]; exact (heap_old (o := .cells #[.int .i64 (F 0 1), .int .i64 (F 1 1), .int .i64 (F 2 1), .int .i64 (F 3 1), .int .i64 (F 4 1), .int .i64 (F 5 1)] 25) (heap_new (by first | omega | (simp; omega))))
  have hSV : V.heap[ER + 1]? = some (.cells #[.int .i64 (F 0 1), .int .i64 (F 1 1), .int .i64 (F 2 1), .int .i64 (F 3 1), .int .i64 (F 4 1), .int .i64 (F 5 1)] 25) := by rw [← hV]; exact (heap_new (by first | omega | (simp; omega)))
  have nQ : D + 1 < ER := by rw [← hER]; exact (Array.getElem?_eq_some_iff.1 cQ_v5).1
  have nA : EA < ER := by rw [← hER]; exact (Array.getElem?_eq_some_iff.1 cA_v5).1
  rw [hV]
  clear hV cP_v5 cQ_v5 cA_v5 y6_0 y6_1 y6_2 y6_3 y6_4 y6_5 hw_v5
  go_loopw [12] (fun i wr => ∃ k : Nat, 1 ≤ k ∧ k ≤ m ∧ i = .int .i64 (k : Int) ∧ wr.heap[ER + 1]? = some (.cells #[.int .i64 (F 0 k), .int .i64 (F 1 k), .int .i64 (F 2 k), .int .i64 (F 3 k), .int .i64 (F 4 k), .int .i64 (F 5 k)] 25) ∧ Below D w wr ∧ wr.heap[D + 1]? = some (.cells #[.int .i8 a1, .int .i8 b1, .int .i8 c1, .int .u8 u1] 67) ∧ wr.heap[EA]? = some (.cells #[.int .i64 p0, .int .i64 p1, .int .i64 p2, .int .i64 p3, .int .i64 p4, .int .i64 p5] 25) ∧ wr.heap[ER]? = some (.cells #[.int .i64 (F 0 1), .int .i64 (F 1 1), .int .i64 (F 2 1), .int .i64 (F 3 1), .int .i64 (F 4 1), .int .i64 (F 5 1)] 25)) (fun i _ => 13 - (intOf i).toNat)
  case atStart => exact ⟨1, by omega, by omega, rfl, hSV, hwV, hQV, hAV, hRV⟩
  case round =>
    clear hwV hQV hAV hRV hSV
    obtain ⟨k, k1_, k2_, rfl, hs, hw, hq, ha, hr_⟩ := hrel
    by_cases hkm : k < m
    · have hki : (k : Int) < (m : Int) := by omega
      have yS0 := cell6_0 hs
      have yS1 := cell6_1 hs
      have yS2 := cell6_2 hs
      have yS3 := cell6_3 hs
      have yS4 := cell6_4 hs
      have yS5 := cell6_5 hs
      have yR0 := cell6_0 hr_
      have yR1 := cell6_1 hr_
      have yR2 := cell6_2 hr_
      have yR3 := cell6_3 hr_
      have yR4 := cell6_4 hr_
      have yR5 := cell6_5 hr_
      have AK := Lib.hid (AD.out k (by omega))
      go_wp2_with fail
      refine (AK.out _).mono ?_
      rintro e w4 ⟨rfl, hb4⟩
      have hs4 := (hb4.block (ER + 1) (Array.getElem?_eq_some_iff.1 hs).1).trans hs
      have hr_4 := (hb4.block (ER) (Array.getElem?_eq_some_iff.1 hr_).1).trans hr_
      have hq4 := (hb4.block (D + 1) (Array.getElem?_eq_some_iff.1 hq).1).trans hq
      have ha4 := (hb4.block (EA) (Array.getElem?_eq_some_iff.1 ha).1).trans ha
      have hw4 := hw.trans (hb4.mono (by have := hw.size; omega))
      clear yS0 yR0 yS1 yR1 yS2 yR2 yS3 yR3 yS4 yR4 yS5 yR5 hs hr_ hq ha hw hb4
      have cc0 := cell6_0 hs4
      have ff0 := free6_0 hs4
      have cc1 := cell6_1 hs4
      have ff1 := free6_1 hs4
      have cc2 := cell6_2 hs4
      have ff2 := free6_2 hs4
      have cc3 := cell6_3 hs4
      have ff3 := free6_3 hs4
      have cc4 := cell6_4 hs4
      have ff4 := free6_4 hs4
      have cc5 := cell6_5 hs4
      have ff5 := free6_5 hs4
      have hDR : D ≤ ER := by omega
      obtain ⟨U, hU⟩ : ∃ U, ((((((w4.setCell ⟨ER + 1, 0, none⟩ (.int .i64 (F 0 (k + 1)))).setCell ⟨ER + 1, 1, none⟩ (.int .i64 (F 1 (k + 1)))).setCell ⟨ER + 1, 2, none⟩ (.int .i64 (F 2 (k + 1)))).setCell ⟨ER + 1, 3, none⟩ (.int .i64 (F 3 (k + 1)))).setCell ⟨ER + 1, 4, none⟩ (.int .i64 (F 4 (k + 1)))).setCell ⟨ER + 1, 5, none⟩ (.int .i64 (F 5 (k + 1)))) = U := ⟨_, rfl⟩
      have HW := Lib.hid (show Below D w U by rw [← hU]; exact ((((((hw4.setCell (p := ⟨ER + 1, 0, none⟩) (show D ≤ ER + 1 by omega) (.int .i64 (F 0 (k + 1)))).setCell (p := ⟨ER + 1, 1, none⟩) (show D ≤ ER + 1 by omega) (.int .i64 (F 1 (k + 1)))).setCell (p := ⟨ER + 1, 2, none⟩) (show D ≤ ER + 1 by omega) (.int .i64 (F 2 (k + 1)))).setCell (p := ⟨ER + 1, 3, none⟩) (show D ≤ ER + 1 by omega) (.int .i64 (F 3 (k + 1)))).setCell (p := ⟨ER + 1, 4, none⟩) (show D ≤ ER + 1 by omega) (.int .i64 (F 4 (k + 1)))).setCell (p := ⟨ER + 1, 5, none⟩) (show D ≤ ER + 1 by omega) (.int .i64 (F 5 (k + 1)))))
      have HS := Lib.hid (show U.heap[ER + 1]? = some (.cells #[.int .i64 (F 0 (k + 1)), .int .i64 (F 1 (k + 1)), .int .i64 (F 2 (k + 1)), .int .i64 (F 3 (k + 1)), .int .i64 (F 4 (k + 1)), .int .i64 (F 5 (k + 1))] 25) by rw [← hU]; exact (set6_5 (x := .int .i64 (F 5 (k + 1))) (set6_4 (x := .int .i64 (F 4 (k + 1))) (set6_3 (x := .int .i64 (F 3 (k + 1))) (set6_2 (x := .int .i64 (F 2 (k + 1))) (set6_1 (x := .int .i64 (F 1 (k + 1))) (set6_0 (x := .int .i64 (F 0 (k + 1))) hs4)))))))
      have HQ := Lib.hid (show U.heap[D + 1]? = some (.cells #[.int .i8 a1, .int .i8 b1, .int .i8 c1, .int .u8 u1] 67) by rw [← hU]; exact ((set_other (b := ER + 1) (o := 5) (x := .int .i64 (F 5 (k + 1))) (show D + 1 ≠ ER + 1 by omega)).trans ((set_other (b := ER + 1) (o := 4) (x := .int .i64 (F 4 (k + 1))) (show D + 1 ≠ ER + 1 by omega)).trans ((set_other (b := ER + 1) (o := 3) (x := .int .i64 (F 3 (k + 1))) (show D + 1 ≠ ER + 1 by omega)).trans ((set_other (b := ER + 1) (o := 2) (x := .int .i64 (F 2 (k + 1))) (show D + 1 ≠ ER + 1 by omega)).trans ((set_other (b := ER + 1) (o := 1) (x := .int .i64 (F 1 (k + 1))) (show D + 1 ≠ ER + 1 by omega)).trans ((set_other (b := ER + 1) (o := 0) (x := .int .i64 (F 0 (k + 1))) (show D + 1 ≠ ER + 1 by omega)).trans hq4)))))))
      have HA := Lib.hid (show U.heap[EA]? = some (.cells #[.int .i64 p0, .int .i64 p1, .int .i64 p2, .int .i64 p3, .int .i64 p4, .int .i64 p5] 25) by rw [← hU]; exact ((set_other (b := ER + 1) (o := 5) (x := .int .i64 (F 5 (k + 1))) (show EA ≠ ER + 1 by omega)).trans ((set_other (b := ER + 1) (o := 4) (x := .int .i64 (F 4 (k + 1))) (show EA ≠ ER + 1 by omega)).trans ((set_other (b := ER + 1) (o := 3) (x := .int .i64 (F 3 (k + 1))) (show EA ≠ ER + 1 by omega)).trans ((set_other (b := ER + 1) (o := 2) (x := .int .i64 (F 2 (k + 1))) (show EA ≠ ER + 1 by omega)).trans ((set_other (b := ER + 1) (o := 1) (x := .int .i64 (F 1 (k + 1))) (show EA ≠ ER + 1 by omega)).trans ((set_other (b := ER + 1) (o := 0) (x := .int .i64 (F 0 (k + 1))) (show EA ≠ ER + 1 by omega)).trans ha4)))))))
      have HR := Lib.hid (show U.heap[ER]? = some (.cells #[.int .i64 (F 0 1), .int .i64 (F 1 1), .int .i64 (F 2 1), .int .i64 (F 3 1), .int .i64 (F 4 1), .int .i64 (F 5 1)] 25) by rw [← hU]; exact ((set_other (b := ER + 1) (o := 5) (x := .int .i64 (F 5 (k + 1))) (show ER ≠ ER + 1 by omega)).trans ((set_other (b := ER + 1) (o := 4) (x := .int .i64 (F 4 (k + 1))) (show ER ≠ ER + 1 by omega)).trans ((set_other (b := ER + 1) (o := 3) (x := .int .i64 (F 3 (k + 1))) (show ER ≠ ER + 1 by omega)).trans ((set_other (b := ER + 1) (o := 2) (x := .int .i64 (F 2 (k + 1))) (show ER ≠ ER + 1 by omega)).trans ((set_other (b := ER + 1) (o := 1) (x := .int .i64 (F 1 (k + 1))) (show ER ≠ ER + 1 by omega)).trans ((set_other (b := ER + 1) (o := 0) (x := .int .i64 (F 0 (k + 1))) (show ER ≠ ER + 1 by omega)).trans hr_4)))))))
      have HU := Lib.hid hU
      clear hU hs4 hq4 ha4 hr_4 hw4
      go_wp2
      rw [HU.out]
      exact ⟨⟨k + 1, by omega, by omega, by go_num, HS.out, HW.out, HQ.out, HA.out, HR.out⟩, by simp [intOf]; omega⟩
    · have hki : ¬ ((k : Int) < (m : Int)) := by omega
      obtain rfl : k = m := by omega
      obtain ⟨g0, g1, g2, g3, g4, g5⟩ := EN.out
      have hs2 : wr.heap[ER + 1]? = some (.cells #[.int .i64 p0, .int .i64 p1, .int .i64 p2, .int .i64 p3, .int .i64 p4, .int .i64 p5] 25) := by rw [hs, g0, g1, g2, g3, g4, g5]
      clear g0 g1 g2 g3 g4 g5 hs EN AD SC
      have ld51 : wr.heap[D + 1]? = some (.cells #[.int .i8 a1, .int .i8 b1, .int .i8 c1, .int .u8 u1] 67) := hq
      have y51_0 := cell4_0 ld51
      have y51_1 := cell4_1 ld51
      have y51_2 := cell4_2 ld51
      have y51_3 := cell4_3 ld51
      clear ld51
      go_wp2_with fail
      refine (MQ.out _).mono ?_
      rintro e v52 ⟨rfl, hb_v52⟩
      have hs_v52 := hw.size
      have cQ_v52 : v52.heap[D + 1]? = some (.cells #[.int .i8 a1, .int .i8 b1, .int .i8 c1, .int .u8 u1] 67) := (hb_v52.block (D + 1) (Array.getElem?_eq_some_iff.1 (show wr.heap[D + 1]? = some (.cells #[.int .i8 a1, .int .i8 b1, .int .i8 c1, .int .u8 u1] 67) from hq)).1).trans hq
      have cA_v52 : v52.heap[EA]? = some (.cells #[.int .i64 p0, .int .i64 p1, .int .i64 p2, .int .i64 p3, .int .i64 p4, .int .i64 p5] 25) := (hb_v52.block (EA) (Array.getElem?_eq_some_iff.1 (show wr.heap[EA]? = some (.cells #[.int .i64 p0, .int .i64 p1, .int .i64 p2, .int .i64 p3, .int .i64 p4, .int .i64 p5] 25) from ha)).1).trans ha
      have cS_v52 : v52.heap[ER + 1]? = some (.cells #[.int .i64 p0, .int .i64 p1, .int .i64 p2, .int .i64 p3, .int .i64 p4, .int .i64 p5] 25) := (hb_v52.block (ER + 1) (Array.getElem?_eq_some_iff.1 (show wr.heap[ER + 1]? = some (.cells #[.int .i64 p0, .int .i64 p1, .int .i64 p2, .int .i64 p3, .int .i64 p4, .int .i64 p5] 25) from hs2)).1).trans hs2
      have hw_v52 : Below D w v52 := (hw).trans (hb_v52.mono (by first | omega | (simp; omega)))
      clear hq ha hs2 hb_v52 y51_0 y51_1 y51_2 y51_3 hw hs_v52
      obtain ⟨EB, hEB⟩ : ∃ E, v52.heap.size = E := ⟨_, rfl⟩
      have G2 : Gi (v52.alloc (.cells #[.int .i64 t0, .int .i64 t1, .int .i64 t2, .int .i64 t3, .int .i64 t4, .int .i64 t5] 25)) := G.below (by rw [hD]; exact (hw_v52.alloc (by have := hw_v52.size; first | omega | (simp; omega)) (.cells #[.int .i64 t0, .int .i64 t1, .int .i64 t2, .int .i64 t3, .int .i64 t4, .int .i64 t5] 25)))
      have ld53 : (v52.alloc (.cells #[.int .i64 t0, .int .i64 t1, .int .i64 t2, .int .i64 t3, .int .i64 t4, .int .i64 t5] 25)).heap[EA]? = some (.cells #[.int .i64 p0, .int .i64 p1, .int .i64 p2, .int .i64 p3, .int .i64 p4, .int .i64 p5] 25) := (heap_old (o := .cells #[.int .i64 t0, .int .i64 t1, .int .i64 t2, .int .i64 t3, .int .i64 t4, .int .i64 t5] 25) cA_v52)
      have y53_0 := cell6_0 ld53
      have y53_1 := cell6_1 ld53
      have y53_2 := cell6_2 ld53
      have y53_3 := cell6_3 ld53
      have y53_4 := cell6_4 ld53
      have y53_5 := cell6_5 ld53
      clear ld53
      have ld54 : (v52.alloc (.cells #[.int .i64 t0, .int .i64 t1, .int .i64 t2, .int .i64 t3, .int .i64 t4, .int .i64 t5] 25)).heap[EB]? = some (.cells #[.int .i64 t0, .int .i64 t1, .int .i64 t2, .int .i64 t3, .int .i64 t4, .int .i64 t5] 25) := (heap_new (by first | omega | (simp; omega)))
      have y54_0 := cell6_0 ld54
      have y54_1 := cell6_1 ld54
      have y54_2 := cell6_2 ld54
      have y54_3 := cell6_3 ld54
      have y54_4 := cell6_4 ld54
      have y54_5 := cell6_5 ld54
      clear ld54
      go_wp2_with fail
      refine (CM.out _ G2).mono ?_
      rintro e v55 ⟨rfl, hb_v55⟩
      have hs_v55 := hw_v52.size
      have cQ_v55 : v55.heap[D + 1]? = some (.cells #[.int .i8 a1, .int .i8 b1, .int .i8 c1, .int .u8 u1] 67) := (hb_v55.block (D + 1) (Array.getElem?_eq_some_iff.1 (show (v52.alloc (.cells #[.int .i64 t0, .int .i64 t1, .int .i64 t2, .int .i64 t3, .int .i64 t4, .int .i64 t5] 25)).heap[D + 1]? = some (.cells #[.int .i8 a1, .int .i8 b1, .int .i8 c1, .int .u8 u1] 67) from (heap_old (o := .cells #[.int .i64 t0, .int .i64 t1, .int .i64 t2, .int .i64 t3, .int .i64 t4, .int .i64 t5] 25) cQ_v52))).1).trans (heap_old (o := .cells #[.int .i64 t0, .int .i64 t1, .int .i64 t2, .int .i64 t3, .int .i64 t4, .int .i64 t5] 25) cQ_v52)
      have cA_v55 : v55.heap[EA]? = some (.cells #[.int .i64 p0, .int .i64 p1, .int .i64 p2, .int .i64 p3, .int .i64 p4, .int .i64 p5] 25) := (hb_v55.block (EA) (Array.getElem?_eq_some_iff.1 (show (v52.alloc (.cells #[.int .i64 t0, .int .i64 t1, .int .i64 t2, .int .i64 t3, .int .i64 t4, .int .i64 t5] 25)).heap[EA]? = some (.cells #[.int .i64 p0, .int .i64 p1, .int .i64 p2, .int .i64 p3, .int .i64 p4, .int .i64 p5] 25) from (heap_old (o := .cells #[.int .i64 t0, .int .i64 t1, .int .i64 t2, .int .i64 t3, .int .i64 t4, .int .i64 t5] 25) cA_v52))).1).trans (heap_old (o := .cells #[.int .i64 t0, .int .i64 t1, .int .i64 t2, .int .i64 t3, .int .i64 t4, .int .i64 t5] 25) cA_v52)
      have cS_v55 : v55.heap[ER + 1]? = some (.cells #[.int .i64 p0, .int .i64 p1, .int .i64 p2, .int .i64 p3, .int .i64 p4, .int .i64 p5] 25) := (hb_v55.block (ER + 1) (Array.getElem?_eq_some_iff.1 (show (v52.alloc (.cells #[.int .i64 t0, .int .i64 t1, .int .i64 t2, .int .i64 t3, .int .i64 t4, .int .i64 t5] 25)).heap[ER + 1]? = some (.cells #[.int .i64 p0, .int .i64 p1, .int .i64 p2, .int .i64 p3, .int .i64 p4, .int .i64 p5] 25) from (heap_old (o := .cells #[.int .i64 t0, .int .i64 t1, .int .i64 t2, .int .i64 t3, .int .i64 t4, .int .i64 t5] 25) cS_v52))).1).trans (heap_old (o := .cells #[.int .i64 t0, .int .i64 t1, .int .i64 t2, .int .i64 t3, .int .i64 t4, .int .i64 t5] 25) cS_v52)
      have cB_v55 : v55.heap[EB]? = some (.cells #[.int .i64 t0, .int .i64 t1, .int .i64 t2, .int .i64 t3, .int .i64 t4, .int .i64 t5] 25) := (hb_v55.block (EB) (Array.getElem?_eq_some_iff.1 (show (v52.alloc (.cells #[.int .i64 t0, .int .i64 t1, .int .i64 t2, .int .i64 t3, .int .i64 t4, .int .i64 t5] 25)).heap[EB]? = some (.cells #[.int .i64 t0, .int .i64 t1, .int .i64 t2, .int .i64 t3, .int .i64 t4, .int .i64 t5] 25) from (heap_new (by first | omega | (simp; omega))))).1).trans (heap_new (by first | omega | (simp; omega)))
      have hw_v55 : Below D w v55 := ((hw_v52.alloc (by have := hw_v52.size; first | omega | (simp; omega)) (.cells #[.int .i64 t0, .int .i64 t1, .int .i64 t2, .int .i64 t3, .int .i64 t4, .int .i64 t5] 25))).trans (hb_v55.mono (by first | omega | (simp; omega)))
      clear cQ_v52 cA_v52 cS_v52 hb_v55 y53_0 y53_1 y53_2 y53_3 y53_4 y53_5 y54_0 y54_1 y54_2 y54_3 y54_4 y54_5 hw_v52 hs_v55
      have G3 : Gi v55 := G.below (by rw [hD]; exact hw_v55)
      have ld56 : v55.heap[EA]? = some (.cells #[.int .i64 p0, .int .i64 p1, .int .i64 p2, .int .i64 p3, .int .i64 p4, .int .i64 p5] 25) := cA_v55
      have y56_0 := cell6_0 ld56
      have y56_1 := cell6_1 ld56
      have y56_2 := cell6_2 ld56
      have y56_3 := cell6_3 ld56
      have y56_4 := cell6_4 ld56
      have y56_5 := cell6_5 ld56
      clear ld56
      go_wp2_with fail
      refine (C0.out _ G3).mono ?_
      rintro e v57 ⟨rfl, hb_v57⟩
      have hs_v57 := hw_v55.size
      have cQ_v57 : v57.heap[D + 1]? = some (.cells #[.int .i8 a1, .int .i8 b1, .int .i8 c1, .int .u8 u1] 67) := (hb_v57.block (D + 1) (Array.getElem?_eq_some_iff.1 (show v55.heap[D + 1]? = some (.cells #[.int .i8 a1, .int .i8 b1, .int .i8 c1, .int .u8 u1] 67) from cQ_v55)).1).trans cQ_v55
      have cA_v57 : v57.heap[EA]? = some (.cells #[.int .i64 p0, .int .i64 p1, .int .i64 p2, .int .i64 p3, .int .i64 p4, .int .i64 p5] 25) := (hb_v57.block (EA) (Array.getElem?_eq_some_iff.1 (show v55.heap[EA]? = some (.cells #[.int .i64 p0, .int .i64 p1, .int .i64 p2, .int .i64 p3, .int .i64 p4, .int .i64 p5] 25) from cA_v55)).1).trans cA_v55
      have cS_v57 : v57.heap[ER + 1]? = some (.cells #[.int .i64 p0, .int .i64 p1, .int .i64 p2, .int .i64 p3, .int .i64 p4, .int .i64 p5] 25) := (hb_v57.block (ER + 1) (Array.getElem?_eq_some_iff.1 (show v55.heap[ER + 1]? = some (.cells #[.int .i64 p0, .int .i64 p1, .int .i64 p2, .int .i64 p3, .int .i64 p4, .int .i64 p5] 25) from cS_v55)).1).trans cS_v55
      have cB_v57 : v57.heap[EB]? = some (.cells #[.int .i64 t0, .int .i64 t1, .int .i64 t2, .int .i64 t3, .int .i64 t4, .int .i64 t5] 25) := (hb_v57.block (EB) (Array.getElem?_eq_some_iff.1 (show v55.heap[EB]? = some (.cells #[.int .i64 t0, .int .i64 t1, .int .i64 t2, .int .i64 t3, .int .i64 t4, .int .i64 t5] 25) from cB_v55)).1).trans cB_v55
      have hw_v57 : Below D w v57 := (hw_v55).trans (hb_v57.mono (by first | omega | (simp; omega)))
      clear cQ_v55 cA_v55 cS_v55 cB_v55 hb_v57 y56_0 y56_1 y56_2 y56_3 y56_4 y56_5 hw_v55 hs_v57
      have G4 : Gi v57 := G.below (by rw [hD]; exact hw_v57)
      have ld58 : v57.heap[EB]? = some (.cells #[.int .i64 t0, .int .i64 t1, .int .i64 t2, .int .i64 t3, .int .i64 t4, .int .i64 t5] 25) := cB_v57
      have y58_0 := cell6_0 ld58
      have y58_1 := cell6_1 ld58
      have y58_2 := cell6_2 ld58
      have y58_3 := cell6_3 ld58
      have y58_4 := cell6_4 ld58
      have y58_5 := cell6_5 ld58
      clear ld58
      go_wp2_with fail
      refine (C1.out _ G4).mono ?_
      rintro e v59 ⟨rfl, hb_v59⟩
      have hs_v59 := hw_v57.size
      have cQ_v59 : v59.heap[D + 1]? = some (.cells #[.int .i8 a1, .int .i8 b1, .int .i8 c1, .int .u8 u1] 67) := (hb_v59.block (D + 1) (Array.getElem?_eq_some_iff.1 (show v57.heap[D + 1]? = some (.cells #[.int .i8 a1, .int .i8 b1, .int .i8 c1, .int .u8 u1] 67) from cQ_v57)).1).trans cQ_v57
      have cA_v59 : v59.heap[EA]? = some (.cells #[.int .i64 p0, .int .i64 p1, .int .i64 p2, .int .i64 p3, .int .i64 p4, .int .i64 p5] 25) := (hb_v59.block (EA) (Array.getElem?_eq_some_iff.1 (show v57.heap[EA]? = some (.cells #[.int .i64 p0, .int .i64 p1, .int .i64 p2, .int .i64 p3, .int .i64 p4, .int .i64 p5] 25) from cA_v57)).1).trans cA_v57
      have cS_v59 : v59.heap[ER + 1]? = some (.cells #[.int .i64 p0, .int .i64 p1, .int .i64 p2, .int .i64 p3, .int .i64 p4, .int .i64 p5] 25) := (hb_v59.block (ER + 1) (Array.getElem?_eq_some_iff.1 (show v57.heap[ER + 1]? = some (.cells #[.int .i64 p0, .int .i64 p1, .int .i64 p2, .int .i64 p3, .int .i64 p4, .int .i64 p5] 25) from cS_v57)).1).trans cS_v57
      have cB_v59 : v59.heap[EB]? = some (.cells #[.int .i64 t0, .int .i64 t1, .int .i64 t2, .int .i64 t3, .int .i64 t4, .int .i64 t5] 25) := (hb_v59.block (EB) (Array.getElem?_eq_some_iff.1 (show v57.heap[EB]? = some (.cells #[.int .i64 t0, .int .i64 t1, .int .i64 t2, .int .i64 t3, .int .i64 t4, .int .i64 t5] 25) from cB_v57)).1).trans cB_v57
      have hw_v59 : Below D w v59 := (hw_v57).trans (hb_v59.mono (by first | omega | (simp; omega)))
      clear cQ_v57 cA_v57 cS_v57 cB_v57 hb_v59 y58_0 y58_1 y58_2 y58_3 y58_4 y58_5 hw_v57 hs_v59
      have HW := Lib.hid (hw_v59)
      have ld60 : v59.heap[ER + 1]? = some (.cells #[.int .i64 p0, .int .i64 p1, .int .i64 p2, .int .i64 p3, .int .i64 p4, .int .i64 p5] 25) := cS_v59
      have y60_0 := cell6_0 ld60
      have y60_1 := cell6_1 ld60
      have y60_2 := cell6_2 ld60
      have y60_3 := cell6_3 ld60
      have y60_4 := cell6_4 ld60
      have y60_5 := cell6_5 ld60
      clear ld60
      have ld61 : v59.heap[EA]? = some (.cells #[.int .i64 p0, .int .i64 p1, .int .i64 p2, .int .i64 p3, .int .i64 p4, .int .i64 p5] 25) := cA_v59
      have y61_0 := cell6_0 ld61
      have y61_1 := cell6_1 ld61
      have y61_2 := cell6_2 ld61
      have y61_3 := cell6_3 ld61
      have y61_4 := cell6_4 ld61
      have y61_5 := cell6_5 ld61
      clear ld61
      clear KN MP MQ CM C0 C1
      rcases H3.out with ⟨h5, h6⟩ | ⟨h5, h6⟩ | ⟨h5, h6⟩
      · subst h5
        clear H3
        go_wp2
        go_ret
        exact ⟨rfl, by first | exact HW.out | (rw [hD]; exact HW.out)⟩
      · subst h5 h6
        clear H3
        go_wp2
        go_ret
        exact ⟨rfl, by first | exact HW.out | (rw [hD]; exact HW.out)⟩
      · subst h5
        clear H3
        go_wp2
        go_ret
        exact ⟨rfl, by first | exact HW.out | (rw [hD]; exact HW.out)⟩
end Go.Proofs.YthdoadkdofgenaaGreatDoor
