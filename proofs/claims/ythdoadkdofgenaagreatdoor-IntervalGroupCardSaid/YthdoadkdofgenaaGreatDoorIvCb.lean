/- The walk of IntervalGroup. -/
import Derived.Test.YthdoadkdofgenaaGreatDoorIvBb
import Derived.Test.YthdoadkdofgenaaGreatDoorIvCa
namespace Go.Proofs.YthdoadkdofgenaaGreatDoor
open Go Go.RowKit Go.Shelf

theorem ne_size (a b c d e f : Int) : ∀ W : World, (binOp .neq 25 (.agg #[.int .i64 a, .int .i64 b, .int .i64 c, .int .i64 d, .int .i64 e, .int .i64 f]) (.agg #[.int .i64 a, .int .i64 b, .int .i64 c, .int .i64 d, .int .i64 e, .int .i64 f])).run Tryz.prog W = .ok (.bool false) W := by
  intro W
  simp [go_sem]
theorem sum_bd {a b k : Int} {d e : Nat} (ha : -128 ≤ a ∧ a ≤ 127) (hb : -128 ≤ b ∧ b ≤ 127) (hk : k = 1 ∨ k = -1) (hd : d ≤ 12) (he : e ≤ 12) : -6000 ≤ a * (e : Int) + k * b * (d : Int) ∧ a * (e : Int) + k * b * (d : Int) ≤ 6000 := by
  have h1 := mulb (x := a) (y := (e : Int)) (X := 128) (Y := 12) (by omega) (by omega) (by omega) (by omega)
  have h2 := mulb (x := b) (y := (d : Int)) (X := 128) (Y := 12) (by omega) (by omega) (by omega) (by omega)
  rcases hk with rfl | rfl
  · rw [Int.one_mul]; omega
  · rw [show (-1) * b * (d : Int) = -(b * (d : Int)) by rw [Int.neg_mul, Int.one_mul, Int.neg_mul]]; omega
theorem swap_sz {a b : Int} {d e : Nat} : (b * (d : Int) + 1 * a * (e : Int)) * ((d * e : Nat) : Int) = (a * (e : Int) + 1 * b * (d : Int)) * ((e * d : Nat) : Int) := by
  rw [Int.one_mul, Int.one_mul, Int.add_comm, Nat.mul_comm]
theorem back_sz {a b : Int} {d e : Nat} : ((a * (e : Int) + 1 * b * (d : Int)) * (e : Int) + (-1) * b * ((d * e : Nat) : Int)) * (d : Int) = a * ((d * e * e : Nat) : Int) := by
  have k1 : (a * (e : Int) + 1 * b * (d : Int)) * (e : Int) + (-1) * b * ((d * e : Nat) : Int) = a * (e : Int) * (e : Int) := by
    rw [Int.natCast_mul, Int.one_mul, show (-1) * b * ((d : Int) * (e : Int)) = -(b * (d : Int) * (e : Int)) by rw [Int.neg_mul, Int.one_mul, Int.neg_mul, Int.mul_assoc], Int.add_mul]
    omega
  rw [k1, Int.natCast_mul, Int.natCast_mul]
  ac_rfl
theorem group_sg (X Y Z : Int) {d e f : Nat} (hf : 0 < f) : Iv.sg ((X * (f : Int) + 1 * (Z * (d : Int))) * ((e * f : Nat) : Int) - (Y * (f : Int) + 1 * (Z * (e : Int))) * ((d * f : Nat) : Int)) = Iv.sg (X * (e : Int) - Y * (d : Int)) := by
  have h : (X * (f : Int) + 1 * (Z * (d : Int))) * ((e * f : Nat) : Int) - (Y * (f : Int) + 1 * (Z * (e : Int))) * ((d * f : Nat) : Int) = (X * (e : Int) - Y * (d : Int)) * ((f * f : Nat) : Int) := by
    rw [Int.natCast_mul, Int.natCast_mul, Int.natCast_mul, Int.one_mul, Int.one_mul, Int.add_mul, Int.add_mul, Int.sub_mul]
    rw [show X * (f : Int) * ((e : Int) * (f : Int)) = X * (e : Int) * ((f : Int) * (f : Int)) by ac_rfl, show Z * (d : Int) * ((e : Int) * (f : Int)) = Z * (e : Int) * ((d : Int) * (f : Int)) by ac_rfl, show Y * (f : Int) * ((d : Int) * (f : Int)) = Y * (d : Int) * ((f : Int) * (f : Int)) by ac_rfl]
    omega
  rw [h]
  exact Iv.sg_scale _ (Nat.mul_pos hf hf)
/-- What the operations of 'a, b, c := Make(p), Make(q), Make(r)' yield. -/
def grInv (P1 P2 P3 A1 A2 A3 : Value) (j : Nat) (v : Value) : Prop :=
  match j with
  | 0 => v = P1
  | 1 => v = A1
  | 2 => v = P2
  | 3 => v = A2
  | 4 => v = P3
  | 5 => v = A3
  | _ => True
def grV (x y z : Nat → Int) (k i : Nat) : Value := .int .i64 (match i with | 0 => x k | 1 => y k | _ => z k)

set_option maxRecDepth 100000 in
set_option maxHeartbeats 16000000 in
theorem group_walk (a0 b0 c0 u0 a1 b1 c1 u1 a2 b2 c2 u2 : Int) (ha0 : -128 ≤ a0 ∧ a0 ≤ 127) (hb0 : -128 ≤ b0 ∧ b0 ≤ 127) (hc0 : -128 ≤ c0 ∧ c0 ≤ 127) (ha1 : -128 ≤ a1 ∧ a1 ≤ 127) (hb1 : -128 ≤ b1 ∧ b1 ≤ 127) (hc1 : -128 ≤ c1 ∧ c1 ≤ 127) (ha2 : -128 ≤ a2 ∧ a2 ≤ 127) (hb2 : -128 ≤ b2 ∧ b2 ≤ 127) (hc2 : -128 ≤ c2 ∧ c2 ≤ 127) (hu0 : 0 ≤ u0 ∧ u0 ≤ 255) (hu1 : 0 ≤ u1 ∧ u1 ≤ 255) (hu2 : 0 ≤ u2 ∧ u2 ≤ 255) (w : World) (G : Gi w) (N : Nm w) :
    Calls Tryz.prog 10 #[.agg #[.int .i8 a0, .int .i8 b0, .int .i8 c0, .int .u8 u0], .agg #[.int .i8 a1, .int .i8 b1, .int .i8 c1, .int .u8 u1], .agg #[.int .i8 a2, .int .i8 b2, .int .i8 c2, .int .u8 u2]] w fun e w' => e = .returned (.bool true) ∧ Below w.heap.size w w' := by
  have KN := Lib.hid (fun W (G : Gi W) (N : Nm W) => lknown_any W G N)
  obtain ⟨d, hd, d1, d2⟩ := make_z hu0
  obtain ⟨e, he, e1, e2⟩ := make_z hu1
  obtain ⟨f, hf, f1, f2⟩ := make_z hu2
  have d0 : 0 < d := d1
  have e0 : 0 < e := e1
  have f0 : 0 < f := f1
  have okA : Iv.okB a0 b0 c0 d = true := ok_small (by omega) (by omega) (by omega) (by omega)
  have okB_ : Iv.okB a1 b1 c1 e = true := ok_small (by omega) (by omega) (by omega) (by omega)
  have okC : Iv.okB a2 b2 c2 f = true := ok_small (by omega) (by omega) (by omega) (by omega)
  have hde : d * e ≤ 240 := Nat.le_trans (Nat.mul_le_mul d2 e2) (by decide)
  have hdf : d * f ≤ 240 := Nat.le_trans (Nat.mul_le_mul d2 f2) (by decide)
  have hef : e * f ≤ 240 := Nat.le_trans (Nat.mul_le_mul e2 f2) (by decide)
  have hed : e * d ≤ 240 := Nat.le_trans (Nat.mul_le_mul e2 d2) (by decide)
  have hde0 : 0 < d * e := Nat.mul_pos d0 e0
  have hdf0 : 0 < d * f := Nat.mul_pos d0 f0
  have hef0 : 0 < e * f := Nat.mul_pos e0 f0
  have hed0 : 0 < e * d := Nat.mul_pos e0 d0
  have M0 := Lib.hid (fun W => lmake_any a0 b0 c0 u0 d W ha0 hb0 hc0 hu0 hd)
  have M1 := Lib.hid (fun W => lmake_any a1 b1 c1 u1 e W ha1 hb1 hc1 hu1 he)
  have M2 := Lib.hid (fun W => lmake_any a2 b2 c2 u2 f W ha2 hb2 hc2 hu2 hf)
  have okAB : Iv.okB (a0 * (e : Int) + 1 * a1 * (d : Int)) (b0 * (e : Int) + 1 * b1 * (d : Int)) (c0 * (e : Int) + 1 * c1 * (d : Int)) (d * e) = true := ok_small (sum_bd ha0 ha1 (by decide) d2 e2) (sum_bd hb0 hb1 (by decide) d2 e2) (sum_bd hc0 hc1 (by decide) d2 e2) hde
  have okQ : Iv.okB (a0 * (e : Int) + (-1) * a1 * (d : Int)) (b0 * (e : Int) + (-1) * b1 * (d : Int)) (c0 * (e : Int) + (-1) * c1 * (d : Int)) (d * e) = true := ok_small (sum_bd ha0 ha1 (by decide) d2 e2) (sum_bd hb0 hb1 (by decide) d2 e2) (sum_bd hc0 hc1 (by decide) d2 e2) hde
  have okX : Iv.okB (a0 * (f : Int) + 1 * a2 * (d : Int)) (b0 * (f : Int) + 1 * b2 * (d : Int)) (c0 * (f : Int) + 1 * c2 * (d : Int)) (d * f) = true := ok_small (sum_bd ha0 ha2 (by decide) d2 f2) (sum_bd hb0 hb2 (by decide) d2 f2) (sum_bd hc0 hc2 (by decide) d2 f2) hdf
  have okY : Iv.okB (a1 * (f : Int) + 1 * a2 * (e : Int)) (b1 * (f : Int) + 1 * b2 * (e : Int)) (c1 * (f : Int) + 1 * c2 * (e : Int)) (e * f) = true := ok_small (sum_bd ha1 ha2 (by decide) e2 f2) (sum_bd hb1 hb2 (by decide) e2 f2) (sum_bd hc1 hc2 (by decide) e2 f2) hef
  have ab := fun W => addw a0 b0 c0 a1 b1 c1 d e d0 e0 okA okB_ W
  simp only [(sz_ok okAB _).1, (sz_ok okAB _).2.1, (sz_ok okAB 0).2.2] at ab
  have sb := fun W => subw a0 b0 c0 a1 b1 c1 d e d0 e0 okA okB_ W
  simp only [(sz_ok okQ _).1, (sz_ok okQ _).2.1, (sz_ok okQ 0).2.2] at sb
  have xx := fun W => addw a0 b0 c0 a2 b2 c2 d f d0 f0 okA okC W
  simp only [(sz_ok okX _).1, (sz_ok okX _).2.1, (sz_ok okX 0).2.2] at xx
  have yy := fun W => addw a1 b1 c1 a2 b2 c2 e f e0 f0 okB_ okC W
  simp only [(sz_ok okY _).1, (sz_ok okY _).2.1, (sz_ok okY 0).2.2] at yy
  have ba := fun W => addw a1 b1 c1 a0 b0 c0 e d e0 d0 okB_ okA W
  have sw := fun (x y : Int) => sz_eqv hed0 hde0 (swap_sz (a := x) (b := y) (d := d) (e := e)) (swap_sz (a := a0) (b := a1) (d := d) (e := e)) (swap_sz (a := b0) (b := b1) (d := d) (e := e)) (swap_sz (a := c0) (b := c1) (d := d) (e := e))
  rw [(sw a0 a1).1, (sw a0 a1).2.1, (sw b0 b1).1, (sw b0 b1).2.1, (sw c0 c1).1, (sw c0 c1).2.1, (sw a0 a1).2.2] at ba
  simp only [(sz_ok okAB _).1, (sz_ok okAB _).2.1, (sz_ok okAB 0).2.2] at ba
  have bk := fun W => subw (a0 * (e : Int) + 1 * a1 * (d : Int)) (b0 * (e : Int) + 1 * b1 * (d : Int)) (c0 * (e : Int) + 1 * c1 * (d : Int)) a1 b1 c1 (d * e) e hde0 e0 okAB okB_ W
  have bs := fun (x y : Int) => sz_eqv (Nat.mul_pos hde0 e0) d0 (back_sz (a := x) (b := y) (d := d) (e := e)) (back_sz (a := a0) (b := a1) (d := d) (e := e)) (back_sz (a := b0) (b := b1) (d := d) (e := e)) (back_sz (a := c0) (b := c1) (d := d) (e := e))
  rw [(bs a0 a1).1, (bs a0 a1).2.1, (bs b0 b1).1, (bs b0 b1).2.1, (bs c0 c1).1, (bs c0 c1).2.1, (bs a0 a1).2.2] at bk
  simp only [(sz_ok okA _).1, (sz_ok okA _).2.1, (sz_ok okA 0).2.2] at bk
  have CM := Lib.hid (fun W G => comparew a0 b0 c0 a1 b1 c1 d e d0 e0 okA okB_ W G)
  have sg := fun W G => signw (a0 * (e : Int) + (-1) * a1 * (d : Int)) (b0 * (e : Int) + (-1) * b1 * (d : Int)) (c0 * (e : Int) + (-1) * c1 * (d : Int)) (d * e) hde0 okQ W G
  rw [lg_comb, show Iv.lg a0 b0 c0 * (e : Int) + (-1) * (Iv.lg a1 b1 c1 * (d : Int)) = Iv.lg a0 b0 c0 * (e : Int) - Iv.lg a1 b1 c1 * (d : Int) by omega] at sg
  have cx := fun W G => comparew (a0 * (f : Int) + 1 * a2 * (d : Int)) (b0 * (f : Int) + 1 * b2 * (d : Int)) (c0 * (f : Int) + 1 * c2 * (d : Int)) (a1 * (f : Int) + 1 * a2 * (e : Int)) (b1 * (f : Int) + 1 * b2 * (e : Int)) (c1 * (f : Int) + 1 * c2 * (e : Int)) (d * f) (e * f) hdf0 hef0 okX okY W G
  rw [lg_comb, lg_comb, group_sg _ _ _ f0] at cx
  have AB := Lib.hid ab
  have BA := Lib.hid ba
  have BK := Lib.hid bk
  have SB := Lib.hid sb
  have XX := Lib.hid xx
  have YY := Lib.hid yy
  have SG := Lib.hid sg
  have CX := Lib.hid cx
  clear ab ba bk sb xx yy sg cx sw bs okAB okQ okX okY okA okB_ okC
  generalize Iv.sg (Iv.lg a0 b0 c0 * (e : Int) - Iv.lg a1 b1 c1 * (d : Int)) = s at *
  generalize FracMath.qn (a0 * (e : Int) + 1 * a1 * (d : Int)) ((d * e : Nat) : Int) = s0 at *
  generalize FracMath.qd (a0 * (e : Int) + 1 * a1 * (d : Int)) ((d * e : Nat) : Int) = s1 at *
  generalize FracMath.qn (b0 * (e : Int) + 1 * b1 * (d : Int)) ((d * e : Nat) : Int) = s2 at *
  generalize FracMath.qd (b0 * (e : Int) + 1 * b1 * (d : Int)) ((d * e : Nat) : Int) = s3 at *
  generalize FracMath.qn (c0 * (e : Int) + 1 * c1 * (d : Int)) ((d * e : Nat) : Int) = s4 at *
  generalize FracMath.qd (c0 * (e : Int) + 1 * c1 * (d : Int)) ((d * e : Nat) : Int) = s5 at *
  generalize FracMath.qn (a0 * (e : Int) + (-1) * a1 * (d : Int)) ((d * e : Nat) : Int) = q0 at *
  generalize FracMath.qd (a0 * (e : Int) + (-1) * a1 * (d : Int)) ((d * e : Nat) : Int) = q1 at *
  generalize FracMath.qn (b0 * (e : Int) + (-1) * b1 * (d : Int)) ((d * e : Nat) : Int) = q2 at *
  generalize FracMath.qd (b0 * (e : Int) + (-1) * b1 * (d : Int)) ((d * e : Nat) : Int) = q3 at *
  generalize FracMath.qn (c0 * (e : Int) + (-1) * c1 * (d : Int)) ((d * e : Nat) : Int) = q4 at *
  generalize FracMath.qd (c0 * (e : Int) + (-1) * c1 * (d : Int)) ((d * e : Nat) : Int) = q5 at *
  generalize FracMath.qn (a0 * (f : Int) + 1 * a2 * (d : Int)) ((d * f : Nat) : Int) = x0 at *
  generalize FracMath.qd (a0 * (f : Int) + 1 * a2 * (d : Int)) ((d * f : Nat) : Int) = x1 at *
  generalize FracMath.qn (b0 * (f : Int) + 1 * b2 * (d : Int)) ((d * f : Nat) : Int) = x2 at *
  generalize FracMath.qd (b0 * (f : Int) + 1 * b2 * (d : Int)) ((d * f : Nat) : Int) = x3 at *
  generalize FracMath.qn (c0 * (f : Int) + 1 * c2 * (d : Int)) ((d * f : Nat) : Int) = x4 at *
  generalize FracMath.qd (c0 * (f : Int) + 1 * c2 * (d : Int)) ((d * f : Nat) : Int) = x5 at *
  generalize FracMath.qn (a1 * (f : Int) + 1 * a2 * (e : Int)) ((e * f : Nat) : Int) = y0 at *
  generalize FracMath.qd (a1 * (f : Int) + 1 * a2 * (e : Int)) ((e * f : Nat) : Int) = y1 at *
  generalize FracMath.qn (b1 * (f : Int) + 1 * b2 * (e : Int)) ((e * f : Nat) : Int) = y2 at *
  generalize FracMath.qd (b1 * (f : Int) + 1 * b2 * (e : Int)) ((e * f : Nat) : Int) = y3 at *
  generalize FracMath.qn (c1 * (f : Int) + 1 * c2 * (e : Int)) ((e * f : Nat) : Int) = y4 at *
  generalize FracMath.qd (c1 * (f : Int) + 1 * c2 * (e : Int)) ((e * f : Nat) : Int) = y5 at *
  generalize FracMath.qn a0 d = p0 at *
  generalize FracMath.qd a0 d = p1 at *
  generalize FracMath.qn b0 d = p2 at *
  generalize FracMath.qd b0 d = p3 at *
  generalize FracMath.qn c0 d = p4 at *
  generalize FracMath.qd c0 d = p5 at *
  generalize FracMath.qn a1 e = t0 at *
  generalize FracMath.qd a1 e = t1 at *
  generalize FracMath.qn b1 e = t2 at *
  generalize FracMath.qd b1 e = t3 at *
  generalize FracMath.qn c1 e = t4 at *
  generalize FracMath.qd c1 e = t5 at *
  generalize FracMath.qn a2 f = r0 at *
  generalize FracMath.qd a2 f = r1 at *
  generalize FracMath.qn b2 f = r2 at *
  generalize FracMath.qd b2 f = r3 at *
  generalize FracMath.qn c2 f = r4 at *
  generalize FracMath.qd c2 f = r5 at *
  clear hd he hf d1 d2 e1 e2 f1 f2 d0 e0 f0 hde hdf hef hed hde0 hdf0 hef0 hed0 ha0 hb0 hc0 hu0 ha1 hb1 hc1 hu1 ha2 hb2 hc2 hu2
  have hes := ne_size s0 s1 s2 s3 s4 s5
  have hep := ne_size p0 p1 p2 p3 p4 p5
  obtain ⟨D, hD⟩ : ∃ D, w.heap.size = D := ⟨_, rfl⟩
  go_enter Tryz.func10, Tryz.ntmps10
  have G1 : Gi (((w.alloc (.cells #[.int .i8 a0, .int .i8 b0, .int .i8 c0, .int .u8 u0] 67)).alloc (.cells #[.int .i8 a1, .int .i8 b1, .int .i8 c1, .int .u8 u1] 67)).alloc (.cells #[.int .i8 a2, .int .i8 b2, .int .i8 c2, .int .u8 u2] 67)) := G.below (by rw [hD]; exact ((((Below.refl _ w).alloc (by first | omega | (simp; omega)) (.cells #[.int .i8 a0, .int .i8 b0, .int .i8 c0, .int .u8 u0] 67)).alloc (by first | omega | (simp; omega)) (.cells #[.int .i8 a1, .int .i8 b1, .int .i8 c1, .int .u8 u1] 67)).alloc (by first | omega | (simp; omega)) (.cells #[.int .i8 a2, .int .i8 b2, .int .i8 c2, .int .u8 u2] 67)))
  have N1 : Nm (((w.alloc (.cells #[.int .i8 a0, .int .i8 b0, .int .i8 c0, .int .u8 u0] 67)).alloc (.cells #[.int .i8 a1, .int .i8 b1, .int .i8 c1, .int .u8 u1] 67)).alloc (.cells #[.int .i8 a2, .int .i8 b2, .int .i8 c2, .int .u8 u2] 67)) := N.below (by rw [hD]; exact ((((Below.refl _ w).alloc (by first | omega | (simp; omega)) (.cells #[.int .i8 a0, .int .i8 b0, .int .i8 c0, .int .u8 u0] 67)).alloc (by first | omega | (simp; omega)) (.cells #[.int .i8 a1, .int .i8 b1, .int .i8 c1, .int .u8 u1] 67)).alloc (by first | omega | (simp; omega)) (.cells #[.int .i8 a2, .int .i8 b2, .int .i8 c2, .int .u8 u2] 67)))
  go_wp2_with fail
  refine (KN.out _ G1 N1).mono ?_
  rintro e v1 ⟨rfl, hb_v1⟩
  have cP_v1 : v1.heap[D]? = some (.cells #[.int .i8 a0, .int .i8 b0, .int .i8 c0, .int .u8 u0] 67) := (hb_v1.block (D) (Array.getElem?_eq_some_iff.1 (show (((w.alloc (.cells #[.int .i8 a0, .int .i8 b0, .int .i8 c0, .int .u8 u0] 67)).alloc (.cells #[.int .i8 a1, .int .i8 b1, .int .i8 c1, .int .u8 u1] 67)).alloc (.cells #[.int .i8 a2, .int .i8 b2, .int .i8 c2, .int .u8 u2] 67)).heap[D]? = some (.cells #[.int .i8 a0, .int .i8 b0, .int .i8 c0, .int .u8 u0] 67) from (heap_old (o := .cells #[.int .i8 a2, .int .i8 b2, .int .i8 c2, .int .u8 u2] 67) (heap_old (o := .cells #[.int .i8 a1, .int .i8 b1, .int .i8 c1, .int .u8 u1] 67) (heap_new (by first | omega | (simp; omega))))))).1).trans (heap_old (o := .cells #[.int .i8 a2, .int .i8 b2, .int .i8 c2, .int .u8 u2] 67) (heap_old (o := .cells #[.int .i8 a1, .int .i8 b1, .int .i8 c1, .int .u8 u1] 67) (heap_new (by first | omega | (simp; omega)))))
  have cQ_v1 : v1.heap[D + 1]? = some (.cells #[.int .i8 a1, .int .i8 b1, .int .i8 c1, .int .u8 u1] 67) := (hb_v1.block (D + 1) (Array.getElem?_eq_some_iff.1 (show (((w.alloc (.cells #[.int .i8 a0, .int .i8 b0, .int .i8 c0, .int .u8 u0] 67)).alloc (.cells #[.int .i8 a1, .int .i8 b1, .int .i8 c1, .int .u8 u1] 67)).alloc (.cells #[.int .i8 a2, .int .i8 b2, .int .i8 c2, .int .u8 u2] 67)).heap[D + 1]? = some (.cells #[.int .i8 a1, .int .i8 b1, .int .i8 c1, .int .u8 u1] 67) from (heap_old (o := .cells #[.int .i8 a2, .int .i8 b2, .int .i8 c2, .int .u8 u2] 67) (heap_new (by first | omega | (simp; omega)))))).1).trans (heap_old (o := .cells #[.int .i8 a2, .int .i8 b2, .int .i8 c2, .int .u8 u2] 67) (heap_new (by first | omega | (simp; omega))))
  have cR_v1 : v1.heap[D + 1 + 1]? = some (.cells #[.int .i8 a2, .int .i8 b2, .int .i8 c2, .int .u8 u2] 67) := (hb_v1.block (D + 1 + 1) (Array.getElem?_eq_some_iff.1 (show (((w.alloc (.cells #[.int .i8 a0, .int .i8 b0, .int .i8 c0, .int .u8 u0] 67)).alloc (.cells #[.int .i8 a1, .int .i8 b1, .int .i8 c1, .int .u8 u1] 67)).alloc (.cells #[.int .i8 a2, .int .i8 b2, .int .i8 c2, .int .u8 u2] 67)).heap[D + 1 + 1]? = some (.cells #[.int .i8 a2, .int .i8 b2, .int .i8 c2, .int .u8 u2] 67) from (heap_new (by first | omega | (simp; omega))))).1).trans (heap_new (by first | omega | (simp; omega)))
  have hw_v1 : Below D w v1 := (((((Below.refl _ w).alloc (by first | omega | (simp; omega)) (.cells #[.int .i8 a0, .int .i8 b0, .int .i8 c0, .int .u8 u0] 67)).alloc (by first | omega | (simp; omega)) (.cells #[.int .i8 a1, .int .i8 b1, .int .i8 c1, .int .u8 u1] 67)).alloc (by first | omega | (simp; omega)) (.cells #[.int .i8 a2, .int .i8 b2, .int .i8 c2, .int .u8 u2] 67))).trans (hb_v1.mono (by first | omega | (simp; omega)))
  clear hb_v1
  have LP := Lib.hid cP_v1
  have LQ := Lib.hid cQ_v1
  have LR := Lib.hid cR_v1
  have HW1 := Lib.hid hw_v1
  clear cP_v1 cQ_v1 cR_v1 hw_v1
  go_wp2_with fail
  refine wp_region_slots_at rfl rfl (fun base ys => ((((((((base.set 30 (ys 0)).set 31 (ys 1)).set 32 (ys 2)).set 33 (ys 3)).set 34 (ys 4)).set 35 (ys 5)).set 7 (ys 6)).set 8 (ys 7)).set 9 (ys 8)) (BoxI 6 9 3 25 v1 (grInv (.agg #[.int .i8 a0, .int .i8 b0, .int .i8 c0, .int .u8 u0]) (.agg #[.int .i8 a1, .int .i8 b1, .int .i8 c1, .int .u8 u1]) (.agg #[.int .i8 a2, .int .i8 b2, .int .i8 c2, .int .u8 u2]) (.agg #[.int .i64 p0, .int .i64 p1, .int .i64 p2, .int .i64 p3, .int .i64 p4, .int .i64 p5]) (.agg #[.int .i64 t0, .int .i64 t1, .int .i64 t2, .int .i64 t3, .int .i64 t4, .int .i64 t5]) (.agg #[.int .i64 r0, .int .i64 r1, .int .i64 r2, .int .i64 r3, .int .i64 r4, .int .i64 r5])) (grV (fun | 0 => p0 | 1 => p1 | 2 => p2 | 3 => p3 | 4 => p4 | _ => p5) (fun | 0 => t0 | 1 => t1 | 2 => t2 | 3 => t3 | 4 => t4 | _ => t5) (fun | 0 => r0 | 1 => r1 | 2 => r2 | 3 => r3 | 4 => r4 | _ => r5))) (fun _ => undef) (by kernel_rfl) ?h0 ?h
  case h0 =>
    refine ⟨(Below.refl _ _).drew, fun j hj => ?_, fun i hi hl => ?_, fun i hi hl => ?_, fun i j hi hj hne hl => ?_⟩
    · have : 12 ≤ j := of_decide_eq_true hj
      obtain ⟨k, rfl⟩ : ∃ k, j = k + 6 := ⟨j - 6, by omega⟩
      trivial
    · have : 12 ≤ 9 + i := of_decide_eq_true hl
      omega
    · have : 12 ≤ 6 + i := of_decide_eq_true hl
      omega
    · have : 12 ≤ 6 + i := of_decide_eq_true hl
      omega
  case h =>
    intro F hF
    simp only [List.set_cons_succ, List.set_cons_zero] at hF
    subst hF
    refine ⟨rfl, ?_, ?_⟩
    refine ⟨?_, ?_⟩
    · intro L ys W hn hd hI K hK
      have hh := (hI.below.block D (Array.getElem?_eq_some_iff.1 LP.out).1).trans LP.out
      have c0 := cell4_0 hh
      have c1 := cell4_1 hh
      have c2 := cell4_2 hh
      have c3 := cell4_3 hh
      go_simp
      exact hK _ _ (hI.other (by decide) (by decide) rfl (Below.refl _ _))
    refine ⟨?_, ?_⟩
    · intro L ys W hn hd hI K hK
      have dq : ys 0 = .agg #[.int .i8 a0, .int .i8 b0, .int .i8 c0, .int .u8 u0] := hI.inv 0 (waits_at hd (by kernel_rfl))
      go_simp
      refine (M0.out _).mono ?_
      rintro ee W' ⟨rfl, hb⟩
      have hK2 := hK _ _ (hI.other (by decide) (by decide) rfl hb)
      simp (config := { decide := true }) only [upd, if_true, if_false, dq] at hK2
      exact hK2
    refine ⟨?_, ?_⟩
    · intro L ys W hn hd hI K hK
      have hh := (hI.below.block (D + 1) (Array.getElem?_eq_some_iff.1 LQ.out).1).trans LQ.out
      have c0 := cell4_0 hh
      have c1 := cell4_1 hh
      have c2 := cell4_2 hh
      have c3 := cell4_3 hh
      go_simp
      exact hK _ _ (hI.other (by decide) (by decide) rfl (Below.refl _ _))
    refine ⟨?_, ?_⟩
    · intro L ys W hn hd hI K hK
      have dq : ys 2 = .agg #[.int .i8 a1, .int .i8 b1, .int .i8 c1, .int .u8 u1] := hI.inv 2 (waits_at hd (by kernel_rfl))
      go_simp
      refine (M1.out _).mono ?_
      rintro ee W' ⟨rfl, hb⟩
      have hK2 := hK _ _ (hI.other (by decide) (by decide) rfl hb)
      simp (config := { decide := true }) only [upd, if_true, if_false, dq] at hK2
      exact hK2
    refine ⟨?_, ?_⟩
    · intro L ys W hn hd hI K hK
      have hh := (hI.below.block (D + 1 + 1) (Array.getElem?_eq_some_iff.1 LR.out).1).trans LR.out
      have c0 := cell4_0 hh
      have c1 := cell4_1 hh
      have c2 := cell4_2 hh
      have c3 := cell4_3 hh
      go_simp
      exact hK _ _ (hI.other (by decide) (by decide) rfl (Below.refl _ _))
    refine ⟨?_, ?_⟩
    · intro L ys W hn hd hI K hK
      have dq : ys 4 = .agg #[.int .i8 a2, .int .i8 b2, .int .i8 c2, .int .u8 u2] := hI.inv 4 (waits_at hd (by kernel_rfl))
      go_simp
      refine (M2.out _).mono ?_
      rintro ee W' ⟨rfl, hb⟩
      have hK2 := hK _ _ (hI.other (by decide) (by decide) rfl hb)
      simp (config := { decide := true }) only [upd, if_true, if_false, dq] at hK2
      exact hK2
    refine ⟨?_, ?_⟩
    · intro L ys W hn hd hI K hK
      go_simp
      exact hK _ _ (hI.alloc (i := 0) (by decide) (by decide) hn trivial)
    refine ⟨?_, ?_⟩
    · intro L ys W hn hd hI K hK
      go_simp
      exact hK _ _ (hI.alloc (i := 1) (by decide) (by decide) hn trivial)
    refine ⟨?_, ?_⟩
    · intro L ys W hn hd hI K hK
      go_simp
      exact hK _ _ (hI.alloc (i := 2) (by decide) (by decide) hn trivial)
    refine ⟨?_, ?_⟩
    · intro L ys W hn hd hI K hK
      obtain ⟨qq, z0, z1, z2, z3, z4, z5, hy, hq, hh, _⟩ := hI.box 0 (by decide) (waits_at hd (by kernel_rfl))
      have ff0 := free6_0 hh
      have ff1 := free6_1 hh
      have ff2 := free6_2 hh
      have ff3 := free6_3 hh
      have ff4 := free6_4 hh
      have ff5 := free6_5 hh
      have gg0 := cell6_0 hh
      have gg1 := cell6_1 hh
      have gg2 := cell6_2 hh
      have gg3 := cell6_3 hh
      have gg4 := cell6_4 hh
      have gg5 := cell6_5 hh
      have hy' : ys 6 = _ := hy
      have dv : ys 1 = .agg #[.int .i64 p0, .int .i64 p1, .int .i64 p2, .int .i64 p3, .int .i64 p4, .int .i64 p5] := hI.inv 1 (waits_at hd (by kernel_rfl))
      go_simp
      have hK2 := hK undef _ (hI.store (i := 0) (by decide) (by decide) (waits_at hd (by kernel_rfl)) hy trivial)
      simp (config := { decide := true }) only [upd, if_false, hy', dv, grV] at hK2
      exact hK2
    refine ⟨?_, ?_⟩
    · intro L ys W hn hd hI K hK
      obtain ⟨qq, z0, z1, z2, z3, z4, z5, hy, hq, hh, _⟩ := hI.box 1 (by decide) (waits_at hd (by kernel_rfl))
      have ff0 := free6_0 hh
      have ff1 := free6_1 hh
      have ff2 := free6_2 hh
      have ff3 := free6_3 hh
      have ff4 := free6_4 hh
      have ff5 := free6_5 hh
      have gg0 := cell6_0 hh
      have gg1 := cell6_1 hh
      have gg2 := cell6_2 hh
      have gg3 := cell6_3 hh
      have gg4 := cell6_4 hh
      have gg5 := cell6_5 hh
      have hy' : ys 7 = _ := hy
      have dv : ys 3 = .agg #[.int .i64 t0, .int .i64 t1, .int .i64 t2, .int .i64 t3, .int .i64 t4, .int .i64 t5] := hI.inv 3 (waits_at hd (by kernel_rfl))
      go_simp
      have hK2 := hK undef _ (hI.store (i := 1) (by decide) (by decide) (waits_at hd (by kernel_rfl)) hy trivial)
      simp (config := { decide := true }) only [upd, if_false, hy', dv, grV] at hK2
      exact hK2
    refine ⟨?_, ?_⟩
    · intro L ys W hn hd hI K hK
      obtain ⟨qq, z0, z1, z2, z3, z4, z5, hy, hq, hh, _⟩ := hI.box 2 (by decide) (waits_at hd (by kernel_rfl))
      have ff0 := free6_0 hh
      have ff1 := free6_1 hh
      have ff2 := free6_2 hh
      have ff3 := free6_3 hh
      have ff4 := free6_4 hh
      have ff5 := free6_5 hh
      have gg0 := cell6_0 hh
      have gg1 := cell6_1 hh
      have gg2 := cell6_2 hh
      have gg3 := cell6_3 hh
      have gg4 := cell6_4 hh
      have gg5 := cell6_5 hh
      have hy' : ys 8 = _ := hy
      have dv : ys 5 = .agg #[.int .i64 r0, .int .i64 r1, .int .i64 r2, .int .i64 r3, .int .i64 r4, .int .i64 r5] := hI.inv 5 (waits_at hd (by kernel_rfl))
      go_simp
      have hK2 := hK undef _ (hI.store (i := 2) (by decide) (by decide) (waits_at hd (by kernel_rfl)) hy trivial)
      simp (config := { decide := true }) only [upd, if_false, hy', dv, grV] at hK2
      exact hK2
    trivial
    intro L ys W hL hI
    obtain ⟨EA, z0, z1, z2, z3, z4, z5, hyu, hnu, hhu, hcu⟩ := hI.box 0 (by decide) (hL 6 (by decide))
    obtain ⟨EB, m0, m1, m2, m3, m4, m5, hyc, hnc, hhc, hcc⟩ := hI.box 1 (by decide) (hL 7 (by decide))
    obtain ⟨EC, n0, n1, n2, n3, n4, n5, hyv, hnv, hhv, hcv⟩ := hI.box 2 (by decide) (hL 8 (by decide))
    obtain ⟨rfl, rfl, rfl, rfl, rfl, rfl⟩ := hcu (hL 9 (by decide))
    obtain ⟨rfl, rfl, rfl, rfl, rfl, rfl⟩ := hcc (hL 10 (by decide))
    obtain ⟨rfl, rfl, rfl, rfl, rfl, rfl⟩ := hcv (hL 11 (by decide))
    have hbW := HW1.out.trans (hI.below.mono (by have := HW1.out.size; omega))
    have hyu' : ys 6 = _ := hyu
    have hyc' : ys 7 = _ := hyc
    have hyv' : ys 8 = _ := hyv
    simp only [hyu', hyc', hyv']
    have cA_W : W.heap[EA]? = some (.cells #[.int .i64 p0, .int .i64 p1, .int .i64 p2, .int .i64 p3, .int .i64 p4, .int .i64 p5] 25) := hhu
    have cB_W : W.heap[EB]? = some (.cells #[.int .i64 t0, .int .i64 t1, .int .i64 t2, .int .i64 t3, .int .i64 t4, .int .i64 t5] 25) := hhc
    have cC_W : W.heap[EC]? = some (.cells #[.int .i64 r0, .int .i64 r1, .int .i64 r2, .int .i64 r3, .int .i64 r4, .int .i64 r5] 25) := hhv
    clear hL hI hyu hyc hyv hyu' hyc' hyv' hcu hcc hcv hhu hhc hhv hnu hnc hnv LP LQ LR HW1 M0 M1 M2
    have ld61 : W.heap[EA]? = some (.cells #[.int .i64 p0, .int .i64 p1, .int .i64 p2, .int .i64 p3, .int .i64 p4, .int .i64 p5] 25) := cA_W
    have y61_0 := cell6_0 ld61
    have y61_1 := cell6_1 ld61
    have y61_2 := cell6_2 ld61
    have y61_3 := cell6_3 ld61
    have y61_4 := cell6_4 ld61
    have y61_5 := cell6_5 ld61
    clear ld61
    have ld62 : W.heap[EB]? = some (.cells #[.int .i64 t0, .int .i64 t1, .int .i64 t2, .int .i64 t3, .int .i64 t4, .int .i64 t5] 25) := cB_W
    have y62_0 := cell6_0 ld62
    have y62_1 := cell6_1 ld62
    have y62_2 := cell6_2 ld62
    have y62_3 := cell6_3 ld62
    have y62_4 := cell6_4 ld62
    have y62_5 := cell6_5 ld62
    clear ld62
    go_wp2_with fail
    refine (AB.out _).mono ?_
    rintro e v63 ⟨rfl, hb_v63⟩
    have hs_v63 := hbW.size
    have cA_v63 : v63.heap[EA]? = some (.cells #[.int .i64 p0, .int .i64 p1, .int .i64 p2, .int .i64 p3, .int .i64 p4, .int .i64 p5] 25) := (hb_v63.block (EA) (Array.getElem?_eq_some_iff.1 (show W.heap[EA]? = some (.cells #[.int .i64 p0, .int .i64 p1, .int .i64 p2, .int .i64 p3, .int .i64 p4, .int .i64 p5] 25) from cA_W)).1).trans cA_W
    have cB_v63 : v63.heap[EB]? = some (.cells #[.int .i64 t0, .int .i64 t1, .int .i64 t2, .int .i64 t3, .int .i64 t4, .int .i64 t5] 25) := (hb_v63.block (EB) (Array.getElem?_eq_some_iff.1 (show W.heap[EB]? = some (.cells #[.int .i64 t0, .int .i64 t1, .int .i64 t2, .int .i64 t3, .int .i64 t4, .int .i64 t5] 25) from cB_W)).1).trans cB_W
    have cC_v63 : v63.heap[EC]? = some (.cells #[.int .i64 r0, .int .i64 r1, .int .i64 r2, .int .i64 r3, .int .i64 r4, .int .i64 r5] 25) := (hb_v63.block (EC) (Array.getElem?_eq_some_iff.1 (show W.heap[EC]? = some (.cells #[.int .i64 r0, .int .i64 r1, .int .i64 r2, .int .i64 r3, .int .i64 r4, .int .i64 r5] 25) from cC_W)).1).trans cC_W
    have hw_v63 : Below D w v63 := (hbW).trans (hb_v63.mono (by first | omega | (simp; omega)))
    clear cA_W cB_W cC_W hb_v63 y61_0 y61_1 y61_2 y61_3 y61_4 y61_5 y62_0 y62_1 y62_2 y62_3 y62_4 y62_5 hbW hs_v63
    obtain ⟨ES, hES⟩ : ∃ E, v63.heap.size = E := ⟨_, rfl⟩
    have ld64 : (v63.alloc (.cells #[.int .i64 s0, .int .i64 s1, .int .i64 s2, .int .i64 s3, .int .i64 s4, .int .i64 s5] 25)).heap[EB]? = some (.cells #[.int .i64 t0, .int .i64 t1, .int .i64 t2, .int .i64 t3, .int .i64 t4, .int .i64 t5] 25) := (heap_old (o := .cells #[.int .i64 s0, .int .i64 s1, .int .i64 s2, .int .i64 s3, .int .i64 s4, .int .i64 s5] 25) cB_v63)
    have y64_0 := cell6_0 ld64
    have y64_1 := cell6_1 ld64
    have y64_2 := cell6_2 ld64
    have y64_3 := cell6_3 ld64
    have y64_4 := cell6_4 ld64
    have y64_5 := cell6_5 ld64
    clear ld64
    have ld65 : (v63.alloc (.cells #[.int .i64 s0, .int .i64 s1, .int .i64 s2, .int .i64 s3, .int .i64 s4, .int .i64 s5] 25)).heap[EA]? = some (.cells #[.int .i64 p0, .int .i64 p1, .int .i64 p2, .int .i64 p3, .int .i64 p4, .int .i64 p5] 25) := (heap_old (o := .cells #[.int .i64 s0, .int .i64 s1, .int .i64 s2, .int .i64 s3, .int .i64 s4, .int .i64 s5] 25) cA_v63)
    have y65_0 := cell6_0 ld65
    have y65_1 := cell6_1 ld65
    have y65_2 := cell6_2 ld65
    have y65_3 := cell6_3 ld65
    have y65_4 := cell6_4 ld65
    have y65_5 := cell6_5 ld65
    clear ld65
    go_wp2_with fail
    refine (BA.out _).mono ?_
    rintro e v66 ⟨rfl, hb_v66⟩
    have hs_v66 := hw_v63.size
    have cA_v66 : v66.heap[EA]? = some (.cells #[.int .i64 p0, .int .i64 p1, .int .i64 p2, .int .i64 p3, .int .i64 p4, .int .i64 p5] 25) := (hb_v66.block (EA) (Array.getElem?_eq_some_iff.1 (show (v63.alloc (.cells #[.int .i64 s0, .int .i64 s1, .int .i64 s2, .int .i64 s3, .int .i64 s4, .int .i64 s5] 25)).heap[EA]? = some (.cells #[.int .i64 p0, .int .i64 p1, .int .i64 p2, .int .i64 p3, .int .i64 p4, .int .i64 p5] 25) from (heap_old (o := .cells #[.int .i64 s0, .int .i64 s1, .int .i64 s2, .int .i64 s3, .int .i64 s4, .int .i64 s5] 25) cA_v63))).1).trans (heap_old (o := .cells #[.int .i64 s0, .int .i64 s1, .int .i64 s2, .int .i64 s3, .int .i64 s4, .int .i64 s5] 25) cA_v63)
    have cB_v66 : v66.heap[EB]? = some (.cells #[.int .i64 t0, .int .i64 t1, .int .i64 t2, .int .i64 t3, .int .i64 t4, .int .i64 t5] 25) := (hb_v66.block (EB) (Array.getElem?_eq_some_iff.1 (show (v63.alloc (.cells #[.int .i64 s0, .int .i64 s1, .int .i64 s2, .int .i64 s3, .int .i64 s4, .int .i64 s5] 25)).heap[EB]? = some (.cells #[.int .i64 t0, .int .i64 t1, .int .i64 t2, .int .i64 t3, .int .i64 t4, .int .i64 t5] 25) from (heap_old (o := .cells #[.int .i64 s0, .int .i64 s1, .int .i64 s2, .int .i64 s3, .int .i64 s4, .int .i64 s5] 25) cB_v63))).1).trans (heap_old (o := .cells #[.int .i64 s0, .int .i64 s1, .int .i64 s2, .int .i64 s3, .int .i64 s4, .int .i64 s5] 25) cB_v63)
    have cC_v66 : v66.heap[EC]? = some (.cells #[.int .i64 r0, .int .i64 r1, .int .i64 r2, .int .i64 r3, .int .i64 r4, .int .i64 r5] 25) := (hb_v66.block (EC) (Array.getElem?_eq_some_iff.1 (show (v63.alloc (.cells #[.int .i64 s0, .int .i64 s1, .int .i64 s2, .int .i64 s3, .int .i64 s4, .int .i64 s5] 25)).heap[EC]? = some (.cells #[.int .i64 r0, .int .i64 r1, .int .i64 r2, .int .i64 r3, .int .i64 r4, .int .i64 r5] 25) from (heap_old (o := .cells #[.int .i64 s0, .int .i64 s1, .int .i64 s2, .int .i64 s3, .int .i64 s4, .int .i64 s5] 25) cC_v63))).1).trans (heap_old (o := .cells #[.int .i64 s0, .int .i64 s1, .int .i64 s2, .int .i64 s3, .int .i64 s4, .int .i64 s5] 25) cC_v63)
    have cS_v66 : v66.heap[ES]? = some (.cells #[.int .i64 s0, .int .i64 s1, .int .i64 s2, .int .i64 s3, .int .i64 s4, .int .i64 s5] 25) := (hb_v66.block (ES) (Array.getElem?_eq_some_iff.1 (show (v63.alloc (.cells #[.int .i64 s0, .int .i64 s1, .int .i64 s2, .int .i64 s3, .int .i64 s4, .int .i64 s5] 25)).heap[ES]? = some (.cells #[.int .i64 s0, .int .i64 s1, .int .i64 s2, .int .i64 s3, .int .i64 s4, .int .i64 s5] 25) from (heap_new (by first | omega | (simp; omega))))).1).trans (heap_new (by first | omega | (simp; omega)))
    have hw_v66 : Below D w v66 := ((hw_v63.alloc (by have := hw_v63.size; first | omega | (simp; omega)) (.cells #[.int .i64 s0, .int .i64 s1, .int .i64 s2, .int .i64 s3, .int .i64 s4, .int .i64 s5] 25))).trans (hb_v66.mono (by first | omega | (simp; omega)))
    clear cA_v63 cB_v63 cC_v63 hb_v66 y64_0 y64_1 y64_2 y64_3 y64_4 y64_5 y65_0 y65_1 y65_2 y65_3 y65_4 y65_5 hw_v63 hs_v66
    obtain ⟨ET, hET⟩ : ∃ E, v66.heap.size = E := ⟨_, rfl⟩
    have ld67 : (v66.alloc (.cells #[.int .i64 s0, .int .i64 s1, .int .i64 s2, .int .i64 s3, .int .i64 s4, .int .i64 s5] 25)).heap[ES]? = some (.cells #[.int .i64 s0, .int .i64 s1, .int .i64 s2, .int .i64 s3, .int .i64 s4, .int .i64 s5] 25) := (heap_old (o := .cells #[.int .i64 s0, .int .i64 s1, .int .i64 s2, .int .i64 s3, .int .i64 s4, .int .i64 s5] 25) cS_v66)
    have y67_0 := cell6_0 ld67
    have y67_1 := cell6_1 ld67
    have y67_2 := cell6_2 ld67
    have y67_3 := cell6_3 ld67
    have y67_4 := cell6_4 ld67
    have y67_5 := cell6_5 ld67
    clear ld67
    have ld68 : (v66.alloc (.cells #[.int .i64 s0, .int .i64 s1, .int .i64 s2, .int .i64 s3, .int .i64 s4, .int .i64 s5] 25)).heap[EB]? = some (.cells #[.int .i64 t0, .int .i64 t1, .int .i64 t2, .int .i64 t3, .int .i64 t4, .int .i64 t5] 25) := (heap_old (o := .cells #[.int .i64 s0, .int .i64 s1, .int .i64 s2, .int .i64 s3, .int .i64 s4, .int .i64 s5] 25) cB_v66)
    have y68_0 := cell6_0 ld68
    have y68_1 := cell6_1 ld68
    have y68_2 := cell6_2 ld68
    have y68_3 := cell6_3 ld68
    have y68_4 := cell6_4 ld68
    have y68_5 := cell6_5 ld68
    clear ld68
    go_wp2_with fail
    refine (BK.out _).mono ?_
    rintro e v69 ⟨rfl, hb_v69⟩
    have hs_v69 := hw_v66.size
    have cA_v69 : v69.heap[EA]? = some (.cells #[.int .i64 p0, .int .i64 p1, .int .i64 p2, .int .i64 p3, .int .i64 p4, .int .i64 p5] 25) := (hb_v69.block (EA) (Array.getElem?_eq_some_iff.1 (show (v66.alloc (.cells #[.int .i64 s0, .int .i64 s1, .int .i64 s2, .int .i64 s3, .int .i64 s4, .int .i64 s5] 25)).heap[EA]? = some (.cells #[.int .i64 p0, .int .i64 p1, .int .i64 p2, .int .i64 p3, .int .i64 p4, .int .i64 p5] 25) from (heap_old (o := .cells #[.int .i64 s0, .int .i64 s1, .int .i64 s2, .int .i64 s3, .int .i64 s4, .int .i64 s5] 25) cA_v66))).1).trans (heap_old (o := .cells #[.int .i64 s0, .int .i64 s1, .int .i64 s2, .int .i64 s3, .int .i64 s4, .int .i64 s5] 25) cA_v66)
    have cB_v69 : v69.heap[EB]? = some (.cells #[.int .i64 t0, .int .i64 t1, .int .i64 t2, .int .i64 t3, .int .i64 t4, .int .i64 t5] 25) := (hb_v69.block (EB) (Array.getElem?_eq_some_iff.1 (show (v66.alloc (.cells #[.int .i64 s0, .int .i64 s1, .int .i64 s2, .int .i64 s3, .int .i64 s4, .int .i64 s5] 25)).heap[EB]? = some (.cells #[.int .i64 t0, .int .i64 t1, .int .i64 t2, .int .i64 t3, .int .i64 t4, .int .i64 t5] 25) from (heap_old (o := .cells #[.int .i64 s0, .int .i64 s1, .int .i64 s2, .int .i64 s3, .int .i64 s4, .int .i64 s5] 25) cB_v66))).1).trans (heap_old (o := .cells #[.int .i64 s0, .int .i64 s1, .int .i64 s2, .int .i64 s3, .int .i64 s4, .int .i64 s5] 25) cB_v66)
    have cC_v69 : v69.heap[EC]? = some (.cells #[.int .i64 r0, .int .i64 r1, .int .i64 r2, .int .i64 r3, .int .i64 r4, .int .i64 r5] 25) := (hb_v69.block (EC) (Array.getElem?_eq_some_iff.1 (show (v66.alloc (.cells #[.int .i64 s0, .int .i64 s1, .int .i64 s2, .int .i64 s3, .int .i64 s4, .int .i64 s5] 25)).heap[EC]? = some (.cells #[.int .i64 r0, .int .i64 r1, .int .i64 r2, .int .i64 r3, .int .i64 r4, .int .i64 r5] 25) from (heap_old (o := .cells #[.int .i64 s0, .int .i64 s1, .int .i64 s2, .int .i64 s3, .int .i64 s4, .int .i64 s5] 25) cC_v66))).1).trans (heap_old (o := .cells #[.int .i64 s0, .int .i64 s1, .int .i64 s2, .int .i64 s3, .int .i64 s4, .int .i64 s5] 25) cC_v66)
    have cS_v69 : v69.heap[ES]? = some (.cells #[.int .i64 s0, .int .i64 s1, .int .i64 s2, .int .i64 s3, .int .i64 s4, .int .i64 s5] 25) := (hb_v69.block (ES) (Array.getElem?_eq_some_iff.1 (show (v66.alloc (.cells #[.int .i64 s0, .int .i64 s1, .int .i64 s2, .int .i64 s3, .int .i64 s4, .int .i64 s5] 25)).heap[ES]? = some (.cells #[.int .i64 s0, .int .i64 s1, .int .i64 s2, .int .i64 s3, .int .i64 s4, .int .i64 s5] 25) from (heap_old (o := .cells #[.int .i64 s0, .int .i64 s1, .int .i64 s2, .int .i64 s3, .int .i64 s4, .int .i64 s5] 25) cS_v66))).1).trans (heap_old (o := .cells #[.int .i64 s0, .int .i64 s1, .int .i64 s2, .int .i64 s3, .int .i64 s4, .int .i64 s5] 25) cS_v66)
    have cT_v69 : v69.heap[ET]? = some (.cells #[.int .i64 s0, .int .i64 s1, .int .i64 s2, .int .i64 s3, .int .i64 s4, .int .i64 s5] 25) := (hb_v69.block (ET) (Array.getElem?_eq_some_iff.1 (show (v66.alloc (.cells #[.int .i64 s0, .int .i64 s1, .int .i64 s2, .int .i64 s3, .int .i64 s4, .int .i64 s5] 25)).heap[ET]? = some (.cells #[.int .i64 s0, .int .i64 s1, .int .i64 s2, .int .i64 s3, .int .i64 s4, .int .i64 s5] 25) from (heap_new (by first | omega | (simp; omega))))).1).trans (heap_new (by first | omega | (simp; omega)))
    have hw_v69 : Below D w v69 := ((hw_v66.alloc (by have := hw_v66.size; first | omega | (simp; omega)) (.cells #[.int .i64 s0, .int .i64 s1, .int .i64 s2, .int .i64 s3, .int .i64 s4, .int .i64 s5] 25))).trans (hb_v69.mono (by first | omega | (simp; omega)))
    clear cA_v66 cB_v66 cC_v66 cS_v66 hb_v69 y67_0 y67_1 y67_2 y67_3 y67_4 y67_5 y68_0 y68_1 y68_2 y68_3 y68_4 y68_5 hw_v66 hs_v69
    obtain ⟨EK, hEK⟩ : ∃ E, v69.heap.size = E := ⟨_, rfl⟩
    have ld70 : (v69.alloc (.cells #[.int .i64 p0, .int .i64 p1, .int .i64 p2, .int .i64 p3, .int .i64 p4, .int .i64 p5] 25)).heap[EA]? = some (.cells #[.int .i64 p0, .int .i64 p1, .int .i64 p2, .int .i64 p3, .int .i64 p4, .int .i64 p5] 25) := (heap_old (o := .cells #[.int .i64 p0, .int .i64 p1, .int .i64 p2, .int .i64 p3, .int .i64 p4, .int .i64 p5] 25) cA_v69)
    have y70_0 := cell6_0 ld70
    have y70_1 := cell6_1 ld70
    have y70_2 := cell6_2 ld70
    have y70_3 := cell6_3 ld70
    have y70_4 := cell6_4 ld70
    have y70_5 := cell6_5 ld70
    clear ld70
    have ld71 : (v69.alloc (.cells #[.int .i64 p0, .int .i64 p1, .int .i64 p2, .int .i64 p3, .int .i64 p4, .int .i64 p5] 25)).heap[EB]? = some (.cells #[.int .i64 t0, .int .i64 t1, .int .i64 t2, .int .i64 t3, .int .i64 t4, .int .i64 t5] 25) := (heap_old (o := .cells #[.int .i64 p0, .int .i64 p1, .int .i64 p2, .int .i64 p3, .int .i64 p4, .int .i64 p5] 25) cB_v69)
    have y71_0 := cell6_0 ld71
    have y71_1 := cell6_1 ld71
    have y71_2 := cell6_2 ld71
    have y71_3 := cell6_3 ld71
    have y71_4 := cell6_4 ld71
    have y71_5 := cell6_5 ld71
    clear ld71
    go_wp2_with fail
    refine (SB.out _).mono ?_
    rintro e v72 ⟨rfl, hb_v72⟩
    have hs_v72 := hw_v69.size
    have cA_v72 : v72.heap[EA]? = some (.cells #[.int .i64 p0, .int .i64 p1, .int .i64 p2, .int .i64 p3, .int .i64 p4, .int .i64 p5] 25) := (hb_v72.block (EA) (Array.getElem?_eq_some_iff.1 (show (v69.alloc (.cells #[.int .i64 p0, .int .i64 p1, .int .i64 p2, .int .i64 p3, .int .i64 p4, .int .i64 p5] 25)).heap[EA]? = some (.cells #[.int .i64 p0, .int .i64 p1, .int .i64 p2, .int .i64 p3, .int .i64 p4, .int .i64 p5] 25) from (heap_old (o := .cells #[.int .i64 p0, .int .i64 p1, .int .i64 p2, .int .i64 p3, .int .i64 p4, .int .i64 p5] 25) cA_v69))).1).trans (heap_old (o := .cells #[.int .i64 p0, .int .i64 p1, .int .i64 p2, .int .i64 p3, .int .i64 p4, .int .i64 p5] 25) cA_v69)
    have cB_v72 : v72.heap[EB]? = some (.cells #[.int .i64 t0, .int .i64 t1, .int .i64 t2, .int .i64 t3, .int .i64 t4, .int .i64 t5] 25) := (hb_v72.block (EB) (Array.getElem?_eq_some_iff.1 (show (v69.alloc (.cells #[.int .i64 p0, .int .i64 p1, .int .i64 p2, .int .i64 p3, .int .i64 p4, .int .i64 p5] 25)).heap[EB]? = some (.cells #[.int .i64 t0, .int .i64 t1, .int .i64 t2, .int .i64 t3, .int .i64 t4, .int .i64 t5] 25) from (heap_old (o := .cells #[.int .i64 p0, .int .i64 p1, .int .i64 p2, .int .i64 p3, .int .i64 p4, .int .i64 p5] 25) cB_v69))).1).trans (heap_old (o := .cells #[.int .i64 p0, .int .i64 p1, .int .i64 p2, .int .i64 p3, .int .i64 p4, .int .i64 p5] 25) cB_v69)
    have cC_v72 : v72.heap[EC]? = some (.cells #[.int .i64 r0, .int .i64 r1, .int .i64 r2, .int .i64 r3, .int .i64 r4, .int .i64 r5] 25) := (hb_v72.block (EC) (Array.getElem?_eq_some_iff.1 (show (v69.alloc (.cells #[.int .i64 p0, .int .i64 p1, .int .i64 p2, .int .i64 p3, .int .i64 p4, .int .i64 p5] 25)).heap[EC]? = some (.cells #[.int .i64 r0, .int .i64 r1, .int .i64 r2, .int .i64 r3, .int .i64 r4, .int .i64 r5] 25) from (heap_old (o := .cells #[.int .i64 p0, .int .i64 p1, .int .i64 p2, .int .i64 p3, .int .i64 p4, .int .i64 p5] 25) cC_v69))).1).trans (heap_old (o := .cells #[.int .i64 p0, .int .i64 p1, .int .i64 p2, .int .i64 p3, .int .i64 p4, .int .i64 p5] 25) cC_v69)
    have cS_v72 : v72.heap[ES]? = some (.cells #[.int .i64 s0, .int .i64 s1, .int .i64 s2, .int .i64 s3, .int .i64 s4, .int .i64 s5] 25) := (hb_v72.block (ES) (Array.getElem?_eq_some_iff.1 (show (v69.alloc (.cells #[.int .i64 p0, .int .i64 p1, .int .i64 p2, .int .i64 p3, .int .i64 p4, .int .i64 p5] 25)).heap[ES]? = some (.cells #[.int .i64 s0, .int .i64 s1, .int .i64 s2, .int .i64 s3, .int .i64 s4, .int .i64 s5] 25) from (heap_old (o := .cells #[.int .i64 p0, .int .i64 p1, .int .i64 p2, .int .i64 p3, .int .i64 p4, .int .i64 p5] 25) cS_v69))).1).trans (heap_old (o := .cells #[.int .i64 p0, .int .i64 p1, .int .i64 p2, .int .i64 p3, .int .i64 p4, .int .i64 p5] 25) cS_v69)
    have cT_v72 : v72.heap[ET]? = some (.cells #[.int .i64 s0, .int .i64 s1, .int .i64 s2, .int .i64 s3, .int .i64 s4, .int .i64 s5] 25) := (hb_v72.block (ET) (Array.getElem?_eq_some_iff.1 (show (v69.alloc (.cells #[.int .i64 p0, .int .i64 p1, .int .i64 p2, .int .i64 p3, .int .i64 p4, .int .i64 p5] 25)).heap[ET]? = some (.cells #[.int .i64 s0, .int .i64 s1, .int .i64 s2, .int .i64 s3, .int .i64 s4, .int .i64 s5] 25) from (heap_old (o := .cells #[.int .i64 p0, .int .i64 p1, .int .i64 p2, .int .i64 p3, .int .i64 p4, .int .i64 p5] 25) cT_v69))).1).trans (heap_old (o := .cells #[.int .i64 p0, .int .i64 p1, .int .i64 p2, .int .i64 p3, .int .i64 p4, .int .i64 p5] 25) cT_v69)
    have cK_v72 : v72.heap[EK]? = some (.cells #[.int .i64 p0, .int .i64 p1, .int .i64 p2, .int .i64 p3, .int .i64 p4, .int .i64 p5] 25) := (hb_v72.block (EK) (Array.getElem?_eq_some_iff.1 (show (v69.alloc (.cells #[.int .i64 p0, .int .i64 p1, .int .i64 p2, .int .i64 p3, .int .i64 p4, .int .i64 p5] 25)).heap[EK]? = some (.cells #[.int .i64 p0, .int .i64 p1, .int .i64 p2, .int .i64 p3, .int .i64 p4, .int .i64 p5] 25) from (heap_new (by first | omega | (simp; omega))))).1).trans (heap_new (by first | omega | (simp; omega)))
    have hw_v72 : Below D w v72 := ((hw_v69.alloc (by have := hw_v69.size; first | omega | (simp; omega)) (.cells #[.int .i64 p0, .int .i64 p1, .int .i64 p2, .int .i64 p3, .int .i64 p4, .int .i64 p5] 25))).trans (hb_v72.mono (by first | omega | (simp; omega)))
    clear cA_v69 cB_v69 cC_v69 cS_v69 cT_v69 hb_v72 y70_0 y70_1 y70_2 y70_3 y70_4 y70_5 y71_0 y71_1 y71_2 y71_3 y71_4 y71_5 hw_v69 hs_v72
    obtain ⟨EQ, hEQ⟩ : ∃ E, v72.heap.size = E := ⟨_, rfl⟩
    have G2 : Gi (v72.alloc (.cells #[.int .i64 q0, .int .i64 q1, .int .i64 q2, .int .i64 q3, .int .i64 q4, .int .i64 q5] 25)) := G.below (by rw [hD]; exact (hw_v72.alloc (by have := hw_v72.size; first | omega | (simp; omega)) (.cells #[.int .i64 q0, .int .i64 q1, .int .i64 q2, .int .i64 q3, .int .i64 q4, .int .i64 q5] 25)))
    have ld73 : (v72.alloc (.cells #[.int .i64 q0, .int .i64 q1, .int .i64 q2, .int .i64 q3, .int .i64 q4, .int .i64 q5] 25)).heap[EA]? = some (.cells #[.int .i64 p0, .int .i64 p1, .int .i64 p2, .int .i64 p3, .int .i64 p4, .int .i64 p5] 25) := (heap_old (o := .cells #[.int .i64 q0, .int .i64 q1, .int .i64 q2, .int .i64 q3, .int .i64 q4, .int .i64 q5] 25) cA_v72)
    have y73_0 := cell6_0 ld73
    have y73_1 := cell6_1 ld73
    have y73_2 := cell6_2 ld73
    have y73_3 := cell6_3 ld73
    have y73_4 := cell6_4 ld73
    have y73_5 := cell6_5 ld73
    clear ld73
    have ld74 : (v72.alloc (.cells #[.int .i64 q0, .int .i64 q1, .int .i64 q2, .int .i64 q3, .int .i64 q4, .int .i64 q5] 25)).heap[EB]? = some (.cells #[.int .i64 t0, .int .i64 t1, .int .i64 t2, .int .i64 t3, .int .i64 t4, .int .i64 t5] 25) := (heap_old (o := .cells #[.int .i64 q0, .int .i64 q1, .int .i64 q2, .int .i64 q3, .int .i64 q4, .int .i64 q5] 25) cB_v72)
    have y74_0 := cell6_0 ld74
    have y74_1 := cell6_1 ld74
    have y74_2 := cell6_2 ld74
    have y74_3 := cell6_3 ld74
    have y74_4 := cell6_4 ld74
    have y74_5 := cell6_5 ld74
    clear ld74
    go_wp2_with fail
    refine (CM.out _ G2).mono ?_
    rintro e v75 ⟨rfl, hb_v75⟩
    have hs_v75 := hw_v72.size
    have cA_v75 : v75.heap[EA]? = some (.cells #[.int .i64 p0, .int .i64 p1, .int .i64 p2, .int .i64 p3, .int .i64 p4, .int .i64 p5] 25) := (hb_v75.block (EA) (Array.getElem?_eq_some_iff.1 (show (v72.alloc (.cells #[.int .i64 q0, .int .i64 q1, .int .i64 q2, .int .i64 q3, .int .i64 q4, .int .i64 q5] 25)).heap[EA]? = some (.cells #[.int .i64 p0, .int .i64 p1, .int .i64 p2, .int .i64 p3, .int .i64 p4, .int .i64 p5] 25) from (heap_old (o := .cells #[.int .i64 q0, .int .i64 q1, .int .i64 q2, .int .i64 q3, .int .i64 q4, .int .i64 q5] 25) cA_v72))).1).trans (heap_old (o := .cells #[.int .i64 q0, .int .i64 q1, .int .i64 q2, .int .i64 q3, .int .i64 q4, .int .i64 q5] 25) cA_v72)
    have cB_v75 : v75.heap[EB]? = some (.cells #[.int .i64 t0, .int .i64 t1, .int .i64 t2, .int .i64 t3, .int .i64 t4, .int .i64 t5] 25) := (hb_v75.block (EB) (Array.getElem?_eq_some_iff.1 (show (v72.alloc (.cells #[.int .i64 q0, .int .i64 q1, .int .i64 q2, .int .i64 q3, .int .i64 q4, .int .i64 q5] 25)).heap[EB]? = some (.cells #[.int .i64 t0, .int .i64 t1, .int .i64 t2, .int .i64 t3, .int .i64 t4, .int .i64 t5] 25) from (heap_old (o := .cells #[.int .i64 q0, .int .i64 q1, .int .i64 q2, .int .i64 q3, .int .i64 q4, .int .i64 q5] 25) cB_v72))).1).trans (heap_old (o := .cells #[.int .i64 q0, .int .i64 q1, .int .i64 q2, .int .i64 q3, .int .i64 q4, .int .i64 q5] 25) cB_v72)
    have cC_v75 : v75.heap[EC]? = some (.cells #[.int .i64 r0, .int .i64 r1, .int .i64 r2, .int .i64 r3, .int .i64 r4, .int .i64 r5] 25) := (hb_v75.block (EC) (Array.getElem?_eq_some_iff.1 (show (v72.alloc (.cells #[.int .i64 q0, .int .i64 q1, .int .i64 q2, .int .i64 q3, .int .i64 q4, .int .i64 q5] 25)).heap[EC]? = some (.cells #[.int .i64 r0, .int .i64 r1, .int .i64 r2, .int .i64 r3, .int .i64 r4, .int .i64 r5] 25) from (heap_old (o := .cells #[.int .i64 q0, .int .i64 q1, .int .i64 q2, .int .i64 q3, .int .i64 q4, .int .i64 q5] 25) cC_v72))).1).trans (heap_old (o := .cells #[.int .i64 q0, .int .i64 q1, .int .i64 q2, .int .i64 q3, .int .i64 q4, .int .i64 q5] 25) cC_v72)
    have cS_v75 : v75.heap[ES]? = some (.cells #[.int .i64 s0, .int .i64 s1, .int .i64 s2, .int .i64 s3, .int .i64 s4, .int .i64 s5] 25) := (hb_v75.block (ES) (Array.getElem?_eq_some_iff.1 (show (v72.alloc (.cells #[.int .i64 q0, .int .i64 q1, .int .i64 q2, .int .i64 q3, .int .i64 q4, .int .i64 q5] 25)).heap[ES]? = some (.cells #[.int .i64 s0, .int .i64 s1, .int .i64 s2, .int .i64 s3, .int .i64 s4, .int .i64 s5] 25) from (heap_old (o := .cells #[.int .i64 q0, .int .i64 q1, .int .i64 q2, .int .i64 q3, .int .i64 q4, .int .i64 q5] 25) cS_v72))).1).trans (heap_old (o := .cells #[.int .i64 q0, .int .i64 q1, .int .i64 q2, .int .i64 q3, .int .i64 q4, .int .i64 q5] 25) cS_v72)
    have cT_v75 : v75.heap[ET]? = some (.cells #[.int .i64 s0, .int .i64 s1, .int .i64 s2, .int .i64 s3, .int .i64 s4, .int .i64 s5] 25) := (hb_v75.block (ET) (Array.getElem?_eq_some_iff.1 (show (v72.alloc (.cells #[.int .i64 q0, .int .i64 q1, .int .i64 q2, .int .i64 q3, .int .i64 q4, .int .i64 q5] 25)).heap[ET]? = some (.cells #[.int .i64 s0, .int .i64 s1, .int .i64 s2, .int .i64 s3, .int .i64 s4, .int .i64 s5] 25) from (heap_old (o := .cells #[.int .i64 q0, .int .i64 q1, .int .i64 q2, .int .i64 q3, .int .i64 q4, .int .i64 q5] 25) cT_v72))).1).trans (heap_old (o := .cells #[.int .i64 q0, .int .i64 q1, .int .i64 q2, .int .i64 q3, .int .i64 q4, .int .i64 q5] 25) cT_v72)
    have cK_v75 : v75.heap[EK]? = some (.cells #[.int .i64 p0, .int .i64 p1, .int .i64 p2, .int .i64 p3, .int .i64 p4, .int .i64 p5] 25) := (hb_v75.block (EK) (Array.getElem?_eq_some_iff.1 (show (v72.alloc (.cells #[.int .i64 q0, .int .i64 q1, .int .i64 q2, .int .i64 q3, .int .i64 q4, .int .i64 q5] 25)).heap[EK]? = some (.cells #[.int .i64 p0, .int .i64 p1, .int .i64 p2, .int .i64 p3, .int .i64 p4, .int .i64 p5] 25) from (heap_old (o := .cells #[.int .i64 q0, .int .i64 q1, .int .i64 q2, .int .i64 q3, .int .i64 q4, .int .i64 q5] 25) cK_v72))).1).trans (heap_old (o := .cells #[.int .i64 q0, .int .i64 q1, .int .i64 q2, .int .i64 q3, .int .i64 q4, .int .i64 q5] 25) cK_v72)
    have cQ_v75 : v75.heap[EQ]? = some (.cells #[.int .i64 q0, .int .i64 q1, .int .i64 q2, .int .i64 q3, .int .i64 q4, .int .i64 q5] 25) := (hb_v75.block (EQ) (Array.getElem?_eq_some_iff.1 (show (v72.alloc (.cells #[.int .i64 q0, .int .i64 q1, .int .i64 q2, .int .i64 q3, .int .i64 q4, .int .i64 q5] 25)).heap[EQ]? = some (.cells #[.int .i64 q0, .int .i64 q1, .int .i64 q2, .int .i64 q3, .int .i64 q4, .int .i64 q5] 25) from (heap_new (by first | omega | (simp; omega))))).1).trans (heap_new (by first | omega | (simp; omega)))
    have hw_v75 : Below D w v75 := ((hw_v72.alloc (by have := hw_v72.size; first | omega | (simp; omega)) (.cells #[.int .i64 q0, .int .i64 q1, .int .i64 q2, .int .i64 q3, .int .i64 q4, .int .i64 q5] 25))).trans (hb_v75.mono (by first | omega | (simp; omega)))
    clear cA_v72 cB_v72 cC_v72 cS_v72 cT_v72 cK_v72 hb_v75 y73_0 y73_1 y73_2 y73_3 y73_4 y73_5 y74_0 y74_1 y74_2 y74_3 y74_4 y74_5 hw_v72 hs_v75
    have G3 : Gi v75 := G.below (by rw [hD]; exact hw_v75)
    have ld76 : v75.heap[EQ]? = some (.cells #[.int .i64 q0, .int .i64 q1, .int .i64 q2, .int .i64 q3, .int .i64 q4, .int .i64 q5] 25) := cQ_v75
    have y76_0 := cell6_0 ld76
    have y76_1 := cell6_1 ld76
    have y76_2 := cell6_2 ld76
    have y76_3 := cell6_3 ld76
    have y76_4 := cell6_4 ld76
    have y76_5 := cell6_5 ld76
    clear ld76
    go_wp2_with fail
    refine (SG.out _ G3).mono ?_
    rintro e v77 ⟨rfl, hb_v77⟩
    have hs_v77 := hw_v75.size
    have cA_v77 : v77.heap[EA]? = some (.cells #[.int .i64 p0, .int .i64 p1, .int .i64 p2, .int .i64 p3, .int .i64 p4, .int .i64 p5] 25) := (hb_v77.block (EA) (Array.getElem?_eq_some_iff.1 (show v75.heap[EA]? = some (.cells #[.int .i64 p0, .int .i64 p1, .int .i64 p2, .int .i64 p3, .int .i64 p4, .int .i64 p5] 25) from cA_v75)).1).trans cA_v75
    have cB_v77 : v77.heap[EB]? = some (.cells #[.int .i64 t0, .int .i64 t1, .int .i64 t2, .int .i64 t3, .int .i64 t4, .int .i64 t5] 25) := (hb_v77.block (EB) (Array.getElem?_eq_some_iff.1 (show v75.heap[EB]? = some (.cells #[.int .i64 t0, .int .i64 t1, .int .i64 t2, .int .i64 t3, .int .i64 t4, .int .i64 t5] 25) from cB_v75)).1).trans cB_v75
    have cC_v77 : v77.heap[EC]? = some (.cells #[.int .i64 r0, .int .i64 r1, .int .i64 r2, .int .i64 r3, .int .i64 r4, .int .i64 r5] 25) := (hb_v77.block (EC) (Array.getElem?_eq_some_iff.1 (show v75.heap[EC]? = some (.cells #[.int .i64 r0, .int .i64 r1, .int .i64 r2, .int .i64 r3, .int .i64 r4, .int .i64 r5] 25) from cC_v75)).1).trans cC_v75
    have cS_v77 : v77.heap[ES]? = some (.cells #[.int .i64 s0, .int .i64 s1, .int .i64 s2, .int .i64 s3, .int .i64 s4, .int .i64 s5] 25) := (hb_v77.block (ES) (Array.getElem?_eq_some_iff.1 (show v75.heap[ES]? = some (.cells #[.int .i64 s0, .int .i64 s1, .int .i64 s2, .int .i64 s3, .int .i64 s4, .int .i64 s5] 25) from cS_v75)).1).trans cS_v75
    have cT_v77 : v77.heap[ET]? = some (.cells #[.int .i64 s0, .int .i64 s1, .int .i64 s2, .int .i64 s3, .int .i64 s4, .int .i64 s5] 25) := (hb_v77.block (ET) (Array.getElem?_eq_some_iff.1 (show v75.heap[ET]? = some (.cells #[.int .i64 s0, .int .i64 s1, .int .i64 s2, .int .i64 s3, .int .i64 s4, .int .i64 s5] 25) from cT_v75)).1).trans cT_v75
    have cK_v77 : v77.heap[EK]? = some (.cells #[.int .i64 p0, .int .i64 p1, .int .i64 p2, .int .i64 p3, .int .i64 p4, .int .i64 p5] 25) := (hb_v77.block (EK) (Array.getElem?_eq_some_iff.1 (show v75.heap[EK]? = some (.cells #[.int .i64 p0, .int .i64 p1, .int .i64 p2, .int .i64 p3, .int .i64 p4, .int .i64 p5] 25) from cK_v75)).1).trans cK_v75
    have cQ_v77 : v77.heap[EQ]? = some (.cells #[.int .i64 q0, .int .i64 q1, .int .i64 q2, .int .i64 q3, .int .i64 q4, .int .i64 q5] 25) := (hb_v77.block (EQ) (Array.getElem?_eq_some_iff.1 (show v75.heap[EQ]? = some (.cells #[.int .i64 q0, .int .i64 q1, .int .i64 q2, .int .i64 q3, .int .i64 q4, .int .i64 q5] 25) from cQ_v75)).1).trans cQ_v75
    have hw_v77 : Below D w v77 := (hw_v75).trans (hb_v77.mono (by first | omega | (simp; omega)))
    clear cA_v75 cB_v75 cC_v75 cS_v75 cT_v75 cK_v75 cQ_v75 hb_v77 y76_0 y76_1 y76_2 y76_3 y76_4 y76_5 hw_v75 hs_v77
    have ld78 : v77.heap[ES]? = some (.cells #[.int .i64 s0, .int .i64 s1, .int .i64 s2, .int .i64 s3, .int .i64 s4, .int .i64 s5] 25) := cS_v77
    have y78_0 := cell6_0 ld78
    have y78_1 := cell6_1 ld78
    have y78_2 := cell6_2 ld78
    have y78_3 := cell6_3 ld78
    have y78_4 := cell6_4 ld78
    have y78_5 := cell6_5 ld78
    clear ld78
    have ld79 : v77.heap[ET]? = some (.cells #[.int .i64 s0, .int .i64 s1, .int .i64 s2, .int .i64 s3, .int .i64 s4, .int .i64 s5] 25) := cT_v77
    have y79_0 := cell6_0 ld79
    have y79_1 := cell6_1 ld79
    have y79_2 := cell6_2 ld79
    have y79_3 := cell6_3 ld79
    have y79_4 := cell6_4 ld79
    have y79_5 := cell6_5 ld79
    clear ld79
    have ld80 : v77.heap[EK]? = some (.cells #[.int .i64 p0, .int .i64 p1, .int .i64 p2, .int .i64 p3, .int .i64 p4, .int .i64 p5] 25) := cK_v77
    have y80_0 := cell6_0 ld80
    have y80_1 := cell6_1 ld80
    have y80_2 := cell6_2 ld80
    have y80_3 := cell6_3 ld80
    have y80_4 := cell6_4 ld80
    have y80_5 := cell6_5 ld80
    clear ld80
    have ld81 : v77.heap[EA]? = some (.cells #[.int .i64 p0, .int .i64 p1, .int .i64 p2, .int .i64 p3, .int .i64 p4, .int .i64 p5] 25) := cA_v77
    have y81_0 := cell6_0 ld81
    have y81_1 := cell6_1 ld81
    have y81_2 := cell6_2 ld81
    have y81_3 := cell6_3 ld81
    have y81_4 := cell6_4 ld81
    have y81_5 := cell6_5 ld81
    clear ld81
    clear AB BA BK SB CM SG
    have ld82 : v77.heap[EC]? = some (.cells #[.int .i64 r0, .int .i64 r1, .int .i64 r2, .int .i64 r3, .int .i64 r4, .int .i64 r5] 25) := cC_v77
    have y82_0 := cell6_0 ld82
    have y82_1 := cell6_1 ld82
    have y82_2 := cell6_2 ld82
    have y82_3 := cell6_3 ld82
    have y82_4 := cell6_4 ld82
    have y82_5 := cell6_5 ld82
    clear ld82
    go_wp2_with fail
    refine (XX.out _).mono ?_
    rintro e v83 ⟨rfl, hb_v83⟩
    have hs_v83 := hw_v77.size
    have cA_v83 : v83.heap[EA]? = some (.cells #[.int .i64 p0, .int .i64 p1, .int .i64 p2, .int .i64 p3, .int .i64 p4, .int .i64 p5] 25) := (hb_v83.block (EA) (Array.getElem?_eq_some_iff.1 (show v77.heap[EA]? = some (.cells #[.int .i64 p0, .int .i64 p1, .int .i64 p2, .int .i64 p3, .int .i64 p4, .int .i64 p5] 25) from cA_v77)).1).trans cA_v77
    have cB_v83 : v83.heap[EB]? = some (.cells #[.int .i64 t0, .int .i64 t1, .int .i64 t2, .int .i64 t3, .int .i64 t4, .int .i64 t5] 25) := (hb_v83.block (EB) (Array.getElem?_eq_some_iff.1 (show v77.heap[EB]? = some (.cells #[.int .i64 t0, .int .i64 t1, .int .i64 t2, .int .i64 t3, .int .i64 t4, .int .i64 t5] 25) from cB_v77)).1).trans cB_v77
    have cC_v83 : v83.heap[EC]? = some (.cells #[.int .i64 r0, .int .i64 r1, .int .i64 r2, .int .i64 r3, .int .i64 r4, .int .i64 r5] 25) := (hb_v83.block (EC) (Array.getElem?_eq_some_iff.1 (show v77.heap[EC]? = some (.cells #[.int .i64 r0, .int .i64 r1, .int .i64 r2, .int .i64 r3, .int .i64 r4, .int .i64 r5] 25) from cC_v77)).1).trans cC_v77
    have cS_v83 : v83.heap[ES]? = some (.cells #[.int .i64 s0, .int .i64 s1, .int .i64 s2, .int .i64 s3, .int .i64 s4, .int .i64 s5] 25) := (hb_v83.block (ES) (Array.getElem?_eq_some_iff.1 (show v77.heap[ES]? = some (.cells #[.int .i64 s0, .int .i64 s1, .int .i64 s2, .int .i64 s3, .int .i64 s4, .int .i64 s5] 25) from cS_v77)).1).trans cS_v77
    have cT_v83 : v83.heap[ET]? = some (.cells #[.int .i64 s0, .int .i64 s1, .int .i64 s2, .int .i64 s3, .int .i64 s4, .int .i64 s5] 25) := (hb_v83.block (ET) (Array.getElem?_eq_some_iff.1 (show v77.heap[ET]? = some (.cells #[.int .i64 s0, .int .i64 s1, .int .i64 s2, .int .i64 s3, .int .i64 s4, .int .i64 s5] 25) from cT_v77)).1).trans cT_v77
    have cK_v83 : v83.heap[EK]? = some (.cells #[.int .i64 p0, .int .i64 p1, .int .i64 p2, .int .i64 p3, .int .i64 p4, .int .i64 p5] 25) := (hb_v83.block (EK) (Array.getElem?_eq_some_iff.1 (show v77.heap[EK]? = some (.cells #[.int .i64 p0, .int .i64 p1, .int .i64 p2, .int .i64 p3, .int .i64 p4, .int .i64 p5] 25) from cK_v77)).1).trans cK_v77
    have cQ_v83 : v83.heap[EQ]? = some (.cells #[.int .i64 q0, .int .i64 q1, .int .i64 q2, .int .i64 q3, .int .i64 q4, .int .i64 q5] 25) := (hb_v83.block (EQ) (Array.getElem?_eq_some_iff.1 (show v77.heap[EQ]? = some (.cells #[.int .i64 q0, .int .i64 q1, .int .i64 q2, .int .i64 q3, .int .i64 q4, .int .i64 q5] 25) from cQ_v77)).1).trans cQ_v77
    have hw_v83 : Below D w v83 := (hw_v77).trans (hb_v83.mono (by first | omega | (simp; omega)))
    clear cA_v77 cB_v77 cC_v77 cS_v77 cT_v77 cK_v77 cQ_v77 hb_v83 y78_0 y78_1 y78_2 y78_3 y78_4 y78_5 y79_0 y79_1 y79_2 y79_3 y79_4 y79_5 y80_0 y80_1 y80_2 y80_3 y80_4 y80_5 y81_0 y81_1 y81_2 y81_3 y81_4 y81_5 y82_0 y82_1 y82_2 y82_3 y82_4 y82_5 hw_v77 hs_v83
    obtain ⟨EX, hEX⟩ : ∃ E, v83.heap.size = E := ⟨_, rfl⟩
    have ld84 : (v83.alloc (.cells #[.int .i64 x0, .int .i64 x1, .int .i64 x2, .int .i64 x3, .int .i64 x4, .int .i64 x5] 25)).heap[EB]? = some (.cells #[.int .i64 t0, .int .i64 t1, .int .i64 t2, .int .i64 t3, .int .i64 t4, .int .i64 t5] 25) := (heap_old (o := .cells #[.int .i64 x0, .int .i64 x1, .int .i64 x2, .int .i64 x3, .int .i64 x4, .int .i64 x5] 25) cB_v83)
    have y84_0 := cell6_0 ld84
    have y84_1 := cell6_1 ld84
    have y84_2 := cell6_2 ld84
    have y84_3 := cell6_3 ld84
    have y84_4 := cell6_4 ld84
    have y84_5 := cell6_5 ld84
    clear ld84
    have ld85 : (v83.alloc (.cells #[.int .i64 x0, .int .i64 x1, .int .i64 x2, .int .i64 x3, .int .i64 x4, .int .i64 x5] 25)).heap[EC]? = some (.cells #[.int .i64 r0, .int .i64 r1, .int .i64 r2, .int .i64 r3, .int .i64 r4, .int .i64 r5] 25) := (heap_old (o := .cells #[.int .i64 x0, .int .i64 x1, .int .i64 x2, .int .i64 x3, .int .i64 x4, .int .i64 x5] 25) cC_v83)
    have y85_0 := cell6_0 ld85
    have y85_1 := cell6_1 ld85
    have y85_2 := cell6_2 ld85
    have y85_3 := cell6_3 ld85
    have y85_4 := cell6_4 ld85
    have y85_5 := cell6_5 ld85
    clear ld85
    go_wp2_with fail
    refine (YY.out _).mono ?_
    rintro e v86 ⟨rfl, hb_v86⟩
    have hs_v86 := hw_v83.size
    have cA_v86 : v86.heap[EA]? = some (.cells #[.int .i64 p0, .int .i64 p1, .int .i64 p2, .int .i64 p3, .int .i64 p4, .int .i64 p5] 25) := (hb_v86.block (EA) (Array.getElem?_eq_some_iff.1 (show (v83.alloc (.cells #[.int .i64 x0, .int .i64 x1, .int .i64 x2, .int .i64 x3, .int .i64 x4, .int .i64 x5] 25)).heap[EA]? = some (.cells #[.int .i64 p0, .int .i64 p1, .int .i64 p2, .int .i64 p3, .int .i64 p4, .int .i64 p5] 25) from (heap_old (o := .cells #[.int .i64 x0, .int .i64 x1, .int .i64 x2, .int .i64 x3, .int .i64 x4, .int .i64 x5] 25) cA_v83))).1).trans (heap_old (o := .cells #[.int .i64 x0, .int .i64 x1, .int .i64 x2, .int .i64 x3, .int .i64 x4, .int .i64 x5] 25) cA_v83)
    have cB_v86 : v86.heap[EB]? = some (.cells #[.int .i64 t0, .int .i64 t1, .int .i64 t2, .int .i64 t3, .int .i64 t4, .int .i64 t5] 25) := (hb_v86.block (EB) (Array.getElem?_eq_some_iff.1 (show (v83.alloc (.cells #[.int .i64 x0, .int .i64 x1, .int .i64 x2, .int .i64 x3, .int .i64 x4, .int .i64 x5] 25)).heap[EB]? = some (.cells #[.int .i64 t0, .int .i64 t1, .int .i64 t2, .int .i64 t3, .int .i64 t4, .int .i64 t5] 25) from (heap_old (o := .cells #[.int .i64 x0, .int .i64 x1, .int .i64 x2, .int .i64 x3, .int .i64 x4, .int .i64 x5] 25) cB_v83))).1).trans (heap_old (o := .cells #[.int .i64 x0, .int .i64 x1, .int .i64 x2, .int .i64 x3, .int .i64 x4, .int .i64 x5] 25) cB_v83)
    have cC_v86 : v86.heap[EC]? = some (.cells #[.int .i64 r0, .int .i64 r1, .int .i64 r2, .int .i64 r3, .int .i64 r4, .int .i64 r5] 25) := (hb_v86.block (EC) (Array.getElem?_eq_some_iff.1 (show (v83.alloc (.cells #[.int .i64 x0, .int .i64 x1, .int .i64 x2, .int .i64 x3, .int .i64 x4, .int .i64 x5] 25)).heap[EC]? = some (.cells #[.int .i64 r0, .int .i64 r1, .int .i64 r2, .int .i64 r3, .int .i64 r4, .int .i64 r5] 25) from (heap_old (o := .cells #[.int .i64 x0, .int .i64 x1, .int .i64 x2, .int .i64 x3, .int .i64 x4, .int .i64 x5] 25) cC_v83))).1).trans (heap_old (o := .cells #[.int .i64 x0, .int .i64 x1, .int .i64 x2, .int .i64 x3, .int .i64 x4, .int .i64 x5] 25) cC_v83)
    have cS_v86 : v86.heap[ES]? = some (.cells #[.int .i64 s0, .int .i64 s1, .int .i64 s2, .int .i64 s3, .int .i64 s4, .int .i64 s5] 25) := (hb_v86.block (ES) (Array.getElem?_eq_some_iff.1 (show (v83.alloc (.cells #[.int .i64 x0, .int .i64 x1, .int .i64 x2, .int .i64 x3, .int .i64 x4, .int .i64 x5] 25)).heap[ES]? = some (.cells #[.int .i64 s0, .int .i64 s1, .int .i64 s2, .int .i64 s3, .int .i64 s4, .int .i64 s5] 25) from (heap_old (o := .cells #[.int .i64 x0, .int .i64 x1, .int .i64 x2, .int .i64 x3, .int .i64 x4, .int .i64 x5] 25) cS_v83))).1).trans (heap_old (o := .cells #[.int .i64 x0, .int .i64 x1, .int .i64 x2, .int .i64 x3, .int .i64 x4, .int .i64 x5] 25) cS_v83)
    have cT_v86 : v86.heap[ET]? = some (.cells #[.int .i64 s0, .int .i64 s1, .int .i64 s2, .int .i64 s3, .int .i64 s4, .int .i64 s5] 25) := (hb_v86.block (ET) (Array.getElem?_eq_some_iff.1 (show (v83.alloc (.cells #[.int .i64 x0, .int .i64 x1, .int .i64 x2, .int .i64 x3, .int .i64 x4, .int .i64 x5] 25)).heap[ET]? = some (.cells #[.int .i64 s0, .int .i64 s1, .int .i64 s2, .int .i64 s3, .int .i64 s4, .int .i64 s5] 25) from (heap_old (o := .cells #[.int .i64 x0, .int .i64 x1, .int .i64 x2, .int .i64 x3, .int .i64 x4, .int .i64 x5] 25) cT_v83))).1).trans (heap_old (o := .cells #[.int .i64 x0, .int .i64 x1, .int .i64 x2, .int .i64 x3, .int .i64 x4, .int .i64 x5] 25) cT_v83)
    have cK_v86 : v86.heap[EK]? = some (.cells #[.int .i64 p0, .int .i64 p1, .int .i64 p2, .int .i64 p3, .int .i64 p4, .int .i64 p5] 25) := (hb_v86.block (EK) (Array.getElem?_eq_some_iff.1 (show (v83.alloc (.cells #[.int .i64 x0, .int .i64 x1, .int .i64 x2, .int .i64 x3, .int .i64 x4, .int .i64 x5] 25)).heap[EK]? = some (.cells #[.int .i64 p0, .int .i64 p1, .int .i64 p2, .int .i64 p3, .int .i64 p4, .int .i64 p5] 25) from (heap_old (o := .cells #[.int .i64 x0, .int .i64 x1, .int .i64 x2, .int .i64 x3, .int .i64 x4, .int .i64 x5] 25) cK_v83))).1).trans (heap_old (o := .cells #[.int .i64 x0, .int .i64 x1, .int .i64 x2, .int .i64 x3, .int .i64 x4, .int .i64 x5] 25) cK_v83)
    have cQ_v86 : v86.heap[EQ]? = some (.cells #[.int .i64 q0, .int .i64 q1, .int .i64 q2, .int .i64 q3, .int .i64 q4, .int .i64 q5] 25) := (hb_v86.block (EQ) (Array.getElem?_eq_some_iff.1 (show (v83.alloc (.cells #[.int .i64 x0, .int .i64 x1, .int .i64 x2, .int .i64 x3, .int .i64 x4, .int .i64 x5] 25)).heap[EQ]? = some (.cells #[.int .i64 q0, .int .i64 q1, .int .i64 q2, .int .i64 q3, .int .i64 q4, .int .i64 q5] 25) from (heap_old (o := .cells #[.int .i64 x0, .int .i64 x1, .int .i64 x2, .int .i64 x3, .int .i64 x4, .int .i64 x5] 25) cQ_v83))).1).trans (heap_old (o := .cells #[.int .i64 x0, .int .i64 x1, .int .i64 x2, .int .i64 x3, .int .i64 x4, .int .i64 x5] 25) cQ_v83)
    have cX_v86 : v86.heap[EX]? = some (.cells #[.int .i64 x0, .int .i64 x1, .int .i64 x2, .int .i64 x3, .int .i64 x4, .int .i64 x5] 25) := (hb_v86.block (EX) (Array.getElem?_eq_some_iff.1 (show (v83.alloc (.cells #[.int .i64 x0, .int .i64 x1, .int .i64 x2, .int .i64 x3, .int .i64 x4, .int .i64 x5] 25)).heap[EX]? = some (.cells #[.int .i64 x0, .int .i64 x1, .int .i64 x2, .int .i64 x3, .int .i64 x4, .int .i64 x5] 25) from (heap_new (by first | omega | (simp; omega))))).1).trans (heap_new (by first | omega | (simp; omega)))
    have hw_v86 : Below D w v86 := ((hw_v83.alloc (by have := hw_v83.size; first | omega | (simp; omega)) (.cells #[.int .i64 x0, .int .i64 x1, .int .i64 x2, .int .i64 x3, .int .i64 x4, .int .i64 x5] 25))).trans (hb_v86.mono (by first | omega | (simp; omega)))
    clear cA_v83 cB_v83 cC_v83 cS_v83 cT_v83 cK_v83 cQ_v83 hb_v86 y84_0 y84_1 y84_2 y84_3 y84_4 y84_5 y85_0 y85_1 y85_2 y85_3 y85_4 y85_5 hw_v83 hs_v86
    obtain ⟨EY, hEY⟩ : ∃ E, v86.heap.size = E := ⟨_, rfl⟩
    have G4 : Gi (v86.alloc (.cells #[.int .i64 y0, .int .i64 y1, .int .i64 y2, .int .i64 y3, .int .i64 y4, .int .i64 y5] 25)) := G.below (by rw [hD]; exact (hw_v86.alloc (by have := hw_v86.size; first | omega | (simp; omega)) (.cells #[.int .i64 y0, .int .i64 y1, .int .i64 y2, .int .i64 y3, .int .i64 y4, .int .i64 y5] 25)))
    have ld87 : (v86.alloc (.cells #[.int .i64 y0, .int .i64 y1, .int .i64 y2, .int .i64 y3, .int .i64 y4, .int .i64 y5] 25)).heap[EX]? = some (.cells #[.int .i64 x0, .int .i64 x1, .int .i64 x2, .int .i64 x3, .int .i64 x4, .int .i64 x5] 25) := (heap_old (o := .cells #[.int .i64 y0, .int .i64 y1, .int .i64 y2, .int .i64 y3, .int .i64 y4, .int .i64 y5] 25) cX_v86)
    have y87_0 := cell6_0 ld87
    have y87_1 := cell6_1 ld87
    have y87_2 := cell6_2 ld87
    have y87_3 := cell6_3 ld87
    have y87_4 := cell6_4 ld87
    have y87_5 := cell6_5 ld87
    clear ld87
    have ld88 : (v86.alloc (.cells #[.int .i64 y0, .int .i64 y1, .int .i64 y2, .int .i64 y3, .int .i64 y4, .int .i64 y5] 25)).heap[EY]? = some (.cells #[.int .i64 y0, .int .i64 y1, .int .i64 y2, .int .i64 y3, .int .i64 y4, .int .i64 y5] 25) := (heap_new (by first | omega | (simp; omega)))
    have y88_0 := cell6_0 ld88
    have y88_1 := cell6_1 ld88
    have y88_2 := cell6_2 ld88
    have y88_3 := cell6_3 ld88
    have y88_4 := cell6_4 ld88
    have y88_5 := cell6_5 ld88
    clear ld88
    go_wp2_with fail
    refine (CX.out _ G4).mono ?_
    rintro e v89 ⟨rfl, hb_v89⟩
    have hs_v89 := hw_v86.size
    have cA_v89 : v89.heap[EA]? = some (.cells #[.int .i64 p0, .int .i64 p1, .int .i64 p2, .int .i64 p3, .int .i64 p4, .int .i64 p5] 25) := (hb_v89.block (EA) (Array.getElem?_eq_some_iff.1 (show (v86.alloc (.cells #[.int .i64 y0, .int .i64 y1, .int .i64 y2, .int .i64 y3, .int .i64 y4, .int .i64 y5] 25)).heap[EA]? = some (.cells #[.int .i64 p0, .int .i64 p1, .int .i64 p2, .int .i64 p3, .int .i64 p4, .int .i64 p5] 25) from (heap_old (o := .cells #[.int .i64 y0, .int .i64 y1, .int .i64 y2, .int .i64 y3, .int .i64 y4, .int .i64 y5] 25) cA_v86))).1).trans (heap_old (o := .cells #[.int .i64 y0, .int .i64 y1, .int .i64 y2, .int .i64 y3, .int .i64 y4, .int .i64 y5] 25) cA_v86)
    have cB_v89 : v89.heap[EB]? = some (.cells #[.int .i64 t0, .int .i64 t1, .int .i64 t2, .int .i64 t3, .int .i64 t4, .int .i64 t5] 25) := (hb_v89.block (EB) (Array.getElem?_eq_some_iff.1 (show (v86.alloc (.cells #[.int .i64 y0, .int .i64 y1, .int .i64 y2, .int .i64 y3, .int .i64 y4, .int .i64 y5] 25)).heap[EB]? = some (.cells #[.int .i64 t0, .int .i64 t1, .int .i64 t2, .int .i64 t3, .int .i64 t4, .int .i64 t5] 25) from (heap_old (o := .cells #[.int .i64 y0, .int .i64 y1, .int .i64 y2, .int .i64 y3, .int .i64 y4, .int .i64 y5] 25) cB_v86))).1).trans (heap_old (o := .cells #[.int .i64 y0, .int .i64 y1, .int .i64 y2, .int .i64 y3, .int .i64 y4, .int .i64 y5] 25) cB_v86)
    have cC_v89 : v89.heap[EC]? = some (.cells #[.int .i64 r0, .int .i64 r1, .int .i64 r2, .int .i64 r3, .int .i64 r4, .int .i64 r5] 25) := (hb_v89.block (EC) (Array.getElem?_eq_some_iff.1 (show (v86.alloc (.cells #[.int .i64 y0, .int .i64 y1, .int .i64 y2, .int .i64 y3, .int .i64 y4, .int .i64 y5] 25)).heap[EC]? = some (.cells #[.int .i64 r0, .int .i64 r1, .int .i64 r2, .int .i64 r3, .int .i64 r4, .int .i64 r5] 25) from (heap_old (o := .cells #[.int .i64 y0, .int .i64 y1, .int .i64 y2, .int .i64 y3, .int .i64 y4, .int .i64 y5] 25) cC_v86))).1).trans (heap_old (o := .cells #[.int .i64 y0, .int .i64 y1, .int .i64 y2, .int .i64 y3, .int .i64 y4, .int .i64 y5] 25) cC_v86)
    have cS_v89 : v89.heap[ES]? = some (.cells #[.int .i64 s0, .int .i64 s1, .int .i64 s2, .int .i64 s3, .int .i64 s4, .int .i64 s5] 25) := (hb_v89.block (ES) (Array.getElem?_eq_some_iff.1 (show (v86.alloc (.cells #[.int .i64 y0, .int .i64 y1, .int .i64 y2, .int .i64 y3, .int .i64 y4, .int .i64 y5] 25)).heap[ES]? = some (.cells #[.int .i64 s0, .int .i64 s1, .int .i64 s2, .int .i64 s3, .int .i64 s4, .int .i64 s5] 25) from (heap_old (o := .cells #[.int .i64 y0, .int .i64 y1, .int .i64 y2, .int .i64 y3, .int .i64 y4, .int .i64 y5] 25) cS_v86))).1).trans (heap_old (o := .cells #[.int .i64 y0, .int .i64 y1, .int .i64 y2, .int .i64 y3, .int .i64 y4, .int .i64 y5] 25) cS_v86)
    have cT_v89 : v89.heap[ET]? = some (.cells #[.int .i64 s0, .int .i64 s1, .int .i64 s2, .int .i64 s3, .int .i64 s4, .int .i64 s5] 25) := (hb_v89.block (ET) (Array.getElem?_eq_some_iff.1 (show (v86.alloc (.cells #[.int .i64 y0, .int .i64 y1, .int .i64 y2, .int .i64 y3, .int .i64 y4, .int .i64 y5] 25)).heap[ET]? = some (.cells #[.int .i64 s0, .int .i64 s1, .int .i64 s2, .int .i64 s3, .int .i64 s4, .int .i64 s5] 25) from (heap_old (o := .cells #[.int .i64 y0, .int .i64 y1, .int .i64 y2, .int .i64 y3, .int .i64 y4, .int .i64 y5] 25) cT_v86))).1).trans (heap_old (o := .cells #[.int .i64 y0, .int .i64 y1, .int .i64 y2, .int .i64 y3, .int .i64 y4, .int .i64 y5] 25) cT_v86)
    have cK_v89 : v89.heap[EK]? = some (.cells #[.int .i64 p0, .int .i64 p1, .int .i64 p2, .int .i64 p3, .int .i64 p4, .int .i64 p5] 25) := (hb_v89.block (EK) (Array.getElem?_eq_some_iff.1 (show (v86.alloc (.cells #[.int .i64 y0, .int .i64 y1, .int .i64 y2, .int .i64 y3, .int .i64 y4, .int .i64 y5] 25)).heap[EK]? = some (.cells #[.int .i64 p0, .int .i64 p1, .int .i64 p2, .int .i64 p3, .int .i64 p4, .int .i64 p5] 25) from (heap_old (o := .cells #[.int .i64 y0, .int .i64 y1, .int .i64 y2, .int .i64 y3, .int .i64 y4, .int .i64 y5] 25) cK_v86))).1).trans (heap_old (o := .cells #[.int .i64 y0, .int .i64 y1, .int .i64 y2, .int .i64 y3, .int .i64 y4, .int .i64 y5] 25) cK_v86)
    have cQ_v89 : v89.heap[EQ]? = some (.cells #[.int .i64 q0, .int .i64 q1, .int .i64 q2, .int .i64 q3, .int .i64 q4, .int .i64 q5] 25) := (hb_v89.block (EQ) (Array.getElem?_eq_some_iff.1 (show (v86.alloc (.cells #[.int .i64 y0, .int .i64 y1, .int .i64 y2, .int .i64 y3, .int .i64 y4, .int .i64 y5] 25)).heap[EQ]? = some (.cells #[.int .i64 q0, .int .i64 q1, .int .i64 q2, .int .i64 q3, .int .i64 q4, .int .i64 q5] 25) from (heap_old (o := .cells #[.int .i64 y0, .int .i64 y1, .int .i64 y2, .int .i64 y3, .int .i64 y4, .int .i64 y5] 25) cQ_v86))).1).trans (heap_old (o := .cells #[.int .i64 y0, .int .i64 y1, .int .i64 y2, .int .i64 y3, .int .i64 y4, .int .i64 y5] 25) cQ_v86)
    have cX_v89 : v89.heap[EX]? = some (.cells #[.int .i64 x0, .int .i64 x1, .int .i64 x2, .int .i64 x3, .int .i64 x4, .int .i64 x5] 25) := (hb_v89.block (EX) (Array.getElem?_eq_some_iff.1 (show (v86.alloc (.cells #[.int .i64 y0, .int .i64 y1, .int .i64 y2, .int .i64 y3, .int .i64 y4, .int .i64 y5] 25)).heap[EX]? = some (.cells #[.int .i64 x0, .int .i64 x1, .int .i64 x2, .int .i64 x3, .int .i64 x4, .int .i64 x5] 25) from (heap_old (o := .cells #[.int .i64 y0, .int .i64 y1, .int .i64 y2, .int .i64 y3, .int .i64 y4, .int .i64 y5] 25) cX_v86))).1).trans (heap_old (o := .cells #[.int .i64 y0, .int .i64 y1, .int .i64 y2, .int .i64 y3, .int .i64 y4, .int .i64 y5] 25) cX_v86)
    have cY_v89 : v89.heap[EY]? = some (.cells #[.int .i64 y0, .int .i64 y1, .int .i64 y2, .int .i64 y3, .int .i64 y4, .int .i64 y5] 25) := (hb_v89.block (EY) (Array.getElem?_eq_some_iff.1 (show (v86.alloc (.cells #[.int .i64 y0, .int .i64 y1, .int .i64 y2, .int .i64 y3, .int .i64 y4, .int .i64 y5] 25)).heap[EY]? = some (.cells #[.int .i64 y0, .int .i64 y1, .int .i64 y2, .int .i64 y3, .int .i64 y4, .int .i64 y5] 25) from (heap_new (by first | omega | (simp; omega))))).1).trans (heap_new (by first | omega | (simp; omega)))
    have hw_v89 : Below D w v89 := ((hw_v86.alloc (by have := hw_v86.size; first | omega | (simp; omega)) (.cells #[.int .i64 y0, .int .i64 y1, .int .i64 y2, .int .i64 y3, .int .i64 y4, .int .i64 y5] 25))).trans (hb_v89.mono (by first | omega | (simp; omega)))
    clear cA_v86 cB_v86 cC_v86 cS_v86 cT_v86 cK_v86 cQ_v86 cX_v86 hb_v89 y87_0 y87_1 y87_2 y87_3 y87_4 y87_5 y88_0 y88_1 y88_2 y88_3 y88_4 y88_5 hw_v86 hs_v89
    have HW := Lib.hid (hw_v89)
    clear KN XX YY CX
    go_wp2
    go_ret
    exact ⟨rfl, by first | exact HW.out | (rw [hD]; exact HW.out)⟩
end Go.Proofs.YthdoadkdofgenaaGreatDoor
