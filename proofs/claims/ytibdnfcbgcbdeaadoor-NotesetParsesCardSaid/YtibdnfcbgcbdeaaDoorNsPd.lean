/- The last steps of counting one bits: bytes are added up. -/
import Derived.Test.YtibdnfcbgcbdeaaDoorNsPc
namespace Go.Proofs.YtibdnfcbgcbdeaaDoor.Ns

theorem n3 (p p' q' N : Nat) : p + 16 * (16 * p' + q' + 256 * N) = (p + 16 * q') + 256 * (p' + 16 * N) := by omega
theorem n4 (p q N : Nat) (h : q < 16) : (16 * p + q + 256 * N) / 16 = p + 16 * N := by omega
theorem n5 (a b : Nat) (h : a < 256) : (a + 256 * b) / 256 = b := by omega
theorem n6 (a b c : Nat) (h : a < 256) (h1 : b < 256) : (a + 256 * (b + 256 * c)) / 65536 = c := by omega
theorem n7 (a b c d e : Nat) (h : a < 256) (h1 : b < 256) (h2 : c < 256) (h3 : d < 256) : (a + 256 * (b + 256 * (c + 256 * (d + 256 * e)))) / 4294967296 = e := by omega
theorem nest_lt (a0 a1 a2 a3 a4 a5 a6 a7 k : Nat) (h : a0 < 256 ∧ a1 < 256 ∧ a2 < 256 ∧ a3 < 256 ∧ a4 < 256 ∧ a5 < 256 ∧ a6 < 256 ∧ a7 < k) : a0 + 256 * (a1 + 256 * (a2 + 256 * (a3 + 256 * (a4 + 256 * (a5 + 256 * (a6 + 256 * (a7))))))) < k * 72057594037927936 := by
  obtain ⟨h0, h1, h2, h3, h4, h5, h6, h7⟩ := h
  omega

theorem step3 (p0 q0 p1 q1 p2 q2 p3 q3 p4 q4 p5 q5 p6 q6 p7 q7 : Nat) (hp : p0 ≤ 4 ∧ p1 ≤ 4 ∧ p2 ≤ 4 ∧ p3 ≤ 4 ∧ p4 ≤ 4 ∧ p5 ≤ 4 ∧ p6 ≤ 4 ∧ p7 ≤ 4) (hq : q0 ≤ 4 ∧ q1 ≤ 4 ∧ q2 ≤ 4 ∧ q3 ≤ 4 ∧ q4 ≤ 4 ∧ q5 ≤ 4 ∧ q6 ≤ 4 ∧ q7 ≤ 4) (y : Nat)
    (hy : y = (16 * p0 + q0) + 256 * ((16 * p1 + q1) + 256 * ((16 * p2 + q2) + 256 * ((16 * p3 + q3) + 256 * ((16 * p4 + q4) + 256 * ((16 * p5 + q5) + 256 * ((16 * p6 + q6) + 256 * ((16 * p7 + q7))))))))) :
    y / 16 + y < 18446744073709551616 ∧ ((y / 16 + y) &&& 1085102592571150095) = (p0 + q0) + 256 * ((p1 + q1) + 256 * ((p2 + q2) + 256 * ((p3 + q3) + 256 * ((p4 + q4) + 256 * ((p5 + q5) + 256 * ((p6 + q6) + 256 * ((p7 + q7)))))))) := by
  obtain ⟨a0, a1, a2, a3, a4, a5, a6, a7⟩ := hp
  obtain ⟨c0, c1, c2, c3, c4, c5, c6, c7⟩ := hq
  have e : y / 16 + y = (p0 + 16 * q1 + (16 * p0 + q0)) + 256 * ((p1 + 16 * q2 + (16 * p1 + q1)) + 256 * ((p2 + 16 * q3 + (16 * p2 + q2)) + 256 * ((p3 + 16 * q4 + (16 * p3 + q3)) + 256 * ((p4 + 16 * q5 + (16 * p4 + q4)) + 256 * ((p5 + 16 * q6 + (16 * p5 + q5)) + 256 * ((p6 + 16 * q7 + (16 * p6 + q6)) + 256 * ((p7 + (16 * p7 + q7))))))))) := by
    rw [hy, n4 _ _ _ (by omega), n3, n3, n3, n3, n3, n3]
    rw [show p6 + 16 * (16 * p7 + q7) = p6 + 16 * q7 + 256 * p7 by omega]
    simp only [n2]
  rw [e]
  constructor
  · exact nest_lt _ _ _ _ _ _ _ _ 256 ⟨by omega, by omega, by omega, by omega, by omega, by omega, by omega, by omega⟩
  · rw [show (1085102592571150095 : Nat) = 15 + 256 * (15 + 256 * (15 + 256 * (15 + 256 * (15 + 256 * (15 + 256 * (15 + 256 * 15)))))) by rfl,
      and8 _ _ _ _ _ _ _ _ 15 ⟨by omega, by omega, by omega, by omega, by omega, by omega, by omega, by omega⟩ (by decide)]
    simp only [and15]
    rw [show (p0 + 16 * q1 + (16 * p0 + q0)) % 16 = p0 + q0 by omega]
    rw [show (p1 + 16 * q2 + (16 * p1 + q1)) % 16 = p1 + q1 by omega]
    rw [show (p2 + 16 * q3 + (16 * p2 + q2)) % 16 = p2 + q2 by omega]
    rw [show (p3 + 16 * q4 + (16 * p3 + q3)) % 16 = p3 + q3 by omega]
    rw [show (p4 + 16 * q5 + (16 * p4 + q4)) % 16 = p4 + q4 by omega]
    rw [show (p5 + 16 * q6 + (16 * p5 + q5)) % 16 = p5 + q5 by omega]
    rw [show (p6 + 16 * q7 + (16 * p6 + q6)) % 16 = p6 + q6 by omega]
    rw [show (p7 + (16 * p7 + q7)) % 16 = p7 + q7 by omega]

theorem lin1 (d0 d1 d2 d3 d4 d5 d6 d7 : Nat) : d0 + 256 * (d1 + 256 * (d2 + 256 * (d3 + 256 * (d4 + 256 * (d5 + 256 * (d6 + 256 * (d7))))))) + (d1 + 256 * (d2 + 256 * (d3 + 256 * (d4 + 256 * (d5 + 256 * (d6 + 256 * (d7))))))) = (d0 + d1) + 256 * ((d1 + d2) + 256 * ((d2 + d3) + 256 * ((d3 + d4) + 256 * ((d4 + d5) + 256 * ((d5 + d6) + 256 * ((d6 + d7) + 256 * (d7))))))) := by omega
theorem lin2 (d0 d1 d2 d3 d4 d5 d6 d7 : Nat) : d0 + 256 * (d1 + 256 * (d2 + 256 * (d3 + 256 * (d4 + 256 * (d5 + 256 * (d6 + 256 * (d7))))))) + (d2 + 256 * (d3 + 256 * (d4 + 256 * (d5 + 256 * (d6 + 256 * (d7)))))) = (d0 + d2) + 256 * ((d1 + d3) + 256 * ((d2 + d4) + 256 * ((d3 + d5) + 256 * ((d4 + d6) + 256 * ((d5 + d7) + 256 * (d6 + 256 * (d7))))))) := by omega
theorem lin4 (d0 d1 d2 d3 d4 d5 d6 d7 : Nat) : d0 + 256 * (d1 + 256 * (d2 + 256 * (d3 + 256 * (d4 + 256 * (d5 + 256 * (d6 + 256 * (d7))))))) + (d4 + 256 * (d5 + 256 * (d6 + 256 * (d7)))) = (d0 + d4) + 256 * ((d1 + d5) + 256 * ((d2 + d6) + 256 * ((d3 + d7) + 256 * (d4 + 256 * (d5 + 256 * (d6 + 256 * (d7))))))) := by omega
theorem low7 (a R : Nat) (h : a < 128) : (a + 256 * R) % 128 = a := by omega

theorem step4 (d0 d1 d2 d3 d4 d5 d6 d7 : Nat) (hd : d0 ≤ 8 ∧ d1 ≤ 8 ∧ d2 ≤ 8 ∧ d3 ≤ 8 ∧ d4 ≤ 8 ∧ d5 ≤ 8 ∧ d6 ≤ 8 ∧ d7 ≤ 8) (z : Nat) (hz : z = d0 + 256 * (d1 + 256 * (d2 + 256 * (d3 + 256 * (d4 + 256 * (d5 + 256 * (d6 + 256 * (d7)))))))) :
    ∃ x4 x5 x6 : Nat, x4 = z + z / 256 ∧ x4 < 18446744073709551616 ∧ x5 = x4 + x4 / 65536 ∧ x5 < 18446744073709551616 ∧ x6 = x5 + x5 / 4294967296 ∧ x6 < 9223372036854775808 ∧
      x6 % 128 = d0 + (d1 + (d2 + (d3 + (d4 + (d5 + (d6 + d7)))))) := by
  obtain ⟨a0, a1, a2, a3, a4, a5, a6, a7⟩ := hd
  have u0 : d0 < 256 := by clear hz; omega
  have u1 : d1 < 256 := by clear hz; omega
  have u2 : d2 < 256 := by clear hz; omega
  have u3 : d3 < 256 := by clear hz; omega
  have u4 : d4 < 256 := by clear hz; omega
  have u5 : d5 < 256 := by clear hz; omega
  have u6 : d6 < 256 := by clear hz; omega
  have u7 : d7 < 256 := by clear hz; omega
  have v0 : (d0 + d1) < 256 := by clear hz; omega
  have v1 : (d1 + d2) < 256 := by clear hz; omega
  have v2 : (d2 + d3) < 256 := by clear hz; omega
  have v3 : (d3 + d4) < 256 := by clear hz; omega
  have v4 : (d4 + d5) < 256 := by clear hz; omega
  have v5 : (d5 + d6) < 256 := by clear hz; omega
  have v6 : (d6 + d7) < 256 := by clear hz; omega
  have v7 : d7 < 256 := by clear hz; omega
  have w0 : ((d0 + d1) + (d2 + d3)) < 256 := by clear hz; omega
  have w1 : ((d1 + d2) + (d3 + d4)) < 256 := by clear hz; omega
  have w2 : ((d2 + d3) + (d4 + d5)) < 256 := by clear hz; omega
  have w3 : ((d3 + d4) + (d5 + d6)) < 256 := by clear hz; omega
  have w4 : ((d4 + d5) + (d6 + d7)) < 256 := by clear hz; omega
  have w5 : ((d5 + d6) + d7) < 256 := by clear hz; omega
  have w6 : (d6 + d7) < 256 := by clear hz; omega
  have w7 : d7 < 256 := by clear hz; omega
  have top : d7 < 128 := by clear hz; omega
  have l4 := nest_lt (d0 + d1) (d1 + d2) (d2 + d3) (d3 + d4) (d4 + d5) (d5 + d6) (d6 + d7) d7 256 ⟨v0, v1, v2, v3, v4, v5, v6, v7⟩
  have l5 := nest_lt ((d0 + d1) + (d2 + d3)) ((d1 + d2) + (d3 + d4)) ((d2 + d3) + (d4 + d5)) ((d3 + d4) + (d5 + d6)) ((d4 + d5) + (d6 + d7)) ((d5 + d6) + d7) (d6 + d7) d7 256 ⟨w0, w1, w2, w3, w4, w5, w6, w7⟩
  have l6 := nest_lt (((d0 + d1) + (d2 + d3)) + ((d4 + d5) + (d6 + d7))) (((d1 + d2) + (d3 + d4)) + ((d5 + d6) + d7)) (((d2 + d3) + (d4 + d5)) + (d6 + d7)) (((d3 + d4) + (d5 + d6)) + d7) ((d4 + d5) + (d6 + d7)) ((d5 + d6) + d7) (d6 + d7) d7 128 ⟨by clear hz l4 l5; omega, by clear hz l4 l5; omega, by clear hz l4 l5; omega, by clear hz l4 l5; omega, w4, w5, w6, top⟩
  have lowb : (((d0 + d1) + (d2 + d3)) + ((d4 + d5) + (d6 + d7))) < 128 := by clear hz l4 l5 l6; omega
  have sum : (((d0 + d1) + (d2 + d3)) + ((d4 + d5) + (d6 + d7))) = d0 + (d1 + (d2 + (d3 + (d4 + (d5 + (d6 + d7)))))) := by clear hz l4 l5 l6; omega
  have e4 : z + z / 256 = (d0 + d1) + 256 * ((d1 + d2) + 256 * ((d2 + d3) + 256 * ((d3 + d4) + 256 * ((d4 + d5) + 256 * ((d5 + d6) + 256 * ((d6 + d7) + 256 * (d7))))))) := by
    rw [hz, n5 _ _ u0, lin1]
  have e5 : (z + z / 256) + (z + z / 256) / 65536 = ((d0 + d1) + (d2 + d3)) + 256 * (((d1 + d2) + (d3 + d4)) + 256 * (((d2 + d3) + (d4 + d5)) + 256 * (((d3 + d4) + (d5 + d6)) + 256 * (((d4 + d5) + (d6 + d7)) + 256 * (((d5 + d6) + d7) + 256 * ((d6 + d7) + 256 * (d7))))))) := by
    rw [e4, n6 _ _ _ v0 v1, lin2]
  have e6 : ((z + z / 256) + (z + z / 256) / 65536) + ((z + z / 256) + (z + z / 256) / 65536) / 4294967296 = (((d0 + d1) + (d2 + d3)) + ((d4 + d5) + (d6 + d7))) + 256 * ((((d1 + d2) + (d3 + d4)) + ((d5 + d6) + d7)) + 256 * ((((d2 + d3) + (d4 + d5)) + (d6 + d7)) + 256 * ((((d3 + d4) + (d5 + d6)) + d7) + 256 * (((d4 + d5) + (d6 + d7)) + 256 * (((d5 + d6) + d7) + 256 * ((d6 + d7) + 256 * (d7))))))) := by
    rw [e5, n7 _ _ _ _ _ w0 w1 w2 w3, lin4]
  refine ⟨_, _, _, rfl, ?_, rfl, ?_, rfl, ?_, ?_⟩
  · rw [e4]; exact l4
  · rw [e5]; exact l5
  · rw [e6]; exact l6
  · rw [e6, low7 _ _ lowb, sum]

/-- All of it. -/
theorem ones (x : Nat) (hx : x < 18446744073709551616) : ∃ y1 y2 s3 z x4 x5 x6 : Nat,
    y1 = (x / 2 &&& 6148914691236517205) + (x &&& 6148914691236517205) ∧ y1 < 18446744073709551616 ∧ y2 = (y1 / 4 &&& 3689348814741910323) + (y1 &&& 3689348814741910323) ∧ y2 < 18446744073709551616 ∧
    s3 = y2 / 16 + y2 ∧ s3 < 18446744073709551616 ∧ z = s3 &&& 1085102592571150095 ∧ x4 = z + z / 256 ∧ x4 < 18446744073709551616 ∧ x5 = x4 + x4 / 65536 ∧ x5 < 18446744073709551616 ∧
    x6 = x5 + x5 / 4294967296 ∧ x6 < 9223372036854775808 ∧ x6 % 128 = pc x := by
  obtain ⟨b0, b1, b2, b3, b4, b5, b6, b7, h, hxe⟩ := bytes8 x hx
  have e1 := step1 _ _ _ _ _ _ _ _ h x hxe
  have hpc := pc_bytes _ _ _ _ _ _ _ _ h
  rw [← hxe] at hpc
  obtain ⟨h0, h1, h2, h3, h4, h5, h6, h7⟩ := h
  have g0 := (byte_even b0 h0).2.2.1
  obtain ⟨k0, l0, m0⟩ := byte_pc b0 h0
  have g1 := (byte_even b1 h1).2.2.1
  obtain ⟨k1, l1, m1⟩ := byte_pc b1 h1
  have g2 := (byte_even b2 h2).2.2.1
  obtain ⟨k2, l2, m2⟩ := byte_pc b2 h2
  have g3 := (byte_even b3 h3).2.2.1
  obtain ⟨k3, l3, m3⟩ := byte_pc b3 h3
  have g4 := (byte_even b4 h4).2.2.1
  obtain ⟨k4, l4, m4⟩ := byte_pc b4 h4
  have g5 := (byte_even b5 h5).2.2.1
  obtain ⟨k5, l5, m5⟩ := byte_pc b5 h5
  have g6 := (byte_even b6 h6).2.2.1
  obtain ⟨k6, l6, m6⟩ := byte_pc b6 h6
  have g7 := (byte_even b7 h7).2.2.1
  obtain ⟨k7, l7, m7⟩ := byte_pc b7 h7
  have e2 := step2 _ _ _ _ _ _ _ _ ⟨g0, g1, g2, g3, g4, g5, g6, g7⟩ _ e1
  have o0 : f2 (f1 b0) = 16 * (f2 (f1 b0) / 16) + f2 (f1 b0) % 16 := (Nat.div_add_mod _ _).symm
  have r0 : pcb b0 ≤ 8 := by rw [← m0]; exact Nat.add_le_add k0 l0
  have o1 : f2 (f1 b1) = 16 * (f2 (f1 b1) / 16) + f2 (f1 b1) % 16 := (Nat.div_add_mod _ _).symm
  have r1 : pcb b1 ≤ 8 := by rw [← m1]; exact Nat.add_le_add k1 l1
  have o2 : f2 (f1 b2) = 16 * (f2 (f1 b2) / 16) + f2 (f1 b2) % 16 := (Nat.div_add_mod _ _).symm
  have r2 : pcb b2 ≤ 8 := by rw [← m2]; exact Nat.add_le_add k2 l2
  have o3 : f2 (f1 b3) = 16 * (f2 (f1 b3) / 16) + f2 (f1 b3) % 16 := (Nat.div_add_mod _ _).symm
  have r3 : pcb b3 ≤ 8 := by rw [← m3]; exact Nat.add_le_add k3 l3
  have o4 : f2 (f1 b4) = 16 * (f2 (f1 b4) / 16) + f2 (f1 b4) % 16 := (Nat.div_add_mod _ _).symm
  have r4 : pcb b4 ≤ 8 := by rw [← m4]; exact Nat.add_le_add k4 l4
  have o5 : f2 (f1 b5) = 16 * (f2 (f1 b5) / 16) + f2 (f1 b5) % 16 := (Nat.div_add_mod _ _).symm
  have r5 : pcb b5 ≤ 8 := by rw [← m5]; exact Nat.add_le_add k5 l5
  have o6 : f2 (f1 b6) = 16 * (f2 (f1 b6) / 16) + f2 (f1 b6) % 16 := (Nat.div_add_mod _ _).symm
  have r6 : pcb b6 ≤ 8 := by rw [← m6]; exact Nat.add_le_add k6 l6
  have o7 : f2 (f1 b7) = 16 * (f2 (f1 b7) / 16) + f2 (f1 b7) % 16 := (Nat.div_add_mod _ _).symm
  have r7 : pcb b7 ≤ 8 := by rw [← m7]; exact Nat.add_le_add k7 l7
  rw [o0, o1, o2, o3, o4, o5, o6, o7] at e2
  obtain ⟨s1, s2⟩ := step3 _ _ _ _ _ _ _ _ _ _ _ _ _ _ _ _ ⟨k0, k1, k2, k3, k4, k5, k6, k7⟩ ⟨l0, l1, l2, l3, l4, l5, l6, l7⟩ _ e2
  rw [m0, m1, m2, m3, m4, m5, m6, m7] at s2
  obtain ⟨x4, x5, x6, t1, t2, t3, t4, t5, t6, t7⟩ := step4 _ _ _ _ _ _ _ _ ⟨r0, r1, r2, r3, r4, r5, r6, r7⟩ _ s2
  refine ⟨_, _, _, _, x4, x5, x6, rfl, ?_, rfl, ?_, rfl, s1, rfl, t1, t2, t3, t4, t5, t6, t7.trans hpc.symm⟩
  · rw [e1]; exact nest_lt _ _ _ _ _ _ _ _ 256 ⟨g0, g1, g2, g3, g4, g5, g6, g7⟩
  · exact Nat.lt_of_le_of_lt (Nat.le_add_left _ _) s1
end Go.Proofs.YtibdnfcbgcbdeaaDoor.Ns
