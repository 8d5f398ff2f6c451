/- Counting the one bits of a word of 64 bits by adding neighbours, as package math/bits does. -/
import Derived.Test.YtibdnfcbgcbdeaaDoorNsMath
namespace Go.Proofs.YtibdnfcbgcbdeaaDoor.Ns

/-- The number of one bits. -/
def pc (x : Nat) : Nat := ((List.range 64).map fun i => (x.testBit i).toNat).sum
/-- Of a byte. -/
def pcb (b : Nat) : Nat := ((List.range 8).map fun i => (b.testBit i).toNat).sum

theorem and_split (c a0 a1 m0 m1 : Nat) (h0 : a0 < 2 ^ c) (h1 : m0 < 2 ^ c) : (a0 + 2 ^ c * a1) &&& (m0 + 2 ^ c * m1) = (a0 &&& m0) + 2 ^ c * (a1 &&& m1) := by
  have h2 : a0 &&& m0 < 2 ^ c := Nat.lt_of_le_of_lt Nat.and_le_left h0
  apply Nat.eq_of_testBit_eq
  intro i
  rw [Nat.testBit_and, Nat.add_comm a0, Nat.add_comm m0, Nat.add_comm (a0 &&& m0), Nat.testBit_two_pow_mul_add _ h0, Nat.testBit_two_pow_mul_add _ h1, Nat.testBit_two_pow_mul_add _ h2]
  split <;> rw [Nat.testBit_and]

theorem bytes8 (x : Nat) (hx : x < 18446744073709551616) : ∃ b0 b1 b2 b3 b4 b5 b6 b7 : Nat, (b0 < 256 ∧ b1 < 256 ∧ b2 < 256 ∧ b3 < 256 ∧ b4 < 256 ∧ b5 < 256 ∧ b6 < 256 ∧ b7 < 256) ∧
    x = b0 + 256 * (b1 + 256 * (b2 + 256 * (b3 + 256 * (b4 + 256 * (b5 + 256 * (b6 + 256 * b7)))))) :=
  ⟨x % 256, x / 256 % 256, x / 65536 % 256, x / 16777216 % 256, x / 4294967296 % 256, x / 1099511627776 % 256, x / 281474976710656 % 256, x / 72057594037927936 % 256, by omega, by omega⟩

theorem and8 (b0 b1 b2 b3 b4 b5 b6 b7 m : Nat) (h : b0 < 256 ∧ b1 < 256 ∧ b2 < 256 ∧ b3 < 256 ∧ b4 < 256 ∧ b5 < 256 ∧ b6 < 256 ∧ b7 < 256) (hm : m < 256) :
    (b0 + 256 * (b1 + 256 * (b2 + 256 * (b3 + 256 * (b4 + 256 * (b5 + 256 * (b6 + 256 * b7))))))) &&& (m + 256 * (m + 256 * (m + 256 * (m + 256 * (m + 256 * (m + 256 * (m + 256 * m))))))) =
    (b0 &&& m) + 256 * ((b1 &&& m) + 256 * ((b2 &&& m) + 256 * ((b3 &&& m) + 256 * ((b4 &&& m) + 256 * ((b5 &&& m) + 256 * ((b6 &&& m) + 256 * (b7 &&& m))))))) := by
  obtain ⟨h0, h1, h2, h3, h4, h5, h6, h7⟩ := h
  have s := fun a0 a1 m1 (ha : a0 < 256) => and_split 8 a0 a1 m m1 ha hm
  rw [show (2 : Nat) ^ 8 = 256 by rfl] at s
  rw [s _ _ _ h0, s _ _ _ h1, s _ _ _ h2, s _ _ _ h3, s _ _ _ h4, s _ _ _ h5, s _ _ _ h6]

/-- One byte, two neighbours added; four; eight. -/
def f1 (b : Nat) : Nat := (b &&& 170) / 2 + (b &&& 85)
def f2 (b : Nat) : Nat := (b &&& 204) / 4 + (b &&& 51)
theorem byte_even (b : Nat) (h : b < 256) : (b &&& 170) % 2 = 0 ∧ (b &&& 204) % 4 = 0 ∧ f1 b < 256 ∧ (b &&& 85) < 256 ∧ (b &&& 51) < 256 ∧ (b &&& 170) < 256 ∧ (b &&& 204) < 256 := by
  have : ∀ b, b < 256 → ((b &&& 170) % 2 = 0 ∧ (b &&& 204) % 4 = 0 ∧ f1 b < 256 ∧ (b &&& 85) < 256 ∧ (b &&& 51) < 256 ∧ (b &&& 170) < 256 ∧ (b &&& 204) < 256) := by decide +kernel
  exact this b h
theorem byte_pc (b : Nat) (h : b < 256) : f2 (f1 b) / 16 ≤ 4 ∧ f2 (f1 b) % 16 ≤ 4 ∧ f2 (f1 b) / 16 + f2 (f1 b) % 16 = pcb b := by
  have : ∀ b, b < 256 → (f2 (f1 b) / 16 ≤ 4 ∧ f2 (f1 b) % 16 ≤ 4 ∧ f2 (f1 b) / 16 + f2 (f1 b) % 16 = pcb b) := by decide +kernel
  exact this b h

theorem byte_uv1 (b : Nat) (h : b < 256) : ∃ u v, b &&& 170 = 2 * u ∧ b &&& 85 = v ∧ f1 b = u + v :=
  ⟨(b &&& 170) / 2, b &&& 85, by have := (byte_even b h).1; omega, rfl, rfl⟩
theorem byte_uv2 (b : Nat) (h : b < 256) : ∃ u v, b &&& 204 = 4 * u ∧ b &&& 51 = v ∧ f2 b = u + v :=
  ⟨(b &&& 204) / 4, b &&& 51, by have := (byte_even b h).2.1; omega, rfl, rfl⟩

theorem n1 (c u v : Nat) : c * u + 256 * (c * v) = c * (u + 256 * v) := by rw [Nat.mul_add, Nat.mul_left_comm]
theorem n2 (a b u v : Nat) : (a + 256 * b) + (u + 256 * v) = (a + u) + 256 * (b + v) := by omega

theorem shift_and (x s m : Nat) : x / 2 ^ s &&& m = (x &&& m * 2 ^ s) / 2 ^ s := by
  apply Nat.eq_of_testBit_eq
  intro i
  rw [Nat.testBit_and, Nat.testBit_div_two_pow, Nat.testBit_div_two_pow, Nat.testBit_and, Nat.testBit_mul_two_pow]
  simp

theorem step1 (b0 b1 b2 b3 b4 b5 b6 b7 : Nat) (h : b0 < 256 ∧ b1 < 256 ∧ b2 < 256 ∧ b3 < 256 ∧ b4 < 256 ∧ b5 < 256 ∧ b6 < 256 ∧ b7 < 256) (x : Nat)
    (hx : x = b0 + 256 * (b1 + 256 * (b2 + 256 * (b3 + 256 * (b4 + 256 * (b5 + 256 * (b6 + 256 * b7))))))) :
    (x / 2 &&& 6148914691236517205) + (x &&& 6148914691236517205) = f1 b0 + 256 * (f1 b1 + 256 * (f1 b2 + 256 * (f1 b3 + 256 * (f1 b4 + 256 * (f1 b5 + 256 * (f1 b6 + 256 * f1 b7)))))) := by
  have s := shift_and x 1 6148914691236517205
  rw [show x / 2 ^ 1 = x / 2 by rfl] at s
  rw [s, hx]
  have a := and8 b0 b1 b2 b3 b4 b5 b6 b7 170 h (by decide)
  have b := and8 b0 b1 b2 b3 b4 b5 b6 b7 85 h (by decide)
  rw [show (6148914691236517205 : Nat) * 2 ^ 1 = 170 + 256 * (170 + 256 * (170 + 256 * (170 + 256 * (170 + 256 * (170 + 256 * (170 + 256 * 170)))))) by rfl, a,
    show (6148914691236517205 : Nat) = 85 + 256 * (85 + 256 * (85 + 256 * (85 + 256 * (85 + 256 * (85 + 256 * (85 + 256 * 85)))))) by rfl, b]
  obtain ⟨h0, h1, h2, h3, h4, h5, h6, h7⟩ := h
  obtain ⟨u0, v0, p0, q0, r0⟩ := byte_uv1 b0 h0
  obtain ⟨u1, v1, p1, q1, r1⟩ := byte_uv1 b1 h1
  obtain ⟨u2, v2, p2, q2, r2⟩ := byte_uv1 b2 h2
  obtain ⟨u3, v3, p3, q3, r3⟩ := byte_uv1 b3 h3
  obtain ⟨u4, v4, p4, q4, r4⟩ := byte_uv1 b4 h4
  obtain ⟨u5, v5, p5, q5, r5⟩ := byte_uv1 b5 h5
  obtain ⟨u6, v6, p6, q6, r6⟩ := byte_uv1 b6 h6
  obtain ⟨u7, v7, p7, q7, r7⟩ := byte_uv1 b7 h7
  rw [p0, q0, r0, p1, q1, r1, p2, q2, r2, p3, q3, r3, p4, q4, r4, p5, q5, r5, p6, q6, r6, p7, q7, r7, show (2 : Nat) ^ 1 = 2 by rfl]
  simp only [n1]
  rw [Nat.mul_div_cancel_left _ (by decide)]
  simp only [n2]

theorem step2 (b0 b1 b2 b3 b4 b5 b6 b7 : Nat) (h : b0 < 256 ∧ b1 < 256 ∧ b2 < 256 ∧ b3 < 256 ∧ b4 < 256 ∧ b5 < 256 ∧ b6 < 256 ∧ b7 < 256) (x : Nat)
    (hx : x = b0 + 256 * (b1 + 256 * (b2 + 256 * (b3 + 256 * (b4 + 256 * (b5 + 256 * (b6 + 256 * b7))))))) :
    (x / 4 &&& 3689348814741910323) + (x &&& 3689348814741910323) = f2 b0 + 256 * (f2 b1 + 256 * (f2 b2 + 256 * (f2 b3 + 256 * (f2 b4 + 256 * (f2 b5 + 256 * (f2 b6 + 256 * f2 b7)))))) := by
  have s := shift_and x 2 3689348814741910323
  rw [show x / 2 ^ 2 = x / 4 by rfl] at s
  rw [s, hx]
  have a := and8 b0 b1 b2 b3 b4 b5 b6 b7 204 h (by decide)
  have b := and8 b0 b1 b2 b3 b4 b5 b6 b7 51 h (by decide)
  rw [show (3689348814741910323 : Nat) * 2 ^ 2 = 204 + 256 * (204 + 256 * (204 + 256 * (204 + 256 * (204 + 256 * (204 + 256 * (204 + 256 * 204)))))) by rfl, a,
    show (3689348814741910323 : Nat) = 51 + 256 * (51 + 256 * (51 + 256 * (51 + 256 * (51 + 256 * (51 + 256 * (51 + 256 * 51)))))) by rfl, b]
  obtain ⟨h0, h1, h2, h3, h4, h5, h6, h7⟩ := h
  obtain ⟨u0, v0, p0, q0, r0⟩ := byte_uv2 b0 h0
  obtain ⟨u1, v1, p1, q1, r1⟩ := byte_uv2 b1 h1
  obtain ⟨u2, v2, p2, q2, r2⟩ := byte_uv2 b2 h2
  obtain ⟨u3, v3, p3, q3, r3⟩ := byte_uv2 b3 h3
  obtain ⟨u4, v4, p4, q4, r4⟩ := byte_uv2 b4 h4
  obtain ⟨u5, v5, p5, q5, r5⟩ := byte_uv2 b5 h5
  obtain ⟨u6, v6, p6, q6, r6⟩ := byte_uv2 b6 h6
  obtain ⟨u7, v7, p7, q7, r7⟩ := byte_uv2 b7 h7
  rw [p0, q0, r0, p1, q1, r1, p2, q2, r2, p3, q3, r3, p4, q4, r4, p5, q5, r5, p6, q6, r6, p7, q7, r7, show (2 : Nat) ^ 2 = 4 by rfl]
  simp only [n1]
  rw [Nat.mul_div_cancel_left _ (by decide)]
  simp only [n2]

theorem and15 (c : Nat) : c &&& 15 = c % 16 := Nat.and_two_pow_sub_one_eq_mod c 4
theorem and127 (c : Nat) : c &&& 127 = c % 128 := Nat.and_two_pow_sub_one_eq_mod c 7

theorem pcn_byte (n b a : Nat) (hb : b < 256) : ((List.range (8 + n)).map fun i => ((b + 256 * a).testBit i).toNat).sum = pcb b + ((List.range n).map fun i => (a.testBit i).toNat).sum := by
  have t : ∀ i, (b + 256 * a).testBit i = if i < 8 then b.testBit i else a.testBit (i - 8) := fun i => by
    have := Nat.testBit_two_pow_mul_add a (b := b) (i := 8) hb i
    rw [Nat.add_comm]; exact this
  rw [List.range_add, List.map_append, List.sum_append]
  congr 1
  · unfold pcb
    congr 1
    apply List.map_congr_left
    intro i hi
    rw [t, if_pos (List.mem_range.1 hi)]
  · rw [List.map_map]
    congr 1
    apply List.map_congr_left
    intro i _
    simp only [Function.comp]
    rw [t, if_neg (by omega), show 8 + i - 8 = i by omega]

theorem pc_bytes (b0 b1 b2 b3 b4 b5 b6 b7 : Nat) (h : b0 < 256 ∧ b1 < 256 ∧ b2 < 256 ∧ b3 < 256 ∧ b4 < 256 ∧ b5 < 256 ∧ b6 < 256 ∧ b7 < 256) :
    pc (b0 + 256 * (b1 + 256 * (b2 + 256 * (b3 + 256 * (b4 + 256 * (b5 + 256 * (b6 + 256 * b7))))))) = pcb b0 + (pcb b1 + (pcb b2 + (pcb b3 + (pcb b4 + (pcb b5 + (pcb b6 + pcb b7)))))) := by
  obtain ⟨h0, h1, h2, h3, h4, h5, h6, h7⟩ := h
  unfold pc
  rw [show (64 : Nat) = 8 + 56 by rfl, pcn_byte _ _ _ h0, show (56 : Nat) = 8 + 48 by rfl, pcn_byte _ _ _ h1, show (48 : Nat) = 8 + 40 by rfl, pcn_byte _ _ _ h2,
    show (40 : Nat) = 8 + 32 by rfl, pcn_byte _ _ _ h3, show (32 : Nat) = 8 + 24 by rfl, pcn_byte _ _ _ h4, show (24 : Nat) = 8 + 16 by rfl, pcn_byte _ _ _ h5, show (16 : Nat) = 8 + 8 by rfl, pcn_byte _ _ _ h6]
  rfl
end Go.Proofs.YtibdnfcbgcbdeaaDoor.Ns
