/- The mathematics of shifts: whole powers, without the program. -/
import Derived.WalkKit
import Derived.Lib.ItoaNum
namespace Go.Proofs.YtbkbncapgljfaaaGreatDoor.Pt

/-- s semitones are nearest to num / den. -/
def IsSh (num den : Nat) (s : Int) : Prop :=
  ∃ N K : Nat, (N : Int) = s + K ∧ den ^ 24 * 2 ^ (2 * N) ≤ num ^ 24 * 2 ^ (2 * K + 1) ∧ num ^ 24 * 2 ^ (2 * K + 1) < den ^ 24 * 2 ^ (2 * N + 2)

theorem two_lt {a b : Nat} (h : 2 ^ a < 2 ^ b) : a < b := (Nat.pow_lt_pow_iff_right (by decide)).1 h

theorem sh_mono {n d n' d' : Nat} {s s' : Int} (h : IsSh n d s) (h' : IsSh n' d' s') (hd : 0 < d) (_ : 0 < d') (hc : n * d' ≤ n' * d) : s ≤ s' := by
  obtain ⟨N, K, e, h1, h2⟩ := h
  obtain ⟨N', K', e', h1', h2'⟩ := h'
  have hp : n ^ 24 * d' ^ 24 ≤ n' ^ 24 * d ^ 24 := by rw [← Nat.mul_pow, ← Nat.mul_pow]; exact Nat.pow_le_pow_left hc 24
  have a1 := Nat.mul_le_mul_right (d' ^ 24 * 2 ^ (2 * K')) h1
  have a2 := Nat.mul_le_mul_right (2 ^ (2 * K + 1) * 2 ^ (2 * K')) hp
  have hpos : 0 < d ^ 24 * 2 ^ (2 * K) := Nat.mul_pos (Nat.pow_pos hd) (Nat.pow_pos (by decide))
  have a3 := Nat.mul_lt_mul_of_pos_right h2' hpos
  have e1 : n ^ 24 * 2 ^ (2 * K + 1) * (d' ^ 24 * 2 ^ (2 * K')) = n ^ 24 * d' ^ 24 * (2 ^ (2 * K + 1) * 2 ^ (2 * K')) := by ac_rfl
  have e2 : n' ^ 24 * d ^ 24 * (2 ^ (2 * K + 1) * 2 ^ (2 * K')) = n' ^ 24 * 2 ^ (2 * K' + 1) * (d ^ 24 * 2 ^ (2 * K)) := by
    rw [Nat.pow_succ 2 (2 * K), Nat.pow_succ 2 (2 * K')]; ac_rfl
  have a4 : d ^ 24 * 2 ^ (2 * N) * (d' ^ 24 * 2 ^ (2 * K')) < d' ^ 24 * 2 ^ (2 * N' + 2) * (d ^ 24 * 2 ^ (2 * K)) := by omega
  have e3 : d ^ 24 * 2 ^ (2 * N) * (d' ^ 24 * 2 ^ (2 * K')) = d ^ 24 * d' ^ 24 * 2 ^ (2 * N + 2 * K') := by rw [Nat.pow_add]; ac_rfl
  have e4 : d' ^ 24 * 2 ^ (2 * N' + 2) * (d ^ 24 * 2 ^ (2 * K)) = d ^ 24 * d' ^ 24 * 2 ^ (2 * N' + 2 + 2 * K) := by rw [Nat.pow_add 2 (2 * N' + 2)]; ac_rfl
  rw [e3, e4] at a4
  have := two_lt (Nat.lt_of_mul_lt_mul_left a4)
  omega
theorem sh_uniq {n d n' d' : Nat} {s s' : Int} (h : IsSh n d s) (h' : IsSh n' d' s') (hd : 0 < d) (hd' : 0 < d') (hc : n * d' = n' * d) : s = s' :=
  Int.le_antisymm (sh_mono h h' hd hd' (Nat.le_of_eq hc)) (sh_mono h' h hd' hd (Nat.le_of_eq hc.symm))

theorem sqrt_two : ∀ (Y X : Nat), X * X = 2 * (Y * Y) → Y = 0 := by
  intro Y
  induction Y using Nat.strongRecOn with
  | ind Y ih =>
    intro X h
    have hX : X % 2 = 0 := by
      rcases Nat.mod_two_eq_zero_or_one X with h0 | h0
      · exact h0
      · have : (X * X) % 2 = 1 := by rw [Nat.mul_mod, h0]
        omega
    obtain ⟨Z, rfl⟩ : ∃ Z, X = 2 * Z := ⟨X / 2, by omega⟩
    have e : 2 * Z * (2 * Z) = 4 * (Z * Z) := by rw [Nat.mul_mul_mul_comm]
    have h2 : Y * Y = 2 * (Z * Z) := by omega
    rcases Nat.eq_zero_or_pos Y with h0 | h0
    · exact h0
    · have hlt : Z < Y := by
        apply Nat.lt_of_not_le
        intro hle
        have := Nat.mul_le_mul hle hle
        have : 0 < Y * Y := Nat.mul_pos h0 h0
        omega
      have hz := ih Z hlt Y h2
      subst hz
      have : 0 < Y * Y := Nat.mul_pos h0 h0
      omega
theorem odd_even {x y N K : Nat} (hy : 0 < y) : x ^ 24 * 2 ^ (2 * N) ≠ y ^ 24 * 2 ^ (2 * K + 1) := by
  intro h
  have e1 : x ^ 24 * 2 ^ (2 * N) = (x ^ 12 * 2 ^ N) * (x ^ 12 * 2 ^ N) := by
    rw [show 2 * N = N + N by omega, Nat.pow_add 2 N N, show x ^ 24 = x ^ 12 * x ^ 12 from Nat.pow_add x 12 12]; ac_rfl
  have e2 : y ^ 24 * 2 ^ (2 * K + 1) = 2 * ((y ^ 12 * 2 ^ K) * (y ^ 12 * 2 ^ K)) := by
    rw [show 2 * K + 1 = K + K + 1 by omega, Nat.pow_succ 2 (K + K), Nat.pow_add 2 K K, show y ^ 24 = y ^ 12 * y ^ 12 from Nat.pow_add y 12 12]; ac_rfl
  rw [e1, e2] at h
  have := sqrt_two _ _ h
  have hp : 0 < y ^ 12 * 2 ^ K := Nat.mul_pos (Nat.pow_pos hy) (Nat.pow_pos (by decide))
  omega
theorem sh_neg {n d : Nat} {s : Int} (h : IsSh n d s) (hn : 0 < n) : IsSh d n (-s) := by
  obtain ⟨N, K, e, h1, h2⟩ := h
  refine ⟨K, N, by omega, ?_, ?_⟩
  · rw [Nat.pow_succ 2 (2 * K), show 2 * N + 2 = (2 * N + 1) + 1 from rfl, Nat.pow_succ 2 (2 * N + 1), ← Nat.mul_assoc, ← Nat.mul_assoc] at h2
    omega
  · have hne := odd_even (x := d) (y := n) (N := N) (K := K) hn
    have h3 : d ^ 24 * 2 ^ (2 * N) < n ^ 24 * 2 ^ (2 * K + 1) := by omega
    rw [Nat.pow_succ 2 (2 * N), ← Nat.mul_assoc, show 2 * K + 2 = (2 * K + 1) + 1 from rfl, Nat.pow_succ 2 (2 * K + 1), ← Nat.mul_assoc]
    omega
theorem sh_oct {n d : Nat} {s : Int} (h : IsSh n d s) : IsSh (2 * n) d (s + 12) := by
  obtain ⟨N, K, e, h1, h2⟩ := h
  have e0 : (2 * n) ^ 24 * 2 ^ (2 * K + 1) = n ^ 24 * 2 ^ (2 * K + 1) * 2 ^ 24 := by rw [Nat.mul_pow]; ac_rfl
  have e1 : d ^ 24 * 2 ^ (2 * (N + 12)) = d ^ 24 * 2 ^ (2 * N) * 2 ^ 24 := by rw [show 2 * (N + 12) = 2 * N + 24 by omega, Nat.pow_add]; ac_rfl
  have e2 : d ^ 24 * 2 ^ (2 * (N + 12) + 2) = d ^ 24 * 2 ^ (2 * N + 2) * 2 ^ 24 := by rw [show 2 * (N + 12) + 2 = (2 * N + 2) + 24 by omega, Nat.pow_add 2 (2 * N + 2)]; ac_rfl
  refine ⟨N + 12, K, by omega, ?_, ?_⟩
  · rw [e0, e1]; exact Nat.mul_le_mul_right _ h1
  · rw [e0, e2]; exact Nat.mul_lt_mul_of_pos_right h2 (by decide)
theorem sh_self {n : Nat} (hn : 0 < n) : IsSh n n 0 := by
  have : 0 < n ^ 24 := Nat.pow_pos hn
  exact ⟨0, 0, rfl, by simp only [Nat.mul_zero, Nat.pow_zero, Nat.zero_add, Nat.pow_one]; omega, by simp only [Nat.mul_zero, Nat.zero_add, Nat.pow_one]; omega⟩

theorem log_ex (B : Nat) (hB : 1 < B) (D : Nat) (hD : 0 < D) : ∀ V, D ≤ V → ∃ N, D * B ^ N ≤ V ∧ V < D * B ^ (N + 1) := by
  intro V
  induction V using Nat.strongRecOn with
  | ind V ih =>
    intro hV
    by_cases h : V < D * B
    · exact ⟨0, by simpa using hV, by simpa using h⟩
    · have h1 : D ≤ V / B := (Nat.le_div_iff_mul_le (by omega)).2 (by omega)
      have h2 : V / B < V := Nat.div_lt_self (by omega) hB
      obtain ⟨N, a, b⟩ := ih (V / B) h2 h1
      refine ⟨N + 1, ?_, ?_⟩
      · rw [Nat.pow_succ, ← Nat.mul_assoc]; exact (Nat.le_div_iff_mul_le (by omega)).1 a
      · rw [Nat.pow_succ, ← Nat.mul_assoc]; exact (Nat.div_lt_iff_lt_mul (by omega)).1 b
theorem sh_ex {n d : Nat} (hn : 0 < n) (hd : 0 < d) : ∃ s, IsSh n d s := by
  have h0 : d ^ 24 ≤ n ^ 24 * 2 ^ (2 * (12 * d) + 1) := by
    have h1 : d < 2 ^ d := Nat.lt_two_pow_self
    have h2 : d ^ 24 ≤ (2 ^ d) ^ 24 := Nat.pow_le_pow_left (Nat.le_of_lt h1) 24
    rw [← Nat.pow_mul, show d * 24 = 2 * (12 * d) by omega] at h2
    have h3 : 2 ^ (2 * (12 * d)) ≤ 2 ^ (2 * (12 * d) + 1) := Nat.pow_le_pow_right (by decide) (by omega)
    have h4 : 1 ≤ n ^ 24 := Nat.pow_pos hn
    calc d ^ 24 ≤ 2 ^ (2 * (12 * d) + 1) := by omega
      _ = 1 * 2 ^ (2 * (12 * d) + 1) := by rw [Nat.one_mul]
      _ ≤ n ^ 24 * 2 ^ (2 * (12 * d) + 1) := Nat.mul_le_mul_right _ h4
  obtain ⟨N, a, b⟩ := log_ex 4 (by decide) (d ^ 24) (Nat.pow_pos hd) _ h0
  have e4 : ∀ m, 4 ^ m = 2 ^ (2 * m) := fun m => by rw [Nat.pow_mul]
  rw [e4] at a
  rw [e4, show 2 * (N + 1) = 2 * N + 2 by omega] at b
  exact ⟨(N : Int) - ((12 * d : Nat) : Int), N, 12 * d, by omega, a, b⟩

/-- Octaves are taken off. -/
def Oct (num den i j : Nat) : Prop := (i = 0 ∨ j = 0) ∧ den * 2 ^ j ≤ num * 2 ^ i ∧ num * 2 ^ i < 2 * (den * 2 ^ j)
theorem oct_ex {n d : Nat} (hn : 0 < n) (hd : 0 < d) : ∃ i j, Oct n d i j := by
  by_cases h : d ≤ n
  · obtain ⟨N, a, b⟩ := log_ex 2 (by decide) d hd n h
    rw [Nat.pow_succ, ← Nat.mul_assoc] at b
    exact ⟨0, N, .inl rfl, by rw [Nat.pow_zero, Nat.mul_one]; exact a, by rw [Nat.pow_zero, Nat.mul_one]; omega⟩
  · obtain ⟨N, a, b⟩ := log_ex 2 (by decide) n hn d (by omega)
    by_cases e : n * 2 ^ N = d
    · exact ⟨N, 0, .inr rfl, by rw [Nat.pow_zero, Nat.mul_one]; omega, by rw [Nat.pow_zero, Nat.mul_one]; omega⟩
    · rw [Nat.pow_succ, ← Nat.mul_assoc] at b
      exact ⟨N + 1, 0, .inr rfl, by rw [Nat.pow_zero, Nat.mul_one, Nat.pow_succ, ← Nat.mul_assoc]; omega, by rw [Nat.pow_zero, Nat.mul_one, Nat.pow_succ, ← Nat.mul_assoc]; omega⟩
theorem oct_le {n d i j : Nat} (h : Oct n d i j) (hn : 0 < n) (hd : 0 < d) (hn2 : n ≤ 2097152) (hd2 : d ≤ 2097152) : i ≤ 21 ∧ j ≤ 21 := by
  obtain ⟨h0, h1, h2⟩ := h
  rcases h0 with rfl | rfl
  · rw [Nat.pow_zero, Nat.mul_one] at h1 h2
    refine ⟨by omega, ?_⟩
    have : 1 * 2 ^ j ≤ d * 2 ^ j := Nat.mul_le_mul_right _ hd
    have h3 : 2 ^ j < 2 ^ 22 := by omega
    have := two_lt h3; omega
  · rw [Nat.pow_zero, Nat.mul_one] at h1 h2
    refine ⟨?_, by omega⟩
    have : 1 * 2 ^ i ≤ n * 2 ^ i := Nat.mul_le_mul_right _ hn
    have h3 : 2 ^ i < 2 ^ 22 := by omega
    have := two_lt h3; omega
theorem pow_pred {i t : Nat} (h : t < i) : 2 * 2 ^ t ≤ 2 ^ i := by
  rw [Nat.mul_comm, ← Nat.pow_succ]; exact Nat.pow_le_pow_right (by decide) h
theorem oct_num_lt {n d i j t : Nat} (h : Oct n d i j) (ht : t < i) : n * 2 ^ t < d := by
  obtain ⟨h0, h1, h2⟩ := h
  obtain rfl : j = 0 := by omega
  rw [Nat.pow_zero, Nat.mul_one] at h2
  have := Nat.mul_le_mul_left n (pow_pred ht)
  rw [Nat.mul_left_comm] at this
  omega
theorem oct_den_le {n d i j t : Nat} (h : Oct n d i j) (ht : t < j) : 2 * (d * 2 ^ t) ≤ n := by
  obtain ⟨h0, h1, h2⟩ := h
  obtain rfl : i = 0 := by omega
  rw [Nat.pow_zero, Nat.mul_one] at h1
  have := Nat.mul_le_mul_left d (pow_pred ht)
  rw [Nat.mul_left_comm] at this
  omega
theorem le_pow (n i : Nat) : n ≤ n * 2 ^ i := Nat.le_mul_of_pos_right _ (Nat.pow_pos (by decide))
theorem oct_bd {n d i j : Nat} (h : Oct n d i j) (hn2 : n ≤ 2097152) (hd2 : d ≤ 2097152) : n * 2 ^ i ≤ 4194304 ∧ d * 2 ^ j ≤ 4194304 := by
  obtain ⟨h0, h1, h2⟩ := h
  rcases h0 with rfl | rfl
  · rw [Nat.pow_zero, Nat.mul_one] at h1 h2 ⊢; omega
  · rw [Nat.pow_zero, Nat.mul_one] at h1 h2 ⊢; omega

/-- The number of semitones within an octave. -/
def pS (a b n : Nat) : Bool := decide (a ^ 24 < b ^ 24 * 2 ^ (2 * n + 1))
theorem pS_mono {a b : Nat} {m n : Nat} (h : m ≤ n) (hp : pS a b m = true) : pS a b n = true := by
  unfold pS at *
  rw [decide_eq_true_eq] at *
  exact Nat.lt_of_lt_of_le hp (Nat.mul_le_mul_left _ (Nat.pow_le_pow_right (by decide) (by omega)))
def St (a b n : Nat) : Prop := n ≤ 12 ∧ (∀ m, m < n → pS a b m = false) ∧ (∀ m, n ≤ m → m < 12 → pS a b m = true)
theorem st_ex (a b : Nat) : ∃ n, St a b n := by
  have : ∀ k, k ≤ 12 → ∃ n, n ≤ k ∧ (∀ m, m < n → pS a b m = false) ∧ (∀ m, n ≤ m → m < k → pS a b m = true) := by
    intro k
    induction k with
    | zero => exact fun _ => ⟨0, Nat.le_refl _, fun m h => absurd h (Nat.not_lt_zero _), fun m _ h => absurd h (Nat.not_lt_zero _)⟩
    | succ k ih =>
      intro hk
      obtain ⟨n, h1, h2, h3⟩ := ih (by omega)
      by_cases hn : n = k
      · cases hp : pS a b k with
        | true => exact ⟨n, by omega, h2, fun m h4 h5 => by
            by_cases e : m = k
            · subst e; exact hp
            · exact h3 m h4 (by omega)⟩
        | false => exact ⟨k + 1, Nat.le_refl _, fun m hm => by
            by_cases e : m = k
            · subst e; exact hp
            · exact h2 m (by omega), fun m h4 h5 => by omega⟩
      · exact ⟨n, by omega, h2, fun m h4 h5 => by
          by_cases e : m = k
          · subst e; exact pS_mono (m := n) h4 (h3 n (Nat.le_refl _) (by omega))
          · exact h3 m h4 (by omega)⟩
  exact this 12 (Nat.le_refl _)
theorem st_sh {a b n : Nat} (hb : 0 < b) (h1 : b ≤ a) (h2 : a < 2 * b) (h : St a b n) : b ^ 24 * 2 ^ (2 * n) ≤ a ^ 24 * 2 ∧ a ^ 24 * 2 < b ^ 24 * 2 ^ (2 * n + 2) := by
  obtain ⟨hn, hl, hr⟩ := h
  constructor
  · cases n with
    | zero =>
      have := Nat.pow_le_pow_left h1 24
      rw [Nat.mul_zero, Nat.pow_zero]; omega
    | succ k =>
      have := hl k (by omega)
      unfold pS at this
      rw [decide_eq_false_iff_not] at this
      rw [show 2 * (k + 1) = (2 * k + 1) + 1 by omega, Nat.pow_succ 2 (2 * k + 1), ← Nat.mul_assoc]
      omega
  · rw [show 2 * n + 2 = (2 * n + 1) + 1 from rfl, Nat.pow_succ 2 (2 * n + 1), ← Nat.mul_assoc]
    have : a ^ 24 < b ^ 24 * 2 ^ (2 * n + 1) := by
      by_cases e : n < 12
      · have := hr n (Nat.le_refl _) e
        unfold pS at this
        exact of_decide_eq_true this
      · obtain rfl : n = 12 := by omega
        have h3 : a ^ 24 < (2 * b) ^ 24 := Nat.pow_lt_pow_left h2 (by decide)
        rw [Nat.mul_pow] at h3
        have h4 : 0 < b ^ 24 := Nat.pow_pos hb
        have e5 : b ^ 24 * 2 ^ (2 * 12 + 1) = b ^ 24 * 33554432 := rfl
        have e6 : 2 ^ 24 * b ^ 24 = 16777216 * b ^ 24 := rfl
        rw [e5]
        rw [e6] at h3
        omega
    omega
theorem sh_of {num den i j n : Nat} (hd : 0 < den) (h1 : den * 2 ^ j ≤ num * 2 ^ i) (h2 : num * 2 ^ i < 2 * (den * 2 ^ j)) (h : St (num * 2 ^ i) (den * 2 ^ j) n) :
    IsSh num den (12 * ((j : Int) - i) + n) := by
  obtain ⟨a, b⟩ := st_sh (Nat.mul_pos hd (Nat.pow_pos (by decide))) h1 h2 h
  have e1 : (num * 2 ^ i) ^ 24 * 2 = num ^ 24 * 2 ^ (2 * (12 * i) + 1) := by rw [Nat.mul_pow, Nat.pow_succ 2 (2 * (12 * i)), ← Nat.pow_mul, show i * 24 = 2 * (12 * i) by omega]; ac_rfl
  have e2 : ∀ k, (den * 2 ^ j) ^ 24 * 2 ^ k = den ^ 24 * 2 ^ (24 * j + k) := fun k => by rw [Nat.mul_pow, Nat.pow_add, ← Nat.pow_mul, Nat.mul_comm j 24]; ac_rfl
  rw [e1, e2] at a b
  refine ⟨12 * j + n, 12 * i, by omega, ?_, ?_⟩
  · rw [show 2 * (12 * j + n) = 24 * j + 2 * n by omega]; exact a
  · rw [show 2 * (12 * j + n) + 2 = 24 * j + (2 * n + 2) by omega]; exact b
theorem sh_is {num den i j n : Nat} {s : Int} (hs : IsSh num den s) (hd : 0 < den) (ho : Oct num den i j) (h : St (num * 2 ^ i) (den * 2 ^ j) n) : s = 12 * ((j : Int) - i) + n :=
  sh_uniq hs (sh_of hd ho.2.1 ho.2.2 h) hd hd rfl
theorem sh_bd {num den : Nat} {s : Int} (hs : IsSh num den s) (hn : 0 < num) (hd : 0 < den) (hn2 : num ≤ 2097152) (hd2 : den ≤ 2097152) : -300 ≤ s ∧ s ≤ 300 := by
  obtain ⟨i, j, ho⟩ := oct_ex hn hd
  obtain ⟨n, h⟩ := st_ex (num * 2 ^ i) (den * 2 ^ j)
  have := sh_is hs hd ho h
  have := oct_le ho hn hd hn2 hd2
  have := h.1
  omega
/-- A shift, shown by the numbers themselves. -/
theorem sh_lit (num den i j n : Nat) (hd : decide (0 < den) = true) (h1 : decide (den * 2 ^ j ≤ num * 2 ^ i) = true) (h2 : decide (num * 2 ^ i < 2 * (den * 2 ^ j)) = true)
    (h3 : decide (n ≤ 12) = true) (h4 : (n == 0 || !pS (num * 2 ^ i) (den * 2 ^ j) (n - 1)) = true) (h5 : (n == 12 || pS (num * 2 ^ i) (den * 2 ^ j) n) = true) : IsSh num den (12 * ((j : Int) - i) + n) := by
  refine sh_of (of_decide_eq_true hd) (of_decide_eq_true h1) (of_decide_eq_true h2) ⟨of_decide_eq_true h3, fun m hm => ?_, fun m hm hm2 => ?_⟩
  · cases hp : pS (num * 2 ^ i) (den * 2 ^ j) m with
    | false => rfl
    | true =>
      have := pS_mono (n := n - 1) (by omega) hp
      rw [this] at h4
      simp at h4
      omega
  · simp only [Bool.or_eq_true, beq_iff_eq] at h5
    rcases h5 with h5 | h5
    · omega
    · exact pS_mono hm h5
end Go.Proofs.YtbkbncapgljfaaaGreatDoor.Pt
/- Plain arithmetic on fractions (quotients in lowest terms, rounding down): no program is named here; no condition. -/
namespace Go.Proofs.YtbkbncapgljfaaaGreatDoor.FracMath
open Go.RowKit

def gg (a b : Int) : Nat := Nat.gcd a.natAbs b.natAbs
def rightB (n d : Int) : Bool := decide (1 ≤ d ∧ d ≤ 1000000 ∧ -1000000 ≤ n ∧ n ≤ 1000000 ∧ gg n d = 1)
def qn (n d : Int) : Int := if (decide (n < 0)) != (decide (d < 0)) then -((n.natAbs / gg n d : Nat) : Int) else ((n.natAbs / gg n d : Nat) : Int)
def qd (n d : Int) : Int := ((d.natAbs / gg n d : Nat) : Int)
def overB (n d : Int) : Bool := decide (1000000 < n.natAbs / gg n d ∨ 1000000 < d.natAbs / gg n d)
/-- numerator, denominator, error of the quotient of two ints -/
def mk (n d : Int) : Int × Int × Int := if d = 0 then (0, 0, 17) else if overB n d then (0, 0, 4) else (qn n d, qd n d, 0)

theorem gg_pos {n d : Int} (h : d ≠ 0) : 0 < gg n d := Nat.gcd_pos_of_pos_right _ (Int.natAbs_pos.2 h)
theorem gg_dvd_l (n d : Int) : gg n d ∣ n.natAbs := Nat.gcd_dvd_left _ _
theorem gg_dvd_r (n d : Int) : gg n d ∣ d.natAbs := Nat.gcd_dvd_right _ _
theorem gg_le {n d : Int} (h : d ≠ 0) : gg n d ≤ d.natAbs := Nat.le_of_dvd (Int.natAbs_pos.2 h) (gg_dvd_r n d)

/-- the exact division of n by s * g, where s is the sign of d -/
theorem tdiv_pos (n : Int) (g : Nat) : n.tdiv (g : Int) = if n < 0 then -((n.natAbs / g : Nat) : Int) else ((n.natAbs / g : Nat) : Int) := by
  rcases Int.natAbs_eq n with h | h
  · rw [if_neg (by omega)]; rw [h]; simp
  · by_cases h0 : n < 0
    · rw [if_pos h0]; rw [h, Int.neg_tdiv]; simp
    · have : n = 0 := by omega
      subst this; simp
theorem tdiv_neg' (n : Int) (g : Nat) : n.tdiv (-(g : Int)) = if n < 0 then ((n.natAbs / g : Nat) : Int) else -((n.natAbs / g : Nat) : Int) := by
  rw [Int.tdiv_neg, tdiv_pos]; split <;> simp
theorem qn_of_pos {n d : Int} (h : 0 ≤ d) : qn n d = n.tdiv (gg n d) := by
  unfold qn; rw [tdiv_pos]
  by_cases h0 : n < 0 <;> simp [h0, show ¬ d < 0 by omega]
theorem qn_of_neg {n d : Int} (h : d < 0) : qn n d = n.tdiv (-(gg n d : Int)) := by
  unfold qn; rw [tdiv_neg']
  by_cases h0 : n < 0 <;> simp [h0, h]
theorem qd_of_pos {n d : Int} (h : 0 ≤ d) : qd n d = d.tdiv (gg n d) := by
  unfold qd; rw [tdiv_pos, if_neg (by omega)]
theorem qd_of_neg {n d : Int} (h : d < 0) : qd n d = d.tdiv (-(gg n d : Int)) := by
  unfold qd; rw [tdiv_neg', if_pos h]
theorem natAbs_qn (n d : Int) : (qn n d).natAbs = n.natAbs / gg n d := by
  unfold qn; split
  · rw [Int.natAbs_neg, Int.natAbs_natCast]
  · rw [Int.natAbs_natCast]
theorem natAbs_qd (n d : Int) : (qd n d).natAbs = d.natAbs / gg n d := by unfold qd; rw [Int.natAbs_natCast]
theorem gg_quot {n d : Int} (h : d ≠ 0) : gg (qn n d) (qd n d) = 1 := by
  unfold gg; rw [natAbs_qn, natAbs_qd]
  exact Nat.gcd_div_gcd_div_gcd_of_pos_right (Int.natAbs_pos.2 h)
theorem qd_pos {n d : Int} (h : d ≠ 0) : 1 ≤ qd n d := by
  unfold qd
  have := Nat.div_pos (gg_le (n := n) h) (gg_pos (n := n) h)
  omega
theorem right_quot {n d : Int} (h : d ≠ 0) : rightB (qn n d) (qd n d) = !overB n d := by
  have h1 := gg_quot (n := n) h
  have h2 := qd_pos (n := n) h
  have h3 := natAbs_qn n d
  have h4 : qd n d = ((d.natAbs / gg n d : Nat) : Int) := rfl
  unfold rightB overB
  rw [h1]
  rw [Bool.eq_iff_iff]; simp only [decide_eq_true_eq, Bool.not_eq_true', decide_eq_false_iff_not, not_or, and_true]
  generalize qn n d = a at h3 ⊢; generalize n.natAbs / gg n d = x at h3 ⊢; generalize d.natAbs / gg n d = y at h4 ⊢
  generalize qd n d = b at h2 h4 ⊢
  omega

theorem quot_bounds (n d : Int) (h1 : -9223372036854775808 ≤ n) (h2 : n ≤ 9223372036854775807) (h3 : -9223372036854775808 ≤ d) (h4 : d ≤ 9223372036854775807) (hg : 1 ≤ Nat.gcd n.natAbs d.natAbs) :
    0 ≤ (n.natAbs : Int) / (Nat.gcd n.natAbs d.natAbs : Nat) ∧ (n.natAbs : Int) / (Nat.gcd n.natAbs d.natAbs : Nat) ≤ 9223372036854775808 ∧ 0 ≤ (d.natAbs : Int) / (Nat.gcd n.natAbs d.natAbs : Nat) ∧ (d.natAbs : Int) / (Nat.gcd n.natAbs d.natAbs : Nat) ≤ 9223372036854775808 := by
  have a1 : (n.natAbs : Int) / (Nat.gcd n.natAbs d.natAbs : Nat) ≤ n.natAbs := by
    have := Nat.div_le_self n.natAbs (Nat.gcd n.natAbs d.natAbs)
    rw [← Int.natCast_ediv]; omega
  have a2 : (d.natAbs : Int) / (Nat.gcd n.natAbs d.natAbs : Nat) ≤ d.natAbs := by
    have := Nat.div_le_self d.natAbs (Nat.gcd n.natAbs d.natAbs)
    rw [← Int.natCast_ediv]; omega
  exact ⟨Int.ediv_nonneg (by omega) (by omega), by omega, Int.ediv_nonneg (by omega) (by omega), by omega⟩
theorem over_right {n d : Int} (h : overB n d = true) (h1 : ¬ 1000000 < (n.natAbs : Int) / (Nat.gcd n.natAbs d.natAbs : Nat)) : 1000000 < (d.natAbs : Int) / (Nat.gcd n.natAbs d.natAbs : Nat) := by
  unfold overB gg at h
  rw [← Int.natCast_ediv] at h1 ⊢
  simp only [decide_eq_true_eq] at h
  omega
theorem not_over {n d : Int} (h : overB n d = false) : (n.natAbs : Int) / (Nat.gcd n.natAbs d.natAbs : Nat) ≤ 1000000 ∧ (d.natAbs : Int) / (Nat.gcd n.natAbs d.natAbs : Nat) ≤ 1000000 := by
  unfold overB gg at h
  rw [← Int.natCast_ediv, ← Int.natCast_ediv]
  simp only [decide_eq_false_iff_not, not_or] at h
  omega
theorem qn_same {n d : Int} (h : (decide (n < 0) != decide (d < 0)) = false) : qn n d = (n.natAbs : Int) / (Nat.gcd n.natAbs d.natAbs : Nat) := by
  unfold qn gg; rw [h, if_neg (by decide), Int.natCast_ediv]
theorem qn_other {n d : Int} (h : (decide (n < 0) != decide (d < 0)) = true) : qn n d = -((n.natAbs : Int) / (Nat.gcd n.natAbs d.natAbs : Nat)) := by
  unfold qn gg; rw [h, if_pos rfl, Int.natCast_ediv]
theorem qd_cast (n d : Int) : qd n d = (d.natAbs : Int) / (Nat.gcd n.natAbs d.natAbs : Nat) := by
  unfold qd gg; rw [Int.natCast_ediv]

theorem mk_zero (n : Int) : mk n 0 = (0, 0, 17) := rfl
theorem mk_over {n d : Int} (hd : d ≠ 0) (h : overB n d = true) : mk n d = (0, 0, 4) := by unfold mk; rw [if_neg hd, h, if_pos rfl]
theorem mk_ok {n d : Int} (hd : d ≠ 0) (h : overB n d = false) : mk n d = (qn n d, qd n d, 0) := by unfold mk; rw [if_neg hd, h, if_neg (by decide)]

/-! ## The reference's way to the same quotient: the divisor may be the least int, where it wraps. -/
theorem gg_bound {n d : Int} (h : d ≠ 0) (hd : -9223372036854775808 ≤ d) (hd' : d ≤ 9223372036854775807) : gg n d ≤ 9223372036854775808 := by
  have := gg_le (n := n) h; omega
theorem big_gg {n d : Int} (h : d ≠ 0) (hn : -9223372036854775808 ≤ n) (hn' : n ≤ 9223372036854775807) (hd : -9223372036854775808 ≤ d) (hd' : d ≤ 9223372036854775807)
    (hg : gg n d = 9223372036854775808) : d = -9223372036854775808 ∧ (n = 0 ∨ n = -9223372036854775808) := by
  have h1 := gg_le (n := n) h
  obtain ⟨k, hk⟩ := gg_dvd_l n d
  rw [hg] at h1 hk
  omega
theorem tm (a b : Int) : (0 ≤ a → a.tmod b = a % b ∧ a.tdiv b = a / b) ∧ (a < 0 → a.tmod b = -((-a) % b) ∧ a.tdiv b = -((-a) / b)) := by
  constructor
  · intro h; exact ⟨Int.tmod_eq_emod_of_nonneg h, Int.tdiv_eq_ediv_of_nonneg h⟩
  · intro h
    have h1 : a.tmod b = -((-a).tmod b) := by rw [Int.neg_tmod]; omega
    have h2 : a.tdiv b = -((-a).tdiv b) := by rw [Int.neg_tdiv]; omega
    rw [h1, h2, Int.tmod_eq_emod_of_nonneg (by omega), Int.tdiv_eq_ediv_of_nonneg (by omega)]; exact ⟨rfl, rfl⟩
theorem ediv_uniq {a b q r : Int} (hb : 0 < b) (h : a = b * q + r) (h0 : 0 ≤ r) (h1 : r < b) : a / b = q := by
  rw [h, Int.add_comm, Int.add_mul_ediv_left _ _ (by omega), Int.ediv_eq_zero_of_lt h0 h1]; omega
theorem floor1 (a b : Int) (hb : 0 < b) : (if a.tmod b < 0 then a.tdiv b - 1 else a.tdiv b) = a / b := by
  have e : a.tdiv b * b + a.tmod b = a := Int.tdiv_mul_add_tmod a b
  have r1 := Int.tmod_lt_of_pos a hb
  have r2 := Int.lt_tmod_of_pos a hb
  split
  · refine (ediv_uniq (r := a.tmod b + b) hb ?_ (by omega) (by omega)).symm
    rw [Int.mul_sub, Int.mul_comm b]; omega
  · refine (ediv_uniq (r := a.tmod b) hb ?_ (by omega) (by omega)).symm
    rw [Int.mul_comm b]; omega
theorem floor2 (a b : Int) (hb : 0 < b) : (if a < a.tdiv b * b then a.tdiv b - 1 else a.tdiv b) = a / b := by
  have e : a.tdiv b * b + a.tmod b = a := Int.tdiv_mul_add_tmod a b
  rw [← floor1 a b hb]
  split <;> split <;> first | rfl | omega

theorem qn_bd {n d : Int} (h1 : -9223372036854775808 ≤ n) (h2 : n ≤ 9223372036854775807) : -9223372036854775808 ≤ qn n d ∧ qn n d ≤ 9223372036854775808 := by
  have := natAbs_qn n d
  have := Nat.div_le_self n.natAbs (gg n d)
  omega
theorem qd_bd {n d : Int} (h3 : -9223372036854775808 ≤ d) (h4 : d ≤ 9223372036854775807) : 0 ≤ qd n d ∧ qd n d ≤ 9223372036854775808 := by
  have h5 := Nat.div_le_self d.natAbs (gg n d)
  unfold qd
  generalize d.natAbs / gg n d = x at h5 ⊢
  omega
theorem wrap_quot {n d : Int} (h1 : -9223372036854775808 ≤ n) (h2 : n ≤ 9223372036854775807) (h3 : -9223372036854775808 ≤ d) (h4 : d ≤ 9223372036854775807) (hd : d ≠ 0) :
    rightB (wrap64 (qn n d)) (wrap64 (qd n d)) = !overB n d := by
  obtain ⟨a1, a2⟩ := qn_bd (d := d) h1 h2
  obtain ⟨b1, b2⟩ := qd_bd (n := n) h3 h4
  have hr := right_quot (n := n) hd
  have k1 := natAbs_qn n d
  have k2 := natAbs_qd n d
  cases ho : overB n d
  · rw [ho] at hr
    unfold overB at ho
    simp only [decide_eq_false_iff_not, not_or] at ho
    have e1 : wrap64 (qn n d) = qn n d := by unfold wrap64; omega
    have e2 : wrap64 (qd n d) = qd n d := by unfold wrap64; omega
    rw [e1, e2]; exact hr
  · unfold overB at ho
    simp only [decide_eq_true_eq] at ho
    unfold rightB
    simp only [Bool.not_true, decide_eq_false_iff_not]
    intro h
    obtain ⟨g1, g2, g3, g4, _⟩ := h
    unfold wrap64 at g1 g2 g3 g4
    omega
theorem quot_in {n d : Int} (ho : overB n d = false) : wrap64 (qn n d) = qn n d ∧ wrap64 (qd n d) = qd n d := by
  have k1 := natAbs_qn n d
  have k2 := natAbs_qd n d
  have k3 : 0 ≤ qd n d := Int.natCast_nonneg _
  unfold overB at ho
  simp only [decide_eq_false_iff_not, not_or] at ho
  constructor
  · unfold wrap64; omega
  · unfold wrap64; omega
theorem right_in {n d : Int} (h1 : -1000000 ≤ n) (h2 : n ≤ 1000000) (h3 : 1 ≤ d) (h4 : d ≤ 1000000) : rightB n d = decide ((gg n d : Int) = 1) := by
  unfold rightB
  rw [Bool.eq_iff_iff]; simp only [decide_eq_true_eq]; omega
theorem right_out {n d : Int} (h : ¬ (-1000000 ≤ n ∧ n ≤ 1000000 ∧ 1 ≤ d ∧ d ≤ 1000000)) : rightB n d = false := by
  unfold rightB
  simp only [decide_eq_false_iff_not]; omega
theorem right_of {n d : Int} (h : rightB n d = true) : -1000000 ≤ n ∧ n ≤ 1000000 ∧ 1 ≤ d ∧ d ≤ 1000000 ∧ gg n d = 1 := by
  unfold rightB at h
  simp only [decide_eq_true_eq] at h; omega
theorem right_pos {n d : Int} (h : 1 ≤ d) : rightB (n.tdiv (gg n d : Nat)) (d / (gg n d : Nat)) = !overB n d := by
  rw [← right_quot (n := n) (d := d) (by omega), qn_of_pos (by omega), qd_of_pos (by omega), Int.tdiv_eq_ediv_of_nonneg (a := d) (by omega)]
theorem quot_pos {n d : Int} (h : 1 ≤ d) (_ : overB n d = false) : n.tdiv (gg n d : Nat) = qn n d ∧ d / (gg n d : Nat) = qd n d := by
  rw [qn_of_pos (by omega), qd_of_pos (by omega), Int.tdiv_eq_ediv_of_nonneg (a := d) (by omega)]; exact ⟨rfl, rfl⟩
theorem qn_neg {n d : Int} (h : d < 0) : qn n d = -(n.tdiv (gg n d : Nat)) := by rw [qn_of_neg h, Int.tdiv_neg]
theorem qd_neg {n d : Int} (h : d < 0) : qd n d = -(d.tdiv (gg n d : Nat)) := by rw [qd_of_neg h, Int.tdiv_neg]
theorem right_neg {n d : Int} (h1 : -9223372036854775808 ≤ n) (h2 : n ≤ 9223372036854775807) (h : d < 0) (h3 : -9223372036854775808 ≤ d) : rightB (wrap64 (-(n.tdiv (gg n d : Nat)))) (wrap64 (-(d.tdiv (gg n d : Nat)))) = !overB n d := by
  rw [← qn_neg h, ← qd_neg h]; exact wrap_quot h1 h2 h3 (by omega) (by omega)
theorem quot_neg {n d : Int} (h : d < 0) (ho : overB n d = false) : wrap64 (-(n.tdiv (gg n d : Nat))) = qn n d ∧ wrap64 (-(d.tdiv (gg n d : Nat))) = qd n d := by
  rw [← qn_neg h, ← qd_neg h]; exact quot_in ho
theorem gg_one (n : Int) : gg n 1 = 1 := Nat.gcd_one_right _
theorem mk_one_ok {n : Int} (h : n ≤ 1000000 ∧ -1000000 ≤ n) : mk n 1 = (n, 1, 0) := by
  have ho : overB n 1 = false := by
    unfold overB; rw [gg_one, Nat.div_one]
    simp only [decide_eq_false_iff_not]; omega
  rw [mk_ok (by decide) ho]
  have e1 : qn n 1 = n := by rw [qn_of_pos (by decide), gg_one]; exact Int.tdiv_one n
  have e2 : qd n 1 = 1 := by rw [qd_of_pos (by decide), gg_one]; rfl
  rw [e1, e2]
theorem mk_one_over {n : Int} (h : ¬ (n ≤ 1000000 ∧ -1000000 ≤ n)) : mk n 1 = (0, 0, 4) := by
  refine mk_over (by decide) ?_
  unfold overB; rw [gg_one, Nat.div_one]
  simp only [decide_eq_true_eq]; omega
theorem prod_bd {x y : Int} (hx : -1000000 ≤ x ∧ x ≤ 1000000) (hy : -1000000 ≤ y ∧ y ≤ 1000000) : -1000000000000 ≤ x * y ∧ x * y ≤ 1000000000000 := by
  have h : (x * y).natAbs ≤ 1000000 * 1000000 := by rw [Int.natAbs_mul]; exact Nat.mul_le_mul (by omega) (by omega)
  omega
theorem den_bd {x y : Int} (hx : 1 ≤ x ∧ x ≤ 1000000) (hy : 1 ≤ y ∧ y ≤ 1000000) : 1 ≤ x * y ∧ x * y ≤ 1000000000000 := by
  have h1 := Int.mul_pos (a := x) (b := y) (by omega) (by omega)
  have h2 := (prod_bd (x := x) (y := y) ⟨by omega, by omega⟩ ⟨by omega, by omega⟩).2
  omega
/-- numerator and denominator of a described fraction -/
def sn (p q : Int) : Int := qn p (q + 1)
def sd (p q : Int) : Int := qd p (q + 1)
theorem small_over {p q : Int} (h1 : -32768 ≤ p) (h2 : p ≤ 32767) (h3 : 0 ≤ q) (h4 : q ≤ 255) : overB p (q + 1) = false := by
  unfold overB
  simp only [decide_eq_false_iff_not, not_or]
  have a := Nat.div_le_self p.natAbs (gg p (q + 1))
  have b := Nat.div_le_self (q + 1).natAbs (gg p (q + 1))
  omega
theorem mk_small {p q : Int} (h1 : -32768 ≤ p) (h2 : p ≤ 32767) (h3 : 0 ≤ q) (h4 : q ≤ 255) : mk p (q + 1) = (sn p q, sd p q, 0) :=
  mk_ok (by omega) (small_over h1 h2 h3 h4)
theorem small_right {p q : Int} (h1 : -32768 ≤ p) (h2 : p ≤ 32767) (h3 : 0 ≤ q) (h4 : q ≤ 255) : rightB (sn p q) (sd p q) = true := by
  unfold sn sd
  rw [right_quot (by omega), small_over h1 h2 h3 h4]; rfl
end Go.Proofs.YtbkbncapgljfaaaGreatDoor.FracMath
/- Plain arithmetic of digits to a base: sums and products digit by digit, with carries; decimal numerals are unique; no program is named here. -/
namespace Go.Proofs.YtbkbncapgljfaaaGreatDoor.Im

section
variable {b : Nat}

/-- Digit number k of n to the base b. -/
def dg (b n k : Nat) : Nat := n / b ^ k % b

/-- How many digits n has to the base b (none for 0). -/
def nd (b n : Nat) : Nat := if h : 2 ≤ b ∧ 0 < n then nd b (n / b) + 1 else 0
termination_by n
decreasing_by exact Nat.div_lt_self h.2 h.1

theorem nd_zero : nd b 0 = 0 := by rw [nd, dif_neg (by omega)]
theorem nd_pos (hb : 2 ≤ b) {n : Nat} (h : 0 < n) : nd b n = nd b (n / b) + 1 := by rw [nd, dif_pos ⟨hb, h⟩]
theorem dg_lt (hb : 2 ≤ b) (n k : Nat) : dg b n k < b := Nat.mod_lt _ (by omega)

theorem nd_unique (hb : 2 ≤ b) : ∀ (k n : Nat), b ^ k ≤ n → n < b ^ (k + 1) → nd b n = k + 1
  | 0, n, h1, h2 => by
    rw [Nat.pow_zero] at h1
    rw [Nat.zero_add, Nat.pow_one] at h2
    rw [nd_pos hb (by omega), Nat.div_eq_of_lt h2, nd_zero]
  | k + 1, n, h1, h2 => by
    have hp : 0 < b ^ (k + 1) := Nat.pow_pos (by omega)
    rw [nd_pos hb (by omega), nd_unique hb k (n / b) ((Nat.le_div_iff_mul_le (by omega)).2 (by rw [← Nat.pow_succ]; exact h1)) ((Nat.div_lt_iff_lt_mul (by omega)).2 (by rw [← Nat.pow_succ]; exact h2))]
theorem lt_pow_nd (hb : 2 ≤ b) (n : Nat) : n < b ^ nd b n := by
  induction n using Nat.strongRecOn with
  | _ n ih =>
    by_cases h : n = 0
    · subst h; rw [nd_zero]; simp
    · rw [nd_pos hb (by omega), Nat.pow_succ]
      exact (Nat.div_lt_iff_lt_mul (by omega)).1 (ih _ (Nat.div_lt_self (by omega) hb))
theorem pow_nd_le (hb : 2 ≤ b) {n : Nat} (h : 0 < n) : b ^ (nd b n - 1) ≤ n := by
  induction n using Nat.strongRecOn with
  | _ n ih =>
    rw [nd_pos hb h, Nat.add_sub_cancel]
    by_cases h1 : n / b = 0
    · rw [h1, nd_zero, Nat.pow_zero]; exact h
    · have h2 := Nat.pos_of_ne_zero h1
      have := ih _ (Nat.div_lt_self h hb) h2
      rw [nd_pos hb (n := n / b) h2] at this ⊢
      rw [Nat.add_sub_cancel] at this
      rw [Nat.pow_succ]
      exact (Nat.le_div_iff_mul_le (by omega)).1 this
theorem nd_le (hb : 2 ≤ b) {n k : Nat} (h : n < b ^ k) : nd b n ≤ k := by
  by_cases h0 : n = 0
  · subst h0; rw [nd_zero]; omega
  · have h1 := pow_nd_le hb (n := n) (by omega)
    rcases Nat.lt_or_ge k (nd b n) with h2 | h2
    · have := Nat.pow_le_pow_right (n := b) (by omega) (show k ≤ nd b n - 1 by omega)
      omega
    · exact h2
theorem nd_eq_zero (hb : 2 ≤ b) {n : Nat} (h : nd b n = 0) : n = 0 := by
  rcases Nat.eq_zero_or_pos n with h0 | h0
  · exact h0
  · rw [nd_pos hb h0] at h; omega
theorem nd_mono (hb : 2 ≤ b) {m n : Nat} (h : m ≤ n) : nd b m ≤ nd b n := nd_le hb (Nat.lt_of_le_of_lt h (lt_pow_nd hb n))

theorem dg_high {n k : Nat} (h : n < b ^ k) : dg b n k = 0 := by
  unfold dg
  rw [Nat.div_eq_of_lt h, Nat.zero_mod]
theorem dg_above (hb : 2 ≤ b) {n k : Nat} (h : nd b n ≤ k) : dg b n k = 0 :=
  dg_high (Nat.lt_of_lt_of_le (lt_pow_nd hb n) (Nat.pow_le_pow_right (by omega) h))
/-- A number below b to k + 1 whose digit k is 0 is below b to k. -/
theorem lt_of_dg {n k : Nat} (hb : 2 ≤ b) (h : n < b ^ (k + 1)) (h0 : dg b n k = 0) : n < b ^ k := by
  unfold dg at h0
  have h1 : n / b ^ k < b := (Nat.div_lt_iff_lt_mul (Nat.pow_pos (by omega))).2 (by rw [Nat.mul_comm, ← Nat.pow_succ]; exact h)
  rw [Nat.mod_eq_of_lt h1] at h0
  rcases (Nat.div_eq_zero_iff).1 h0 with h2 | h2
  · have := Nat.pow_pos (n := k) (show 0 < b by omega); omega
  · exact h2
theorem nd_of_dg {n k : Nat} (hb : 2 ≤ b) (h : n < b ^ (k + 1)) (h0 : dg b n k ≠ 0) : nd b n = k + 1 := by
  refine nd_unique hb k n ?_ h
  rcases Nat.lt_or_ge n (b ^ k) with h1 | h1
  · exact absurd (dg_high h1) h0
  · exact h1
theorem dg_top (hb : 2 ≤ b) {n : Nat} (h : 0 < n) : dg b n (nd b n - 1) ≠ 0 := fun h0 => by
  have h1 := nd_pos hb h
  have := lt_of_dg (b := b) (n := n) (k := nd b n - 1) hb (by rw [show nd b n - 1 + 1 = nd b n by omega]; exact lt_pow_nd hb n) h0
  have := pow_nd_le hb h
  omega

theorem mod_succ (n k : Nat) : n % b ^ (k + 1) = n % b ^ k + b ^ k * dg b n k := Nat.mod_pow_succ
theorem mod_full (hb : 2 ≤ b) (n : Nat) : n % b ^ nd b n = n := Nat.mod_eq_of_lt (lt_pow_nd hb n)
theorem dg_mod {m n k : Nat} (h : m % b ^ (k + 1) = n % b ^ (k + 1)) : dg b m k = dg b n k := by
  unfold dg
  rw [← Nat.mod_mul_right_div_self, ← Nat.mod_mul_right_div_self, ← Nat.pow_succ, h]
/-- Numbers with the same digits are the same. -/
theorem eq_of_dg {k : Nat} : ∀ {m n : Nat}, (∀ j, j < k → dg b m j = dg b n j) → m % b ^ k = n % b ^ k := by
  induction k with
  | zero => intro m n _; simp [Nat.mod_one]
  | succ k ih => intro m n h; rw [mod_succ, mod_succ, ih (fun j hj => h j (by omega)), h k (by omega)]

/-- A step of a sum: x has its digits below i replaced by what y and the lower digits of x make, with a carry; d is added at place i. -/
theorem carry_sum (hb : 2 ≤ b) (x y d i : Nat) : (x % b ^ i + y) / b ^ i + dg b x i + d = (x % b ^ (i + 1) + (y + b ^ i * d)) / b ^ i := by
  have hp : 0 < b ^ i := Nat.pow_pos (by omega)
  rw [mod_succ, show x % b ^ i + b ^ i * dg b x i + (y + b ^ i * d) = (x % b ^ i + y) + b ^ i * (dg b x i + d) by rw [Nat.mul_add]; omega, Nat.add_mul_div_left _ _ hp]
  omega
theorem carry_digit (hb : 2 ≤ b) (x y d i : Nat) : ((x % b ^ i + y) / b ^ i + dg b x i + d) % b = dg b (x + (y + b ^ i * d)) i := by
  rw [carry_sum hb]
  exact dg_mod (by simp [Nat.add_mod])
theorem carry_next (hb : 2 ≤ b) (x y d i : Nat) : ((x % b ^ i + y) / b ^ i + dg b x i + d) / b = (x % b ^ (i + 1) + (y + b ^ i * d)) / b ^ (i + 1) := by
  rw [carry_sum hb, Nat.div_div_eq_div_mul, ← Nat.pow_succ]
end
end Go.Proofs.YtbkbncapgljfaaaGreatDoor.Im
/- Plain arithmetic of decimal numerals: each integer has one numeral; its digits in blocks; no program is named here. -/
namespace Go.Proofs.YtbkbncapgljfaaaGreatDoor.Im
open Go

theorem snoc_ind {α : Type} {P : List α → Prop} (h0 : P []) (h1 : ∀ l c, P l → P (l ++ [c])) (l : List α) : P l := by
  rw [← List.reverse_reverse l]
  induction l.reverse with
  | nil => exact h0
  | cons c r ih => rw [List.reverse_cons]; exact h1 _ _ ih

def isD (c : UInt8) : Bool := decide (48 ≤ c.toNat) && decide (c.toNat ≤ 57)
def valL (l : List UInt8) : Nat := l.foldl (fun n c => 10 * n + (c.toNat - 48)) 0

theorem val_from : ∀ (l : List UInt8) (n : Nat), l.foldl (fun n c => 10 * n + (c.toNat - 48)) n = n * 10 ^ l.length + valL l
  | [], n => by simp [valL]
  | c :: l, n => by
    have h1 := val_from l (10 * n + (c.toNat - 48))
    have h2 := val_from l (10 * 0 + (c.toNat - 48))
    unfold valL
    rw [List.foldl_cons, List.foldl_cons, h1, h2, List.length_cons, Nat.pow_succ, Nat.add_mul, Nat.add_mul, Nat.mul_zero, Nat.zero_mul, Nat.zero_add, show 10 * n * 10 ^ l.length = n * (10 ^ l.length * 10) by rw [Nat.mul_comm 10 n, Nat.mul_assoc, Nat.mul_comm 10]]
    omega
theorem val_append (l m : List UInt8) : valL (l ++ m) = valL l * 10 ^ m.length + valL m := by
  rw [show valL (l ++ m) = m.foldl (fun n c => 10 * n + (c.toNat - 48)) (valL l) by unfold valL; rw [List.foldl_append], val_from]
theorem val_snoc (l : List UInt8) (c : UInt8) : valL (l ++ [c]) = 10 * valL l + (c.toNat - 48) := by
  rw [val_append]; simp [valL]; omega
theorem val_nil : valL [] = 0 := rfl
theorem val_one (c : UInt8) : valL [c] = c.toNat - 48 := by simp [valL]
theorem isD_iff {c : UInt8} : isD c = true ↔ 48 ≤ c.toNat ∧ c.toNat ≤ 57 := by simp [isD]
theorem all_snoc {l : List UInt8} {c : UInt8} : (l ++ [c]).all isD = true ↔ l.all isD = true ∧ isD c = true := by simp [List.all_append]
theorem val_lt {l : List UInt8} : l.all isD = true → valL l < 10 ^ l.length := by
  induction l using snoc_ind with
  | h0 => intro _; simp [valL]
  | h1 l c ih =>
    intro h
    obtain ⟨h1, h2⟩ := all_snoc.1 h
    have h3 := ih h1
    have h4 := isD_iff.1 h2
    rw [val_snoc, List.length_append, List.length_singleton, Nat.pow_succ]
    omega
theorem val_ge {c : UInt8} {l : List UInt8} (hc : isD c = true) (h0 : c ≠ 48) : 10 ^ l.length ≤ valL (c :: l) := by
  rw [show c :: l = [c] ++ l from rfl, val_append, val_one]
  have h1 := isD_iff.1 hc
  have h2 : c.toNat ≠ 48 := fun e => h0 (UInt8.toNat_inj.1 e)
  have h3 : 10 ^ l.length * 1 ≤ (c.toNat - 48) * 10 ^ l.length := by rw [Nat.mul_comm]; exact Nat.mul_le_mul_right _ (by omega)
  omega

theorem head_app {l m : List UInt8} (h : l ≠ []) : (l ++ m).head? = l.head? := by
  cases l with
  | nil => exact absurd rfl h
  | cons _ _ => rfl

/-- The numeral of a natural number. -/
def canonL (l : List UInt8) : Bool := !l.isEmpty && l.all isD && (l.head? != some 48 || l == [48])

theorem digit_byte {d : Nat} (h : d < 10) : isD (UInt8.ofNat (48 + d)) = true ∧ (UInt8.ofNat (48 + d)).toNat = 48 + d := by
  have : (UInt8.ofNat (48 + d)).toNat = 48 + d := by rw [UInt8.toNat_ofNat']; omega
  exact ⟨isD_iff.2 (by omega), this⟩

theorem dec_small {u : Nat} (h : u < 10) : Lib.decDigits u = [UInt8.ofNat (48 + u)] := by rw [Lib.decDigits, dif_pos h]
theorem dec_big {u : Nat} (h : ¬ u < 10) : Lib.decDigits u = Lib.decDigits (u / 10) ++ [UInt8.ofNat (48 + u % 10)] := by rw [Lib.decDigits, dif_neg h]

theorem dec_all (u : Nat) : (Lib.decDigits u).all isD = true := by
  induction u using Nat.strongRecOn with
  | _ u ih =>
    by_cases h : u < 10
    · rw [dec_small h, List.all_cons, (digit_byte h).1]; rfl
    · rw [dec_big h, all_snoc]; exact ⟨ih _ (by omega), (digit_byte (Nat.mod_lt _ (by decide))).1⟩
theorem dec_val (u : Nat) : valL (Lib.decDigits u) = u := by
  induction u using Nat.strongRecOn with
  | _ u ih =>
    by_cases h : u < 10
    · rw [dec_small h, val_one, (digit_byte h).2]; omega
    · rw [dec_big h, val_snoc, ih _ (by omega), (digit_byte (Nat.mod_lt _ (by decide))).2]; omega
theorem dec_ne (u : Nat) : Lib.decDigits u ≠ [] := by
  by_cases h : u < 10
  · rw [dec_small h]; simp
  · rw [dec_big h]; simp
theorem dec_zero : Lib.decDigits 0 = [48] := by rw [dec_small (by decide)]; rfl
theorem dec_head {u : Nat} (h0 : 0 < u) : (Lib.decDigits u).head? ≠ some 48 := by
  induction u using Nat.strongRecOn with
  | _ u ih =>
    by_cases h : u < 10
    · rw [dec_small h]
      intro e
      have e1 : UInt8.ofNat (48 + u) = 48 := by simpa using e
      have := (digit_byte h).2
      rw [e1] at this
      simp at this
      omega
    · rw [dec_big h, head_app (dec_ne _)]
      exact ih _ (by omega) (by omega)
theorem dec_canon (u : Nat) : canonL (Lib.decDigits u) = true := by
  unfold canonL
  rw [dec_all]
  have h1 : (Lib.decDigits u).isEmpty = false := by
    cases h : Lib.decDigits u with
    | nil => exact absurd h (dec_ne u)
    | cons _ _ => rfl
  rw [h1]
  by_cases h : u = 0
  · subst h; rw [dec_zero]; rfl
  · have := dec_head (u := u) (by omega)
    simp [this]
theorem canonL_iff {l : List UInt8} : canonL l = true ↔ l ≠ [] ∧ l.all isD = true ∧ (l.head? ≠ some 48 ∨ l = [48]) := by
  unfold canonL
  cases l <;> simp [and_assoc]
/-- A numeral is the numeral of its value. -/
theorem canon_eq {l : List UInt8} : canonL l = true → Lib.decDigits (valL l) = l := by
  rw [canonL_iff]
  induction l using snoc_ind with
  | h0 => intro h; exact absurd rfl h.1
  | h1 l c ih =>
    rintro ⟨_, h2, h3⟩
    obtain ⟨ha, hc⟩ := all_snoc.1 h2
    have hc' := isD_iff.1 hc
    have e : UInt8.ofNat (48 + (c.toNat - 48)) = c := by
      apply UInt8.toNat_inj.1
      rw [UInt8.toNat_ofNat']; omega
    cases l with
    | nil =>
      rw [List.nil_append, val_one, dec_small (by omega), e]
    | cons x r =>
      have hx : x ≠ 48 := by
        rcases h3 with h3 | h3
        · simpa using h3
        · cases r <;> simp at h3
      have hl := ih ⟨by simp, ha, .inl (by simpa using hx)⟩
      have hv : 10 ^ r.length ≤ valL (x :: r) := val_ge (by simp at ha; exact ha.1) hx
      have hp : 0 < 10 ^ r.length := Nat.pow_pos (by decide)
      rw [val_snoc, dec_big (by omega), show (10 * valL (x :: r) + (c.toNat - 48)) / 10 = valL (x :: r) by omega, hl, show (10 * valL (x :: r) + (c.toNat - 48)) % 10 = c.toNat - 48 by omega, e]
theorem dec_unique {l : List UInt8} {n : Nat} (h : canonL l = true) (hv : valL l = n) : Lib.decDigits n = l := by rw [← hv]; exact canon_eq h

/-! ### Integers -/

/-- A text without its sign. -/
def dgs (l : List UInt8) : List UInt8 := if l.head? = some 45 then l.tail else l
def canonI (l : List UInt8) : Bool := l == [48] || (!(dgs l).isEmpty && (dgs l).head? != some 48 && (dgs l).all isD)
def ivL (l : List UInt8) : Int := if l.head? = some 45 then -(valL l.tail : Int) else valL l

theorem canonI_canon {l : List UInt8} (h : canonI l = true) : canonL (dgs l) = true ∧ (l.head? = some 45 → valL l.tail ≠ 0) := by
  unfold canonI at h
  rw [Bool.or_eq_true] at h
  rcases h with h | h
  · have e : l = [48] := by simpa using h
    subst e
    exact ⟨by decide, fun h => by simp at h⟩
  · simp only [Bool.and_eq_true, Bool.not_eq_true', bne_iff_ne, ne_eq] at h
    obtain ⟨⟨h1, h2⟩, h3⟩ := h
    have hne : dgs l ≠ [] := fun e => by rw [e] at h1; simp at h1
    refine ⟨canonL_iff.2 ⟨hne, h3, .inl h2⟩, fun hm => ?_⟩
    have e : dgs l = l.tail := by unfold dgs; rw [if_pos hm]
    rw [e] at hne h2 h3
    cases ht : l.tail with
    | nil => exact absurd ht hne
    | cons x r =>
      rw [ht] at h2 h3
      have := val_ge (c := x) (l := r) (by simp at h3; exact h3.1) (by simpa using h2)
      have hp : 0 < 10 ^ r.length := Nat.pow_pos (by decide)
      omega
theorem itoa_nonneg {z : Int} (h : 0 ≤ z) : Lib.itoa z = Lib.decDigits z.toNat := by unfold Lib.itoa; rw [if_neg (by omega)]
theorem itoa_neg {z : Int} (h : z < 0) : Lib.itoa z = 45 :: Lib.decDigits z.natAbs := by unfold Lib.itoa; rw [if_pos h]
theorem dec_head_digit (u : Nat) : (Lib.decDigits u).head? ≠ some 45 := fun e => by
  have h := dec_all u
  cases hl : Lib.decDigits u with
  | nil => exact dec_ne u hl
  | cons x r =>
    rw [hl] at h e
    simp at e
    subst e
    simp [isD] at h
theorem dgs_itoa (z : Int) : dgs (Lib.itoa z) = Lib.decDigits z.natAbs := by
  by_cases h : z < 0
  · rw [itoa_neg h]; rfl
  · rw [itoa_nonneg (by omega), show z.toNat = z.natAbs by omega]
    unfold dgs
    rw [if_neg (dec_head_digit _)]
theorem itoa_head (z : Int) : (Lib.itoa z).head? = some 45 ↔ z < 0 := by
  by_cases h : z < 0
  · rw [itoa_neg h]; simp [h]
  · rw [itoa_nonneg (by omega)]; simp [h, dec_head_digit]
theorem canonI_itoa (z : Int) : canonI (Lib.itoa z) = true := by
  unfold canonI
  rw [dgs_itoa, dec_all]
  by_cases h : z = 0
  · subst h; rw [itoa_nonneg (by omega), show ((0 : Int).toNat) = 0 from rfl, dec_zero]; rfl
  · have h1 := dec_head (u := z.natAbs) (by omega)
    have h2 : (Lib.decDigits z.natAbs).isEmpty = false := by
      cases h : Lib.decDigits z.natAbs with
      | nil => exact absurd h (dec_ne _)
      | cons _ _ => rfl
    simp [h1, h2]
theorem ivL_itoa (z : Int) : ivL (Lib.itoa z) = z := by
  unfold ivL
  by_cases h : z < 0
  · rw [if_pos ((itoa_head z).2 h), itoa_neg h, List.tail_cons, dec_val]; omega
  · rw [if_neg (fun e => h ((itoa_head z).1 e)), itoa_nonneg (by omega), dec_val]; omega
theorem itoa_ivL {l : List UInt8} (h : canonI l = true) : Lib.itoa (ivL l) = l := by
  obtain ⟨h1, h2⟩ := canonI_canon h
  unfold ivL
  by_cases hm : l.head? = some 45
  · rw [if_pos hm]
    have h3 := h2 hm
    rw [itoa_neg (by omega), show (-(valL l.tail : Int)).natAbs = valL l.tail by omega]
    have e : dgs l = l.tail := by unfold dgs; rw [if_pos hm]
    rw [e] at h1
    rw [canon_eq h1]
    cases l with
    | nil => simp at hm
    | cons x r => simp at hm; subst hm; rfl
  · rw [if_neg hm, itoa_nonneg (by omega)]
    have e : dgs l = l := by unfold dgs; rw [if_neg hm]
    rw [e] at h1
    exact canon_eq h1
theorem itoa_inj {y z : Int} (h : Lib.itoa y = Lib.itoa z) : y = z := by rw [← ivL_itoa y, h, ivL_itoa]

/-! ### Blocks of digits -/

theorem val_take {l : List UInt8} (h : l.all isD = true) {k : Nat} (hk : k ≤ l.length) : valL (l.take (l.length - k)) = valL l / 10 ^ k := by
  have e := List.take_append_drop (l.length - k) l
  have hv := val_append (l.take (l.length - k)) (l.drop (l.length - k))
  rw [e, List.length_drop, show l.length - (l.length - k) = k by omega] at hv
  have hd : (l.drop (l.length - k)).all isD = true := List.all_eq_true.2 fun x hx => List.all_eq_true.1 h x (List.mem_of_mem_drop hx)
  have hlt := val_lt hd
  rw [List.length_drop, show l.length - (l.length - k) = k by omega] at hlt
  rw [hv, Nat.mul_comm, Nat.mul_add_div (Nat.pow_pos (by decide)), Nat.div_eq_of_lt hlt, Nat.add_zero]
theorem val_drop {l : List UInt8} (h : l.all isD = true) {k : Nat} (hk : k ≤ l.length) : valL (l.drop (l.length - k)) = valL l % 10 ^ k := by
  have e := List.take_append_drop (l.length - k) l
  have hv := val_append (l.take (l.length - k)) (l.drop (l.length - k))
  rw [e, List.length_drop, show l.length - (l.length - k) = k by omega] at hv
  have hd : (l.drop (l.length - k)).all isD = true := List.all_eq_true.2 fun x hx => List.all_eq_true.1 h x (List.mem_of_mem_drop hx)
  have hlt := val_lt hd
  rw [List.length_drop, show l.length - (l.length - k) = k by omega] at hlt
  rw [hv, Nat.mul_comm, Nat.mul_add_mod, Nat.mod_eq_of_lt hlt]
theorem all_take {l : List UInt8} (h : l.all isD = true) (k : Nat) : (l.take k).all isD = true := List.all_eq_true.2 fun x hx => List.all_eq_true.1 h x (List.mem_of_mem_take hx)
theorem all_drop {l : List UInt8} (h : l.all isD = true) (k : Nat) : (l.drop k).all isD = true := List.all_eq_true.2 fun x hx => List.all_eq_true.1 h x (List.mem_of_mem_drop hx)
/-- The digits that stand c places, w of them, from the end. -/
theorem val_block {l : List UInt8} (h : l.all isD = true) {c w : Nat} (hk : c + w ≤ l.length) : valL ((l.take (l.length - c)).drop (l.length - c - w)) = valL l / 10 ^ c % 10 ^ w := by
  have h1 := val_drop (l := l.take (l.length - c)) (all_take h _) (k := w) (by rw [List.length_take]; omega)
  rw [List.length_take, show min (l.length - c) l.length = l.length - c by omega, val_take h (by omega)] at h1
  exact h1

/-- Zeros ahead of a numeral, to some width. -/
def pad (w n : Nat) : List UInt8 := List.replicate (w - (Lib.decDigits n).length) 48 ++ Lib.decDigits n
theorem val_zeros (k : Nat) : valL (List.replicate k 48) = 0 := by
  induction k with
  | zero => rfl
  | succ k ih => rw [List.replicate_succ', val_snoc, ih]; rfl
theorem dec_len {n k : Nat} (h : n < 10 ^ k) (hk : 0 < k) : (Lib.decDigits n).length ≤ k := by
  cases hl : Lib.decDigits n with
  | nil => simp
  | cons x r =>
    have ha := dec_all n
    rw [hl] at ha
    by_cases h0 : n = 0
    · subst h0; rw [dec_zero] at hl; cases hl; exact hk
    · have hx := dec_head (u := n) (by omega)
      rw [hl] at hx
      have := val_ge (c := x) (l := r) (by simp at ha; exact ha.1) (by simpa using hx)
      rw [← hl, dec_val] at this
      rcases Nat.lt_or_ge k (x :: r).length with h2 | h2
      · have h3 := Nat.pow_le_pow_right (n := 10) (by decide) (show k ≤ r.length by simp at h2; omega)
        omega
      · exact h2
theorem pad_len {w n : Nat} (h : n < 10 ^ w) (hw : 0 < w) : (pad w n).length = w := by
  have := dec_len h hw
  unfold pad
  rw [List.length_append, List.length_replicate]; omega
theorem pad_val (w n : Nat) : valL (pad w n) = n := by
  unfold pad
  rw [val_append, val_zeros, Nat.zero_mul, Nat.zero_add, dec_val]
theorem pad_all (w n : Nat) : (pad w n).all isD = true := by
  unfold pad
  rw [List.all_append, dec_all, Bool.and_true, List.all_eq_true]
  intro x hx
  rw [(List.mem_replicate.1 hx).2]; decide
/-- A numeral, and behind it the next block. -/
theorem dec_pad {q r w : Nat} (hq : 0 < q) (h : r < 10 ^ w) (hw : 0 < w) : Lib.decDigits (q * 10 ^ w + r) = Lib.decDigits q ++ pad w r := by
  refine dec_unique (canonL_iff.2 ⟨by simp [dec_ne], ?_, .inl ?_⟩) ?_
  · rw [List.all_append, dec_all, pad_all]; rfl
  · rw [head_app (dec_ne _)]; exact dec_head hq
  · rw [val_append, dec_val, pad_val, pad_len h hw]
end Go.Proofs.YtbkbncapgljfaaaGreatDoor.Im
