/- Plain arithmetic of decimal numerals: each integer has one numeral; its digits in blocks; no program is named here. -/
import Derived.Test.YtnchodofgaaeeaaGreatDoorImA
namespace Go.Proofs.YtnchodofgaaeeaaGreatDoor.Im
open Go

theorem snoc_ind {α : Type} {P : List α → Prop} (h0 : P []) (h1 : ∀ l c, P l → P (l ++ [c])) (l : List α) : P l := by
  rw [← List.reverse_reverse l]
  induction l.reverse with
  | nil => exact h0
  | cons c r ih => rw [List.reverse_cons]; exact h1 _ _ ih

def isD (c : UInt8) : Bool := decide (48 ≤ c.toNat) && decide (c.toNat ≤ 57)
def valL (l : List UInt8) : Nat := l.foldl (fun n c => 10 * n + (c.toNat - 48)) 0

theorem val_from : ∀ (l : List UInt8) (n : Nat), l.foldl (fun n c => 10 * n + (c.toNat - 48)) n = n * 10 ^ l.length + valL l
  | [], n => by simp [valL]
  | c :: l, n => by
    have h1 := val_from l (10 * n + (c.toNat - 48))
    have h2 := val_from l (10 * 0 + (c.toNat - 48))
    unfold valL
    rw [List.foldl_cons, List.foldl_cons, h1, h2, List.length_cons, Nat.pow_succ, Nat.add_mul, Nat.add_mul, Nat.mul_zero, Nat.zero_mul, Nat.zero_add, show 10 * n * 10 ^ l.length = n * (10 ^ l.length * 10) by rw [Nat.mul_comm 10 n, Nat.mul_assoc, Nat.mul_comm 10]]
    omega
theorem val_append (l m : List UInt8) : valL (l ++ m) = valL l * 10 ^ m.length + valL m := by
  rw [show valL (l ++ m) = m.foldl (fun n c => 10 * n + (c.toNat - 48)) (valL l) by unfold valL; rw [List.foldl_append], val_from]
theorem val_snoc (l : List UInt8) (c : UInt8) : valL (l ++ [c]) = 10 * valL l + (c.toNat - 48) := by
  rw [val_append]; simp [valL]; omega
theorem val_nil : valL [] = 0 := rfl
theorem val_one (c : UInt8) : valL [c] = c.toNat - 48 := by simp [valL]
theorem isD_iff {c : UInt8} : isD c = true ↔ 48 ≤ c.toNat ∧ c.toNat ≤ 57 := by simp [isD]
theorem all_snoc {l : List UInt8} {c : UInt8} : (l ++ [c]).all isD = true ↔ l.all isD = true ∧ isD c = true := by simp [List.all_append]
theorem val_lt {l : List UInt8} : l.all isD = true → valL l < 10 ^ l.length := by
  induction l using snoc_ind with
  | h0 => intro _; simp [valL]
  | h1 l c ih =>
    intro h
    obtain ⟨h1, h2⟩ := all_snoc.1 h
    have h3 := ih h1
    have h4 := isD_iff.1 h2
    rw [val_snoc, List.length_append, List.length_singleton, Nat.pow_succ]
    omega
theorem val_ge {c : UInt8} {l : List UInt8} (hc : isD c = true) (h0 : c ≠ 48) : 10 ^ l.length ≤ valL (c :: l) := by
  rw [show c :: l = [c] ++ l from rfl, val_append, val_one]
  have h1 := isD_iff.1 hc
  have h2 : c.toNat ≠ 48 := fun e => h0 (UInt8.toNat_inj.1 e)
  have h3 : 10 ^ l.length * 1 ≤ (c.toNat - 48) * 10 ^ l.length := by rw [Nat.mul_comm]; exact Nat.mul_le_mul_right _ (by omega)
  omega

theorem head_app {l m : List UInt8} (h : l ≠ []) : (l ++ m).head? = l.head? := by
  cases l with
  | nil => exact absurd rfl h
  | cons _ _ => rfl

/-- The numeral of a natural number. -/
def canonL (l : List UInt8) : Bool := !l.isEmpty && l.all isD && (l.head? != some 48 || l == [48])

theorem digit_byte {d : Nat} (h : d < 10) : isD (UInt8.ofNat (48 + d)) = true ∧ (UInt8.ofNat (48 + d)).toNat = 48 + d := by
  have : (UInt8.ofNat (48 + d)).toNat = 48 + d := by rw [UInt8.toNat_ofNat']; omega
  exact ⟨isD_iff.2 (by omega), this⟩

theorem dec_small {u : Nat} (h : u < 10) : Lib.decDigits u = [UInt8.ofNat (48 + u)] := by rw [Lib.decDigits, dif_pos h]
theorem dec_big {u : Nat} (h : ¬ u < 10) : Lib.decDigits u = Lib.decDigits (u / 10) ++ [UInt8.ofNat (48 + u % 10)] := by rw [Lib.decDigits, dif_neg h]

theorem dec_all (u : Nat) : (Lib.decDigits u).all isD = true := by
  induction u using Nat.strongRecOn with
  | _ u ih =>
    by_cases h : u < 10
    · rw [dec_small h, List.all_cons, (digit_byte h).1]; rfl
    · rw [dec_big h, all_snoc]; exact ⟨ih _ (by omega), (digit_byte (Nat.mod_lt _ (by decide))).1⟩
theorem dec_val (u : Nat) : valL (Lib.decDigits u) = u := by
  induction u using Nat.strongRecOn with
  | _ u ih =>
    by_cases h : u < 10
    · rw [dec_small h, val_one, (digit_byte h).2]; omega
    · rw [dec_big h, val_snoc, ih _ (by omega), (digit_byte (Nat.mod_lt _ (by decide))).2]; omega
theorem dec_ne (u : Nat) : Lib.decDigits u ≠ [] := by
  by_cases h : u < 10
  · rw [dec_small h]; simp
  · rw [dec_big h]; simp
theorem dec_zero : Lib.decDigits 0 = [48] := by rw [dec_small (by decide)]; rfl
theorem dec_head {u : Nat} (h0 : 0 < u) : (Lib.decDigits u).head? ≠ some 48 := by
  induction u using Nat.strongRecOn with
  | _ u ih =>
    by_cases h : u < 10
    · rw [dec_small h]
      intro e
      have e1 : UInt8.ofNat (48 + u) = 48 := by simpa using e
      have := (digit_byte h).2
      rw [e1] at this
      simp at this
      omega
    · rw [dec_big h, head_app (dec_ne _)]
      exact ih _ (by omega) (by omega)
theorem dec_canon (u : Nat) : canonL (Lib.decDigits u) = true := by
  unfold canonL
  rw [dec_all]
  have h1 : (Lib.decDigits u).isEmpty = false := by
    cases h : Lib.decDigits u with
    | nil => exact absurd h (dec_ne u)
    | cons _ _ => rfl
  rw [h1]
  by_cases h : u = 0
  · subst h; rw [dec_zero]; rfl
  · have := dec_head (u := u) (by omega)
    simp [this]
theorem canonL_iff {l : List UInt8} : canonL l = true ↔ l ≠ [] ∧ l.all isD = true ∧ (l.head? ≠ some 48 ∨ l = [48]) := by
  unfold canonL
  cases l <;> simp [and_assoc]
/-- A numeral is the numeral of its value. -/
theorem canon_eq {l : List UInt8} : canonL l = true → Lib.decDigits (valL l) = l := by
  rw [canonL_iff]
  induction l using snoc_ind with
  | h0 => intro h; exact absurd rfl h.1
  | h1 l c ih =>
    rintro ⟨_, h2, h3⟩
    obtain ⟨ha, hc⟩ := all_snoc.1 h2
    have hc' := isD_iff.1 hc
    have e : UInt8.ofNat (48 + (c.toNat - 48)) = c := by
      apply UInt8.toNat_inj.1
      rw [UInt8.toNat_ofNat']; omega
    cases l with
    | nil =>
      rw [List.nil_append, val_one, dec_small (by omega), e]
    | cons x r =>
      have hx : x ≠ 48 := by
        rcases h3 with h3 | h3
        · simpa using h3
        · cases r <;> simp at h3
      have hl := ih ⟨by simp, ha, .inl (by simpa using hx)⟩
      have hv : 10 ^ r.length ≤ valL (x :: r) := val_ge (by simp at ha; exact ha.1) hx
      have hp : 0 < 10 ^ r.length := Nat.pow_pos (by decide)
      rw [val_snoc, dec_big (by omega), show (10 * valL (x :: r) + (c.toNat - 48)) / 10 = valL (x :: r) by omega, hl, show (10 * valL (x :: r) + (c.toNat - 48)) % 10 = c.toNat - 48 by omega, e]
theorem dec_unique {l : List UInt8} {n : Nat} (h : canonL l = true) (hv : valL l = n) : Lib.decDigits n = l := by rw [← hv]; exact canon_eq h

/-! ### Integers -/

/-- A text without its sign. -/
def dgs (l : List UInt8) : List UInt8 := if l.head? = some 45 then l.tail else l
def canonI (l : List UInt8) : Bool := l == [48] || (!(dgs l).isEmpty && (dgs l).head? != some 48 && (dgs l).all isD)
def ivL (l : List UInt8) : Int := if l.head? = some 45 then -(valL l.tail : Int) else valL l

theorem canonI_canon {l : List UInt8} (h : canonI l = true) : canonL (dgs l) = true ∧ (l.head? = some 45 → valL l.tail ≠ 0) := by
  unfold canonI at h
  rw [Bool.or_eq_true] at h
  rcases h with h | h
  · have e : l = [48] := by simpa using h
    subst e
    exact ⟨by decide, fun h => by simp at h⟩
  · simp only [Bool.and_eq_true, Bool.not_eq_true', bne_iff_ne, ne_eq] at h
    obtain ⟨⟨h1, h2⟩, h3⟩ := h
    have hne : dgs l ≠ [] := fun e => by rw [e] at h1; simp at h1
    refine ⟨canonL_iff.2 ⟨hne, h3, .inl h2⟩, fun hm => ?_⟩
    have e : dgs l = l.tail := by unfold dgs; rw [if_pos hm]
    rw [e] at hne h2 h3
    cases ht : l.tail with
    | nil => exact absurd ht hne
    | cons x r =>
      rw [ht] at h2 h3
      have := val_ge (c := x) (l := r) (by simp at h3; exact h3.1) (by simpa using h2)
      have hp : 0 < 10 ^ r.length := Nat.pow_pos (by decide)
      omega
theorem itoa_nonneg {z : Int} (h : 0 ≤ z) : Lib.itoa z = Lib.decDigits z.toNat := by unfold Lib.itoa; rw [if_neg (by omega)]
theorem itoa_neg {z : Int} (h : z < 0) : Lib.itoa z = 45 :: Lib.decDigits z.natAbs := by unfold Lib.itoa; rw [if_pos h]
theorem dec_head_digit (u : Nat) : (Lib.decDigits u).head? ≠ some 45 := fun e => by
  have h := dec_all u
  cases hl : Lib.decDigits u with
  | nil => exact dec_ne u hl
  | cons x r =>
    rw [hl] at h e
    simp at e
    subst e
    simp [isD] at h
theorem dgs_itoa (z : Int) : dgs (Lib.itoa z) = Lib.decDigits z.natAbs := by
  by_cases h : z < 0
  · rw [itoa_neg h]; rfl
  · rw [itoa_nonneg (by omega), show z.toNat = z.natAbs by omega]
    unfold dgs
    rw [if_neg (dec_head_digit _)]
theorem itoa_head (z : Int) : (Lib.itoa z).head? = some 45 ↔ z < 0 := by
  by_cases h : z < 0
  · rw [itoa_neg h]; simp [h]
  · rw [itoa_nonneg (by omega)]; simp [h, dec_head_digit]
theorem canonI_itoa (z : Int) : canonI (Lib.itoa z) = true := by
  unfold canonI
  rw [dgs_itoa, dec_all]
  by_cases h : z = 0
  · subst h; rw [itoa_nonneg (by omega), show ((0 : Int).toNat) = 0 from rfl, dec_zero]; rfl
  · have h1 := dec_head (u := z.natAbs) (by omega)
    have h2 : (Lib.decDigits z.natAbs).isEmpty = false := by
      cases h : Lib.decDigits z.natAbs with
      | nil => exact absurd h (dec_ne _)
      | cons _ _ => rfl
    simp [h1, h2]
theorem ivL_itoa (z : Int) : ivL (Lib.itoa z) = z := by
  unfold ivL
  by_cases h : z < 0
  · rw [if_pos ((itoa_head z).2 h), itoa_neg h, List.tail_cons, dec_val]; omega
  · rw [if_neg (fun e => h ((itoa_head z).1 e)), itoa_nonneg (by omega), dec_val]; omega
theorem itoa_ivL {l : List UInt8} (h : canonI l = true) : Lib.itoa (ivL l) = l := by
  obtain ⟨h1, h2⟩ := canonI_canon h
  unfold ivL
  by_cases hm : l.head? = some 45
  · rw [if_pos hm]
    have h3 := h2 hm
    rw [itoa_neg (by omega), show (-(valL l.tail : Int)).natAbs = valL l.tail by omega]
    have e : dgs l = l.tail := by unfold dgs; rw [if_pos hm]
    rw [e] at h1
    rw [canon_eq h1]
    cases l with
    | nil => simp at hm
    | cons x r => simp at hm; subst hm; rfl
  · rw [if_neg hm, itoa_nonneg (by omega)]
    have e : dgs l = l := by unfold dgs; rw [if_neg hm]
    rw [e] at h1
    exact canon_eq h1
theorem itoa_inj {y z : Int} (h : Lib.itoa y = Lib.itoa z) : y = z := by rw [← ivL_itoa y, h, ivL_itoa]

/-! ### Blocks of digits -/

theorem val_take {l : List UInt8} (h : l.all isD = true) {k : Nat} (hk : k ≤ l.length) : valL (l.take (l.length - k)) = valL l / 10 ^ k := by
  have e := List.take_append_drop (l.length - k) l
  have hv := val_append (l.take (l.length - k)) (l.drop (l.length - k))
  rw [e, List.length_drop, show l.length - (l.length - k) = k by omega] at hv
  have hd : (l.drop (l.length - k)).all isD = true := List.all_eq_true.2 fun x hx => List.all_eq_true.1 h x (List.mem_of_mem_drop hx)
  have hlt := val_lt hd
  rw [List.length_drop, show l.length - (l.length - k) = k by omega] at hlt
  rw [hv, Nat.mul_comm, Nat.mul_add_div (Nat.pow_pos (by decide)), Nat.div_eq_of_lt hlt, Nat.add_zero]
theorem val_drop {l : List UInt8} (h : l.all isD = true) {k : Nat} (hk : k ≤ l.length) : valL (l.drop (l.length - k)) = valL l % 10 ^ k := by
  have e := List.take_append_drop (l.length - k) l
  have hv := val_append (l.take (l.length - k)) (l.drop (l.length - k))
  rw [e, List.length_drop, show l.length - (l.length - k) = k by omega] at hv
  have hd : (l.drop (l.length - k)).all isD = true := List.all_eq_true.2 fun x hx => List.all_eq_true.1 h x (List.mem_of_mem_drop hx)
  have hlt := val_lt hd
  rw [List.length_drop, show l.length - (l.length - k) = k by omega] at hlt
  rw [hv, Nat.mul_comm, Nat.mul_add_mod, Nat.mod_eq_of_lt hlt]
theorem all_take {l : List UInt8} (h : l.all isD = true) (k : Nat) : (l.take k).all isD = true := List.all_eq_true.2 fun x hx => List.all_eq_true.1 h x (List.mem_of_mem_take hx)
theorem all_drop {l : List UInt8} (h : l.all isD = true) (k : Nat) : (l.drop k).all isD = true := List.all_eq_true.2 fun x hx => List.all_eq_true.1 h x (List.mem_of_mem_drop hx)
/-- The digits that stand c places, w of them, from the end. -/
theorem val_block {l : List UInt8} (h : l.all isD = true) {c w : Nat} (hk : c + w ≤ l.length) : valL ((l.take (l.length - c)).drop (l.length - c - w)) = valL l / 10 ^ c % 10 ^ w := by
  have h1 := val_drop (l := l.take (l.length - c)) (all_take h _) (k := w) (by rw [List.length_take]; omega)
  rw [List.length_take, show min (l.length - c) l.length = l.length - c by omega, val_take h (by omega)] at h1
  exact h1

/-- Zeros ahead of a numeral, to some width. -/
def pad (w n : Nat) : List UInt8 := List.replicate (w - (Lib.decDigits n).length) 48 ++ Lib.decDigits n
theorem val_zeros (k : Nat) : valL (List.replicate k 48) = 0 := by
  induction k with
  | zero => rfl
  | succ k ih => rw [List.replicate_succ', val_snoc, ih]; rfl
theorem dec_len {n k : Nat} (h : n < 10 ^ k) (hk : 0 < k) : (Lib.decDigits n).length ≤ k := by
  cases hl : Lib.decDigits n with
  | nil => simp
  | cons x r =>
    have ha := dec_all n
    rw [hl] at ha
    by_cases h0 : n = 0
    · subst h0; rw [dec_zero] at hl; cases hl; exact hk
    · have hx := dec_head (u := n) (by omega)
      rw [hl] at hx
      have := val_ge (c := x) (l := r) (by simp at ha; exact ha.1) (by simpa using hx)
      rw [← hl, dec_val] at this
      rcases Nat.lt_or_ge k (x :: r).length with h2 | h2
      · have h3 := Nat.pow_le_pow_right (n := 10) (by decide) (show k ≤ r.length by simp at h2; omega)
        omega
      · exact h2
theorem pad_len {w n : Nat} (h : n < 10 ^ w) (hw : 0 < w) : (pad w n).length = w := by
  have := dec_len h hw
  unfold pad
  rw [List.length_append, List.length_replicate]; omega
theorem pad_val (w n : Nat) : valL (pad w n) = n := by
  unfold pad
  rw [val_append, val_zeros, Nat.zero_mul, Nat.zero_add, dec_val]
theorem pad_all (w n : Nat) : (pad w n).all isD = true := by
  unfold pad
  rw [List.all_append, dec_all, Bool.and_true, List.all_eq_true]
  intro x hx
  rw [(List.mem_replicate.1 hx).2]; decide
/-- A numeral, and behind it the next block. -/
theorem dec_pad {q r w : Nat} (hq : 0 < q) (h : r < 10 ^ w) (hw : 0 < w) : Lib.decDigits (q * 10 ^ w + r) = Lib.decDigits q ++ pad w r := by
  refine dec_unique (canonL_iff.2 ⟨by simp [dec_ne], ?_, .inl ?_⟩) ?_
  · rw [List.all_append, dec_all, pad_all]; rfl
  · rw [head_app (dec_ne _)]; exact dec_head hq
  · rw [val_append, dec_val, pad_val, pad_len h hw]
end Go.Proofs.YtnchodofgaaeeaaGreatDoor.Im
