/- Plain mathematics of the texts of fractions: digits, cutting at a byte, the parts that a text writes; no program is named here. -/
import Derived.Test.YtoeacbmlodfciaaDoorFracMathB
import Derived.Lib.IndexBytes
import Derived.Lib.IndexLaws
namespace Go.Proofs.YtoeacbmlodfciaaDoor.FracMath

def isD (c : UInt8) : Bool := decide (48 ≤ c.toNat) && decide (c.toNat ≤ 57)
def allD (l : List UInt8) : Bool := !l.isEmpty && l.all isD
def valStep (n : Nat) (c : UInt8) : Nat := min (10 * n + (c.toNat - 48)) 1000001
def valD (l : List UInt8) : Nat := l.foldl valStep 0
theorem valD_snoc (l : List UInt8) (c : UInt8) : valD (l ++ [c]) = valStep (valD l) c := by simp [valD]
theorem valD_le (l : List UInt8) : valD l ≤ 1000001 := by
  rcases List.eq_nil_or_concat l with rfl | ⟨r, c, rfl⟩
  · simp [valD]
  · rw [List.concat_eq_append, valD_snoc]; exact Nat.min_le_right _ _

/-- What stands before the first c, and behind it. -/
def cutL (c : UInt8) : List UInt8 → Option (List UInt8 × List UInt8)
  | [] => none
  | x :: r => if x = c then some ([], r) else (cutL c r).map fun p => (x :: p.1, p.2)
theorem cutL_no {c : UInt8} : ∀ {l : List UInt8}, (∀ x, x ∈ l → x ≠ c) → cutL c l = none
  | [], _ => rfl
  | x :: r, h => by rw [cutL, if_neg (h x (List.mem_cons_self ..)), cutL_no (fun y hy => h y (List.mem_cons_of_mem _ hy))]; rfl
theorem cutL_at {c : UInt8} : ∀ {a b : List UInt8}, (∀ x, x ∈ a → x ≠ c) → cutL c (a ++ c :: b) = some (a, b)
  | [], b, _ => by simp [cutL]
  | x :: r, b, h => by rw [List.cons_append, cutL, if_neg (h x (List.mem_cons_self ..)), cutL_at (fun y hy => h y (List.mem_cons_of_mem _ hy))]; rfl
theorem cutL_some {c : UInt8} : ∀ {l a b : List UInt8}, cutL c l = some (a, b) → l = a ++ c :: b ∧ ∀ x, x ∈ a → x ≠ c
  | [], a, b, h => by cases h
  | x :: r, a, b, h => by
    rw [cutL] at h
    split at h
    · rename_i hx
      cases h
      exact ⟨by rw [hx]; rfl, fun y hy => by cases hy⟩
    · rename_i hx
      cases hc : cutL c r with
      | none => rw [hc] at h; cases h
      | some p =>
        rw [hc] at h
        simp only [Option.map_some, Option.some.injEq, Prod.mk.injEq] at h
        obtain ⟨rfl, rfl⟩ := h
        obtain ⟨h1, h2⟩ := cutL_some (a := p.1) (b := p.2) (by rw [hc])
        exact ⟨by rw [h1]; simp, fun y hy => by
          rcases List.mem_cons.1 hy with rfl | hy
          · exact hx
          · exact h2 y hy⟩
theorem cutL_none {c : UInt8} {l : List UInt8} (h : cutL c l = none) : ∀ x, x ∈ l → x ≠ c := by
  induction l with
  | nil => intro x hx; cases hx
  | cons y r ih =>
    rw [cutL] at h
    split at h
    · cases h
    · rename_i hy
      intro x hx
      rcases List.mem_cons.1 hx with rfl | hx
      · exact hy
      · exact ih (by simpa using h) x hx

theorem cutL_index (c : UInt8) (l : List UInt8) : (Lib.indexByte l c = -1 ∧ cutL c l = none) ∨ ∃ o : Nat, Lib.indexByte l c = o ∧ o < l.length ∧ cutL c l = some (l.take o, l.drop (o + 1)) := by
  by_cases hi : Lib.indexByte l c = -1
  · refine .inl ⟨hi, cutL_no fun x hx e => ?_⟩
    obtain ⟨k, hk⟩ := List.getElem?_of_mem hx
    exact Lib.indexByte_none hi k (by rw [hk, e])
  · obtain ⟨o, ho⟩ : ∃ o : Nat, Lib.indexByte l c = o := ⟨(Lib.indexByte l c).toNat, by have := Lib.indexByte_ge l c; omega⟩
    obtain ⟨h1, h2⟩ := Lib.indexByte_some ho
    obtain ⟨hlt, he⟩ := List.getElem?_eq_some_iff.1 h1
    refine .inr ⟨o, ho, hlt, ?_⟩
    have e : l = l.take o ++ c :: l.drop (o + 1) := by
      conv => lhs; rw [← List.take_append_drop o l, List.drop_eq_getElem_cons hlt, he]
    have hno : ∀ x, x ∈ l.take o → x ≠ c := fun x hx ex => by
      obtain ⟨k, hk⟩ := List.getElem?_of_mem hx
      rw [List.getElem?_take] at hk
      split at hk
      · rename_i hko
        exact h2 k hko (by rw [hk, ex])
      · cases hk
    have h3 := cutL_at (b := l.drop (o + 1)) hno
    rw [← e] at h3
    exact h3

/-- The parts that a text without a sign writes. -/
def partsL (l : List UInt8) : List UInt8 × List UInt8 × List UInt8 :=
  match cutL 47 l with
  | none => (l, [48], [49])
  | some (b, d) => match cutL 32 b with
    | none => ([48], b, d)
    | some (w, n) => (w, n, d)
/-- What Parse returns, behind the sign. -/
def parseM (neg : Bool) (p : List UInt8 × List UInt8 × List UInt8) : Int × Int × Int :=
  if (allD p.1 && allD p.2.1 && allD p.2.2) = false then (0, 0, 15)
  else if 1000000 < max (valD p.1) (max (valD p.2.1) (valD p.2.2)) then (0, 0, 4)
  else mk (if neg then -((valD p.2.1 + valD p.1 * valD p.2.2 : Nat) : Int) else ((valD p.2.1 + valD p.1 * valD p.2.2 : Nat) : Int)) (valD p.2.2 : Nat)
def parseE (l : List UInt8) : Int × Int × Int :=
  if l = [] then (0, 0, 13) else if 40 < l.length then (0, 0, 16)
  else parseM (decide (l.head? = some 45)) (partsL (if l.head? = some 45 then l.tail else l))

theorem parts_len (l : List UInt8) : (partsL l).1.length ≤ l.length + 1 ∧ (partsL l).2.1.length ≤ l.length + 1 ∧ (partsL l).2.2.length ≤ l.length + 1 := by
  unfold partsL
  cases hc : cutL 47 l with
  | none => simp
  | some p =>
    obtain ⟨b, d⟩ := p
    have h1 := congrArg List.length (cutL_some hc).1
    simp at h1
    simp only
    cases hb : cutL 32 b with
    | none => simp only [List.length_singleton]; omega
    | some q =>
      obtain ⟨x, y⟩ := q
      have h2 := congrArg List.length (cutL_some hb).1
      simp at h2
      simp only
      omega
/-- The forms that a text may have. -/
inductive Form : List UInt8 → List UInt8 → List UInt8 → List UInt8 → Prop
  | whole {m : List UInt8} : allD m = true → Form m m [48] [49]
  | frac {n d : List UInt8} : allD n = true → allD d = true → Form (n ++ 47 :: d) [48] n d
  | mixed {w n d : List UInt8} : allD w = true → allD n = true → allD d = true → Form (w ++ 32 :: (n ++ 47 :: d)) w n d

theorem allD_ne {l : List UInt8} (h : allD l = true) {c : UInt8} (hc : isD c = false) : ∀ x, x ∈ l → x ≠ c := fun x hx e => by
  unfold allD at h
  simp only [Bool.and_eq_true] at h
  have := List.all_eq_true.1 h.2 x hx
  rw [e, hc] at this
  cases this
theorem form_parts {m w n d : List UInt8} (h : Form m w n d) : partsL m = (w, n, d) ∧ (allD w && allD n && allD d) = true := by
  cases h with
  | whole h => exact ⟨by unfold partsL; rw [cutL_no (allD_ne h (by decide))], by rw [h]; decide⟩
  | frac h1 h2 => exact ⟨by unfold partsL; rw [cutL_at (allD_ne h1 (by decide))]; simp only; rw [cutL_no (allD_ne h1 (by decide))], by rw [h1, h2]; decide⟩
  | mixed h1 h2 h3 =>
    refine ⟨?_, by rw [h1, h2, h3]; rfl⟩
    unfold partsL
    have e : w ++ 32 :: (n ++ 47 :: d) = (w ++ 32 :: n) ++ 47 :: d := by simp
    rw [e, cutL_at (fun x hx => by
      rcases List.mem_append.1 hx with hx | hx
      · exact allD_ne h1 (by decide) x hx
      · rcases List.mem_cons.1 hx with rfl | hx
        · decide
        · exact allD_ne h2 (by decide) x hx)]
    simp only
    rw [cutL_at (allD_ne h1 (by decide))]
theorem parts_form {m w n d : List UInt8} (h : partsL m = (w, n, d)) (hd : (allD w && allD n && allD d) = true) : Form m w n d := by
  simp only [Bool.and_eq_true] at hd
  obtain ⟨⟨h1, h2⟩, h3⟩ := hd
  unfold partsL at h
  cases hc : cutL 47 m with
  | none =>
    rw [hc] at h
    simp only [Prod.mk.injEq] at h
    obtain ⟨rfl, rfl, rfl⟩ := h
    exact .whole h1
  | some p =>
    obtain ⟨b, d'⟩ := p
    rw [hc] at h
    obtain ⟨rfl, _⟩ := cutL_some hc
    cases hb : cutL 32 b with
    | none =>
      simp only [hb, Prod.mk.injEq] at h
      obtain ⟨rfl, rfl, rfl⟩ := h
      exact .frac h2 h3
    | some q =>
      obtain ⟨w', n'⟩ := q
      simp only [hb, Prod.mk.injEq] at h
      obtain ⟨rfl, rfl, rfl⟩ := h
      obtain ⟨rfl, _⟩ := cutL_some hb
      rw [show w' ++ 32 :: n' ++ 47 :: d' = w' ++ 32 :: (n' ++ 47 :: d') by simp]
      exact .mixed h1 h2 h3
end Go.Proofs.YtoeacbmlodfciaaDoor.FracMath
