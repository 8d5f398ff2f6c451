/- Plain mathematics of the texts of fractions, as one reads them from the left: digits, then what follows; no program is named here. -/
import Derived.Test.YtoeacbmlodfciaaDoorFracPm
namespace Go.Proofs.YtoeacbmlodfciaaDoor.FracMath

theorem tw_all {a : List UInt8} (h : a.all isD = true) : a.takeWhile isD = a ∧ a.dropWhile isD = [] := by
  induction a with
  | nil => exact ⟨rfl, rfl⟩
  | cons x r ih =>
    simp only [List.all_cons, Bool.and_eq_true] at h
    obtain ⟨h1, h2⟩ := ih h.2
    exact ⟨by rw [List.takeWhile_cons, if_pos h.1, h1], by rw [List.dropWhile_cons, if_pos h.1, h2]⟩
theorem tw_app {a b : List UInt8} {c : UInt8} (h : a.all isD = true) (hc : isD c = false) : (a ++ c :: b).takeWhile isD = a ∧ (a ++ c :: b).dropWhile isD = c :: b := by
  induction a with
  | nil => simp [hc]
  | cons x r ih =>
    simp only [List.all_cons, Bool.and_eq_true] at h
    obtain ⟨h1, h2⟩ := ih h.2
    exact ⟨by rw [List.cons_append, List.takeWhile_cons, if_pos h.1, h1], by rw [List.cons_append, List.dropWhile_cons, if_pos h.1, h2]⟩
theorem tw_is (l : List UInt8) : (l.takeWhile isD).all isD = true := by
  induction l with
  | nil => rfl
  | cons x r ih =>
    rw [List.takeWhile_cons]
    split
    · rename_i h; simp [h, ih]
    · rfl
theorem tw_parts (l : List UInt8) : l.takeWhile isD ++ l.dropWhile isD = l := List.takeWhile_append_dropWhile
theorem dw_drop (l : List UInt8) : l.drop (l.takeWhile isD).length = l.dropWhile isD := by
  have h : ∀ a b : List UInt8, (a ++ b).drop a.length = b := fun a b => by simp
  have := h (l.takeWhile isD) (l.dropWhile isD)
  rwa [tw_parts] at this
theorem allD_iff {l : List UInt8} : allD l = true ↔ l ≠ [] ∧ l.all isD = true := by
  unfold allD
  cases l <;> simp

/-- What follows the first digits of a text that is right. -/
def Shape (p r : List UInt8) : Prop :=
  p ≠ [] ∧ (r = [] ∨ (∃ d, r = 47 :: d ∧ allD d = true) ∨ ∃ n d, r = 32 :: (n ++ 47 :: d) ∧ allD n = true ∧ allD d = true)
theorem form_shape {m w n d : List UInt8} (h : Form m w n d) : Shape (m.takeWhile isD) (m.dropWhile isD) := by
  cases h with
  | whole h =>
    obtain ⟨h1, h2⟩ := allD_iff.1 h
    obtain ⟨e1, e2⟩ := tw_all h2
    exact ⟨by rw [e1]; exact h1, .inl e2⟩
  | frac h k =>
    obtain ⟨h1, h2⟩ := allD_iff.1 h
    obtain ⟨e1, e2⟩ := tw_app (b := d) (c := 47) h2 (by decide)
    exact ⟨by rw [e1]; exact h1, .inr (.inl ⟨d, e2, k⟩)⟩
  | mixed h k j =>
    obtain ⟨h1, h2⟩ := allD_iff.1 h
    obtain ⟨e1, e2⟩ := tw_app (b := n ++ 47 :: d) (c := 32) h2 (by decide)
    exact ⟨by rw [e1]; exact h1, .inr (.inr ⟨n, d, e2, k, j⟩)⟩

theorem parse_none {neg : Bool} {m : List UInt8} (h : ¬ Shape (m.takeWhile isD) (m.dropWhile isD)) : parseM neg (partsL m) = (0, 0, 15) := by
  unfold parseM
  rw [if_pos]
  cases hd : (allD (partsL m).1 && allD (partsL m).2.1 && allD (partsL m).2.2) with
  | false => rfl
  | true => exact absurd (form_shape (parts_form rfl hd)) h

theorem parse_form {neg : Bool} {m w n d : List UInt8} (h : Form m w n d) : parseM neg (partsL m) = if 1000000 < max (valD w) (max (valD n) (valD d)) then (0, 0, 4) else mk (if neg then -((valD n + valD w * valD d : Nat) : Int) else ((valD n + valD w * valD d : Nat) : Int)) (valD d : Nat) := by
  obtain ⟨h1, h2⟩ := form_parts h
  rw [h1]
  unfold parseM
  simp only [h2]
  rw [if_neg (by decide)]

theorem parse_whole {neg : Bool} {m p : List UInt8} (hp : m.takeWhile isD = p) (hr : m.dropWhile isD = []) (hne : p ≠ []) :
    parseM neg (partsL m) = if 1000000 < valD p then (0, 0, 4) else mk (if neg then -((valD p : Nat) : Int) else ((valD p : Nat) : Int)) 1 := by
  have hm := tw_parts m
  rw [hp, hr, List.append_nil] at hm
  subst hm
  rw [parse_form (.whole (allD_iff.2 ⟨hne, by rw [← hp]; exact tw_is _⟩))]
  rw [show valD [48] = 0 by decide, show valD [49] = 1 by decide, Nat.zero_add, Nat.mul_one, show max (valD p) (max 0 1) = max (valD p) 1 by rfl]
  by_cases h : 1000000 < valD p
  · rw [if_pos h, if_pos (by omega)]
  · rw [if_neg h, if_neg (by omega)]; rfl
theorem parse_frac {neg : Bool} {m p d : List UInt8} (hp : m.takeWhile isD = p) (hr : m.dropWhile isD = 47 :: d) (hne : p ≠ []) (hd : allD d = true) :
    parseM neg (partsL m) = if 1000000 < max (valD p) (valD d) then (0, 0, 4) else mk (if neg then -((valD p : Nat) : Int) else ((valD p : Nat) : Int)) (valD d : Nat) := by
  have hm := tw_parts m
  rw [hp, hr] at hm
  subst hm
  rw [parse_form (.frac (allD_iff.2 ⟨hne, by rw [← hp]; exact tw_is _⟩) hd), show valD [48] = 0 by decide, Nat.zero_mul, Nat.add_zero, show max 0 (max (valD p) (valD d)) = max (valD p) (valD d) by omega]
theorem parse_mixed {neg : Bool} {m p n d : List UInt8} (hp : m.takeWhile isD = p) (hr : m.dropWhile isD = 32 :: (n ++ 47 :: d)) (hne : p ≠ []) (hn : allD n = true) (hd : allD d = true) :
    parseM neg (partsL m) = if 1000000 < max (valD p) (max (valD n) (valD d)) then (0, 0, 4) else mk (if neg then -((valD n + valD p * valD d : Nat) : Int) else ((valD n + valD p * valD d : Nat) : Int)) (valD d : Nat) := by
  have hm := tw_parts m
  rw [hp, hr] at hm
  subst hm
  exact parse_form (.mixed (allD_iff.2 ⟨hne, by rw [← hp]; exact tw_is _⟩) hn hd)

/-! What a text that is not right may not be -/
theorem not_shape_nil {r : List UInt8} : ¬ Shape [] r := fun h => h.1 rfl
theorem not_shape_other {p t : List UInt8} {c : UInt8} (h1 : c ≠ 47) (h2 : c ≠ 32) : ¬ Shape p (c :: t) := by
  rintro ⟨_, h | ⟨d, h, _⟩ | ⟨n, d, h, _⟩⟩
  · cases h
  · cases h; exact h1 rfl
  · cases h; exact h2 rfl
theorem not_shape_slash {p t : List UInt8} (h : t.takeWhile isD = [] ∨ t.dropWhile isD ≠ []) : ¬ Shape p (47 :: t) := by
  rintro ⟨_, h' | ⟨d, h', hd⟩ | ⟨n, d, h', _⟩⟩
  · cases h'
  · cases h'
    obtain ⟨d1, d2⟩ := allD_iff.1 hd
    obtain ⟨e1, e2⟩ := tw_all d2
    rcases h with h | h
    · rw [e1] at h; exact d1 h
    · exact h e2
  · cases h'
theorem shape_blank {p t : List UInt8} (h : Shape p (32 :: t)) : ∃ d, t.takeWhile isD ≠ [] ∧ t.dropWhile isD = 47 :: d ∧ allD d = true := by
  obtain ⟨_, h' | ⟨d, h', _⟩ | ⟨n, d, h', hn, hd⟩⟩ := h
  · cases h'
  · cases h'
  · cases h'
    obtain ⟨d1, d2⟩ := allD_iff.1 hn
    obtain ⟨e1, e2⟩ := tw_app (b := d) (c := 47) d2 (by decide)
    exact ⟨d, by rw [e1]; exact d1, e2, hd⟩
theorem not_shape_blank {p t : List UInt8} (h : t.takeWhile isD = [] ∨ t.dropWhile isD = [] ∨ (∃ c v, t.dropWhile isD = c :: v ∧ (c ≠ 47 ∨ v.takeWhile isD = [] ∨ v.dropWhile isD ≠ []))) : ¬ Shape p (32 :: t) := fun hs => by
  obtain ⟨d, h1, h2, h3⟩ := shape_blank hs
  obtain ⟨d1, d2⟩ := allD_iff.1 h3
  obtain ⟨e1, e2⟩ := tw_all d2
  rcases h with h | h | ⟨c, v, h, k⟩
  · exact h1 h
  · rw [h2] at h; cases h
  · rw [h2] at h
    cases h
    rcases k with k | k | k
    · exact k rfl
    · rw [e1] at k; exact d1 k
    · exact k e2
end Go.Proofs.YtoeacbmlodfciaaDoor.FracMath
