/- What Possible answers is what Plays answers. -/
import Derived.Test.YtinopmdefndhoaaDoorSpPo
namespace Go.Proofs.YtinopmdefndhoaaDoor
open Go Go.RowKit Go.Shelf

theorem hands_ma (F : Nat → DivD) (S : Nat → Nat × Nat) (n : Nat) : (plU (fun i => (F i).ped) S n).hands = maL F S n := by
  induction n with
  | zero => rfl
  | succ n ih =>
    show ((plU _ S n).step (F n).ped (S n)).hands = if _ then _ else _
    unfold PlS.step
    by_cases h0 : (setN (S n)).length = 0
    · rw [if_pos h0, if_neg (by simp [h0])]
      exact ih
    · rw [if_neg h0]
      cases hp : (F n).ped with
      | true => rw [if_pos rfl, if_neg (by simp)]; exact ih
      | false => rw [if_neg (by simp), if_pos ⟨rfl, h0⟩]; show (plU _ S n).hands ++ _ = _; rw [ih]
theorem plU_congr (P : Nat → Bool) (S S' : Nat → Nat × Nat) (n : Nat) (h : ∀ i, i < n → S i = S' i) : plU P S n = plU P S' n := by
  induction n with
  | zero => rfl
  | succ n ih =>
    show (plU P S n).step _ _ = (plU P S' n).step _ _
    rw [ih fun i hi => h i (by omega), h n (by omega)]
theorem plU_snoc (l : List (Nat × Nat)) (s : Nat × Nat) : plU (fun _ => true) (getS (l ++ [s])) (l ++ [s]).length = (plU (fun _ => true) (getS l) l.length).step true s := by
  rw [show (l ++ [s]).length = l.length + 1 by simp]
  show (plU _ (getS (l ++ [s])) l.length).step true (getS (l ++ [s]) l.length) = _
  rw [plU_congr _ _ (getS l) l.length fun i hi => ?_, show getS (l ++ [s]) l.length = s by simp [getS]]
  unfold getS
  rw [List.getD_eq_getElem?_getD, List.getD_eq_getElem?_getD, List.getElem?_append_left hi]
theorem feet_pe (F : Nat → DivD) (S : Nat → Nat × Nat) (n : Nat) : (plU (fun i => (F i).ped) S n).feet = (plU (fun _ => true) (getS (peL F S n)) (peL F S n).length).feet ∧
    (plU (fun i => (F i).ped) S n).low = (plU (fun _ => true) (getS (peL F S n)) (peL F S n).length).low ∧ (plU (fun i => (F i).ped) S n).high = (plU (fun _ => true) (getS (peL F S n)) (peL F S n).length).high := by
  induction n with
  | zero => exact ⟨rfl, rfl, rfl⟩
  | succ n ih =>
    obtain ⟨i1, i2, i3⟩ := ih
    have ep : peL F S (n + 1) = if (F n).ped = true then peL F S n ++ [S n] else peL F S n := rfl
    have eu : plU (fun i => (F i).ped) S (n + 1) = (plU (fun i => (F i).ped) S n).step (F n).ped (S n) := rfl
    rw [ep, eu]
    generalize plU (fun i => (F i).ped) S n = Q at *
    cases hp : (F n).ped with
    | true =>
      rw [if_pos rfl, plU_snoc]
      generalize plU (fun _ => true) (getS (peL F S n)) (peL F S n).length = Q' at *
      unfold PlS.step
      by_cases h0 : (setN (S n)).length = 0
      · rw [if_pos h0, if_pos h0]; exact ⟨i1, i2, i3⟩
      · rw [if_neg h0, if_neg h0, if_pos rfl, if_pos rfl]
        exact ⟨by show Q.feet + _ = Q'.feet + _; rw [i1], by show min Q.low _ = min Q'.low _; rw [i2], by show max Q.high _ = max Q'.high _; rw [i3]⟩
    | false =>
      rw [if_neg (by simp)]
      unfold PlS.step
      by_cases h0 : (setN (S n)).length = 0
      · rw [if_pos h0]; exact ⟨i1, i2, i3⟩
      · rw [if_neg h0, if_neg (by simp)]; exact ⟨i1, i2, i3⟩
theorem hand_hnd (a b : Int) (l : List (Nat × Nat)) : hndB a b (getS l) l.length = handB a b l := by
  match l with
  | [] => rfl
  | [s] => rfl
  | [s, t] => rfl
  | _ :: _ :: _ :: _ => rfl
theorem poss_is (a b c d : Int) (hd : 0 ≤ d) (F : Nat → DivD) (S : Nat → Nat × Nat) (n : Nat) :
    possB a b c d F S n = (!footB c d (plU (fun i => (F i).ped) S n) && handB a b (plU (fun i => (F i).ped) S n).hands) := by
  unfold possB
  rw [hand_hnd, hands_ma, ← feet_is a b c d hd]
  have h := ftI (getS (peL F S n)) (peL F S n).length
  obtain ⟨e1, e2, e3⟩ := feet_pe F S n
  have hf : footB c d (plU (fun i => (F i).ped) S n) = footB c d (plU (fun _ => true) (getS (peL F S n)) (peL F S n).length) := by unfold footB; rw [e1, e2, e3]
  rw [hf, h.hand]
  rw [show handB a b [] = true from rfl, Bool.and_true]

/-- What the law wants of one division after j notes. -/
def wJ (l h : Int) (X : Nat → Int) : Nat → Int
  | 0 => compE l h
  | j + 1 => if wJ l h X j = 0 ∧ (X j < l ∨ h < X j) then 23 else wJ l h X j
theorem wJ_bad (l h : Int) (X : Nat → Int) (hc : compE l h ≠ 0) (j : Nat) : wJ l h X j = compE l h := by
  induction j with
  | zero => rfl
  | succ j ih => show (if _ then _ else _) = _; rw [if_neg (by rw [ih]; exact fun k => hc k.1), ih]
theorem wJ_ok (l h : Int) (X : Nat → Int) (hc : compE l h = 0) (j : Nat) : (wJ l h X j = 0 ∧ ∀ i, i < j → l ≤ X i ∧ X i ≤ h) ∨ (wJ l h X j = 23 ∧ ∃ i, i < j ∧ ¬ (l ≤ X i ∧ X i ≤ h)) := by
  induction j with
  | zero => exact .inl ⟨hc, fun i hi => absurd hi (by omega)⟩
  | succ j ih =>
    have e : wJ l h X (j + 1) = if wJ l h X j = 0 ∧ (X j < l ∨ h < X j) then 23 else wJ l h X j := rfl
    rw [e]
    rcases ih with ⟨h0, hi⟩ | ⟨h0, i, hi, hb⟩
    · by_cases hx : X j < l ∨ h < X j
      · rw [if_pos ⟨h0, hx⟩]
        exact .inr ⟨rfl, j, by omega, by omega⟩
      · rw [if_neg (fun k => hx k.2)]
        refine .inl ⟨h0, fun i hij => ?_⟩
        by_cases hj : i = j
        · subst hj; omega
        · exact hi i (by omega)
    · rw [if_neg (by rw [h0]; exact fun k => absurd k.1 (by decide))]
      exact .inr ⟨h0, i, by omega, hb⟩
theorem wJ_is (l h : Int) (s : Nat × Nat) : wJ l h (nth (setN s)) (setN s).length = divE l h s := by
  unfold divE
  by_cases hc : compE l h = 0
  · rw [if_neg (by simp [hc])]
    have hm : ∀ i (hi : i < (setN s).length), nth (setN s) i = (((setN s)[i] : Nat) : Int) := fun i hi => by
      show (((setN s).getD i 0 : Nat) : Int) = _
      rw [List.getD_eq_getElem?_getD, List.getElem?_eq_getElem hi]; rfl
    rcases wJ_ok l h (nth (setN s)) hc (setN s).length with ⟨h0, hi⟩ | ⟨h0, i, hi, hb⟩
    · rw [h0, if_pos]
      refine List.all_eq_true.2 fun m hmm => ?_
      obtain ⟨i, hi2, rfl⟩ := List.mem_iff_getElem.1 hmm
      have := hi i hi2
      rw [hm i hi2] at this
      exact decide_eq_true this
    · rw [h0, if_neg]
      intro k
      have := List.all_eq_true.1 k _ (List.getElem_mem hi)
      rw [hm i hi] at hb
      exact hb (of_decide_eq_true this)
  · rw [if_pos hc, wJ_bad l h _ hc]
end Go.Proofs.YtinopmdefndhoaaDoor
