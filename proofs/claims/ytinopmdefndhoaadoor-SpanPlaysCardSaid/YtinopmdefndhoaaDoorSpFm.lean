/- What both feet hold: the union of sets against the lowest and the highest note of all. -/
import Derived.Test.YtinopmdefndhoaaDoorSpP
import Derived.Test.YtinopmdefndhoaaDoorSpGm
namespace Go.Proofs.YtinopmdefndhoaaDoor
open Go Go.RowKit Go.Shelf

/-- The union of the first k sets. -/
def uniS (S : Nat → Nat × Nat) : Nat → Nat × Nat
  | 0 => (0, 0)
  | k + 1 => ((uniS S k).1 ||| (S k).1, (uniS S k).2 ||| (S k).2)
/-- How many notes they have together. -/
def cntS (S : Nat → Nat × Nat) : Nat → Nat
  | 0 => 0
  | k + 1 => cntS S k + (setN (S k)).length
theorem uniS_lt (S : Nat → Nat × Nat) (n : Nat) (h : ∀ i, i < n → (S i).1 < 18446744073709551616 ∧ (S i).2 < 18446744073709551616) : ∀ k, k ≤ n → (uniS S k).1 < 18446744073709551616 ∧ (uniS S k).2 < 18446744073709551616 := by
  intro k
  induction k with
  | zero => intro _; exact ⟨(by show 0 < 18446744073709551616; decide), (by show 0 < 18446744073709551616; decide)⟩
  | succ k ih =>
    intro hk
    obtain ⟨h1, h2⟩ := ih (by omega)
    obtain ⟨h3, h4⟩ := h k (by omega)
    exact ⟨Ns.or_lt h1 h3, Ns.or_lt h2 h4⟩
theorem cntS_le (S : Nat → Nat × Nat) (k : Nat) : cntS S k ≤ 128 * k := by
  induction k with
  | zero => exact Nat.le_refl _
  | succ k ih =>
    have := Ns.notes_length (S k).1 (S k).2
    show cntS S k + (setN (S k)).length ≤ _
    unfold setN
    omega

theorem mem_uni (S : Nat → Nat × Nat) (k m : Nat) : m ∈ setN (uniS S (k + 1)) ↔ m ∈ setN (uniS S k) ∨ m ∈ setN (S k) := by
  unfold setN
  rw [Ns.mem_notes, Ns.mem_notes, Ns.mem_notes]
  have e : Ns.has (uniS S (k + 1)).1 (uniS S (k + 1)).2 m = (Ns.has (uniS S k).1 (uniS S k).2 m || Ns.has (S k).1 (S k).2 m) := Ns.has_or _ _ _ _ _
  rw [e, Bool.or_eq_true]
  constructor
  · rintro ⟨h1, h2 | h2⟩
    · exact .inl ⟨h1, h2⟩
    · exact .inr ⟨h1, h2⟩
  · rintro (⟨h1, h2⟩ | ⟨h1, h2⟩)
    · exact ⟨h1, .inl h2⟩
    · exact ⟨h1, .inr h2⟩

theorem set_ends (s : Nat × Nat) (h : (setN s).length ≠ 0) : (setN s).getD 0 0 ∈ setN s ∧ (setN s).getD ((setN s).length - 1) 0 ∈ setN s ∧ ∀ m, m ∈ setN s → (setN s).getD 0 0 ≤ m ∧ m ≤ (setN s).getD ((setN s).length - 1) 0 := by
  have hm := inc_mono (setN s) (notes_inc s.1 s.2)
  have e0 : (setN s).getD 0 0 = (setN s)[0]'(by omega) := by rw [List.getD_eq_getElem?_getD, List.getElem?_eq_getElem (by omega)]; rfl
  have e1 : (setN s).getD ((setN s).length - 1) 0 = (setN s)[(setN s).length - 1]'(by omega) := by rw [List.getD_eq_getElem?_getD, List.getElem?_eq_getElem (by omega)]; rfl
  rw [e0, e1]
  refine ⟨List.getElem_mem _, List.getElem_mem _, fun m hmm => ?_⟩
  obtain ⟨j, hj, rfl⟩ := List.mem_iff_getElem.1 hmm
  exact ⟨hm 0 j hj (by omega), hm j _ (by omega) (by omega)⟩

/-- What the law counts beside the union. -/
structure FtI (Q : PlS) (U : List Nat) (n : Nat) : Prop where
  cnt : Q.feet = n
  hand : Q.hands = []
  zero : Q.feet = 0 ↔ U = []
  bd : ∀ m, m ∈ U → Q.low ≤ m ∧ m ≤ Q.high
  ends : U ≠ [] → Q.low ∈ U ∧ Q.high ∈ U
theorem ftI (S : Nat → Nat × Nat) : ∀ k, FtI (plU (fun _ => true) S k) (setN (uniS S k)) (cntS S k)
  | 0 => ⟨rfl, rfl, ⟨fun _ => Ns.notes_nil, fun _ => rfl⟩, fun m hm => by
      have e : setN (uniS S 0) = [] := Ns.notes_nil
      rw [e] at hm; simp at hm, fun h => absurd Ns.notes_nil h⟩
  | k + 1 => by
    have h := ftI S k
    have e : plU (fun _ => true) S (k + 1) = (plU (fun _ => true) S k).step true (S k) := rfl
    have ec : cntS S (k + 1) = cntS S k + (setN (S k)).length := rfl
    rw [e, ec]
    unfold PlS.step
    have hmu := mem_uni S k
    by_cases h0 : (setN (S k)).length = 0
    · rw [if_pos h0]
      have hn : setN (S k) = [] := List.length_eq_zero_iff.1 h0
      have hiff : ∀ m, m ∈ setN (uniS S (k + 1)) ↔ m ∈ setN (uniS S k) := fun m => by rw [hmu, hn]; simp
      have heq : setN (uniS S (k + 1)) = setN (uniS S k) := inc_ext _ _ (notes_inc _ _) (notes_inc _ _) hiff
      rw [heq, h0]
      exact h
    · rw [if_neg h0, if_pos rfl]
      obtain ⟨p1, p2, p3⟩ := set_ends (S k) h0
      have hne : setN (uniS S (k + 1)) ≠ [] := fun e => by
        have := (hmu _).2 (.inr p1)
        rw [e] at this; simp at this
      refine ⟨by show _ + _ = _; rw [h.cnt], h.hand, ⟨fun e => ?_, fun e => absurd e hne⟩, fun m hm => ?_, fun _ => ?_⟩
      · have e' : (plU (fun _ => true) S k).feet + (setN (S k)).length = 0 := e
        omega
      · show min _ _ ≤ m ∧ m ≤ max _ _
        rcases (hmu m).1 hm with q | q
        · have := h.bd m q; omega
        · have := p3 m q; omega
      · show min (plU (fun _ => true) S k).low ((setN (S k)).getD 0 0) ∈ _ ∧ max (plU (fun _ => true) S k).high ((setN (S k)).getD ((setN (S k)).length - 1) 0) ∈ _
        by_cases hu : setN (uniS S k) = []
        · have hb : (plU (fun _ => true) S k).low = 127 ∧ (plU (fun _ => true) S k).high = 0 := low_high S k hu
          have q1 := setN_at (S k) 0 (by omega)
          rw [hb.1, hb.2, Nat.min_eq_right q1, Nat.max_eq_right (Nat.zero_le _)]
          exact ⟨(hmu _).2 (.inr p1), (hmu _).2 (.inr p2)⟩
        · obtain ⟨r1, r2⟩ := h.ends hu
          constructor
          · rcases Nat.le_total (plU (fun _ => true) S k).low ((setN (S k)).getD 0 0) with q | q
            · rw [Nat.min_eq_left q]; exact (hmu _).2 (.inl r1)
            · rw [Nat.min_eq_right q]; exact (hmu _).2 (.inr p1)
          · rcases Nat.le_total (plU (fun _ => true) S k).high ((setN (S k)).getD ((setN (S k)).length - 1) 0) with q | q
            · rw [Nat.max_eq_right q]; exact (hmu _).2 (.inr p2)
            · rw [Nat.max_eq_left q]; exact (hmu _).2 (.inl r2)
where
  low_high (S : Nat → Nat × Nat) : ∀ k, setN (uniS S k) = [] → (plU (fun _ => true) S k).low = 127 ∧ (plU (fun _ => true) S k).high = 0
    | 0, _ => ⟨rfl, rfl⟩
    | k + 1, h => by
      have hmu := mem_uni S k
      have h1 : setN (uniS S k) = [] := List.eq_nil_iff_forall_not_mem.2 fun m hm => by
        have := (hmu m).2 (.inl hm); rw [h] at this; simp at this
      have h2 : setN (S k) = [] := List.eq_nil_iff_forall_not_mem.2 fun m hm => by
        have := (hmu m).2 (.inr hm); rw [h] at this; simp at this
      have e : plU (fun _ => true) S (k + 1) = (plU (fun _ => true) S k).step true (S k) := rfl
      rw [e]
      unfold PlS.step
      rw [if_pos (by rw [h2]; rfl)]
      exact low_high S k h1

/-- Both feet hold the sets: by the union. -/
def feetB (c d : Int) (S : Nat → Nat × Nat) (n : Nat) : Bool := decide ((cntS S n : Int) ≤ c) && decide (wdX (nth (setN (uniS S n))) (setN (uniS S n)).length ≤ d)
theorem feet_is (a b c d : Int) (hd : 0 ≤ d) (S : Nat → Nat × Nat) (n : Nat) : (!footB c d (plU (fun _ => true) S n) && handB a b (plU (fun _ => true) S n).hands) = feetB c d S n := by
  have h := ftI S n
  generalize plU (fun _ => true) S n = Q at *
  rw [h.hand]
  have e : handB a b [] = true := rfl
  rw [e, Bool.and_true]
  unfold footB feetB
  rw [← h.cnt]
  unfold wdX
  by_cases hu : setN (uniS S n) = []
  · have hz := h.zero.2 hu
    rw [hu, if_pos (by rfl), hz]
    by_cases q : ((0 : Nat) : Int) ≤ c
    · rw [decide_eq_false (by omega : ¬ c < ((0 : Nat) : Int)), decide_eq_true q]
      simp [hd]
    · rw [decide_eq_true (by omega : c < ((0 : Nat) : Int)), decide_eq_false q]
      simp
  · have hne : (setN (uniS S n)).length ≠ 0 := fun e => hu (List.length_eq_zero_iff.1 e)
    obtain ⟨p1, p2, p3⟩ := set_ends (uniS S n) hne
    obtain ⟨r1, r2⟩ := h.ends hu
    have e0 : (setN (uniS S n)).getD 0 0 = Q.low := Nat.le_antisymm (p3 _ r1).1 (h.bd _ p1).1
    have e1 : (setN (uniS S n)).getD ((setN (uniS S n)).length - 1) 0 = Q.high := Nat.le_antisymm (h.bd _ p2).2 (p3 _ r2).2
    rw [if_neg hne]
    unfold nth
    rw [e0, e1]
    have hpos : 0 < Q.feet := by
      rcases Nat.eq_zero_or_pos Q.feet with q | q
      · exact absurd (h.zero.1 q) hu
      · exact q
    have d1 : decide (0 < Q.feet) = true := decide_eq_true hpos
    rw [d1, Bool.true_and]
    by_cases q1 : (Q.feet : Int) ≤ c <;> by_cases q2 : (Q.high : Int) - (Q.low : Int) ≤ d
    · rw [decide_eq_false (by omega : ¬ c < (Q.feet : Int)), decide_eq_false (by omega : ¬ d < (Q.high : Int) - (Q.low : Int)), decide_eq_true q1, decide_eq_true q2]; rfl
    · rw [decide_eq_false (by omega : ¬ c < (Q.feet : Int)), decide_eq_true (by omega : d < (Q.high : Int) - (Q.low : Int)), decide_eq_true q1, decide_eq_false q2]; rfl
    · rw [decide_eq_true (by omega : c < (Q.feet : Int)), decide_eq_false q1]; rfl
    · rw [decide_eq_true (by omega : c < (Q.feet : Int)), decide_eq_false q1]; rfl
end Go.Proofs.YtinopmdefndhoaaDoor
