/- What makes a set easier to hold: the mathematics of SpanGrows. -/
import Derived.Test.YtinopmdefndhoaaDoorSpY
import Derived.Test.YtinopmdefndhoaaDoorNsSh
import Derived.Test.YtinopmdefndhoaaDoorSpL
namespace Go.Proofs.YtinopmdefndhoaaDoor
open Go Go.RowKit Go.Shelf

/-- Two hands can hold the set. -/
def fndU (X : Nat → Int) (n : Nat) (a b : Int) : Bool := decide (0 < (divU X n a b (n + 1)).length)
theorem fnd_iff (X : Nat → Int) (n : Nat) (a b : Int) : fndU X n a b = true ↔ ∃ t, t ≤ n ∧ divB X n a b t = true := by
  unfold fndU
  rw [decide_eq_true_eq]
  constructor
  · intro h
    obtain ⟨t, ht⟩ := List.exists_mem_of_length_pos h
    obtain ⟨h1, h2⟩ := List.mem_filter.1 ht
    simp at h1
    exact ⟨t, by omega, h2⟩
  · intro ⟨t, ht, h⟩
    have : t ∈ divU X n a b (n + 1) := List.mem_filter.2 ⟨by simp; omega, h⟩
    exact List.length_pos_of_mem this
theorem hold_iff (X : Nat → Int) (n : Nat) (k wd : Int) : holdX X n k wd = true ↔ (n : Int) ≤ k ∧ (n = 0 ∨ X (n - 1) - X 0 ≤ wd) := by
  simp [holdX]
theorem div_iff (X : Nat → Int) (n : Nat) (k wd : Int) (t : Nat) : divB X n k wd t = true ↔ ((t : Int) ≤ k ∧ (t = 0 ∨ X (t - 1) - X 0 ≤ wd)) ∧ (((n - t : Nat) : Int) ≤ k ∧ (n - t = 0 ∨ X (t + (n - t - 1)) - X (t + 0) ≤ wd)) := by
  unfold divB
  rw [Bool.and_eq_true, hold_iff, hold_iff]
/-- One more note, or a wider span. -/
theorem fnd_more (X : Nat → Int) (n : Nat) (a b a' b' : Int) (ha : a ≤ a') (hb : b ≤ b') (h : fndU X n a b = true) : fndU X n a' b' = true := by
  obtain ⟨t, ht, hd⟩ := (fnd_iff X n a b).1 h
  rw [div_iff] at hd
  obtain ⟨⟨h1, h2⟩, h3, h4⟩ := hd
  exact (fnd_iff X n a' b').2 ⟨t, ht, (div_iff X n a' b' t).2 ⟨⟨by omega, h2.imp id (by omega)⟩, by omega, h4.imp id (by omega)⟩⟩
/-- The set a note higher. -/
theorem fnd_up (X Y : Nat → Int) (n : Nat) (a b s : Int) (h : ∀ j, j < n → Y j = X j + s) : fndU Y n a b = fndU X n a b := by
  rw [Bool.eq_iff_iff, fnd_iff, fnd_iff]
  refine exists_congr fun t => and_congr_right fun ht => ?_
  rw [div_iff, div_iff]
  by_cases h1 : t = 0
  · subst h1
    by_cases h2 : n = 0
    · subst h2; simp
    · rw [h (0 + (n - 0 - 1)) (by omega), h (0 + 0) (by omega)]
      have : X (0 + (n - 0 - 1)) + s - (X (0 + 0) + s) = X (0 + (n - 0 - 1)) - X (0 + 0) := by omega
      rw [this]
      simp
  · rw [h (t - 1) (by omega), h 0 (by omega)]
    have e1 : X (t - 1) + s - (X 0 + s) = X (t - 1) - X 0 := by omega
    rw [e1]
    by_cases h2 : n - t = 0
    · simp [h2]
    · rw [h (t + (n - t - 1)) (by omega), h (t + 0) (by omega)]
      have : X (t + (n - t - 1)) + s - (X (t + 0) + s) = X (t + (n - t - 1)) - X (t + 0) := by omega
      rw [this]
/-- Without the least note. -/
theorem fnd_tail (X Y : Nat → Int) (n : Nat) (a b : Int) (hm : ∀ i j, i ≤ j → j < n + 1 → X i ≤ X j) (hY : ∀ j, j < n → Y j = X (j + 1)) (h : fndU X (n + 1) a b = true) : fndU Y n a b = true := by
  obtain ⟨t, ht, hd⟩ := (fnd_iff X (n + 1) a b).1 h
  rw [div_iff] at hd
  obtain ⟨⟨h1, h2⟩, h3, h4⟩ := hd
  by_cases h0 : t = 0
  · subst h0
    refine (fnd_iff Y n a b).2 ⟨0, by omega, (div_iff Y n a b 0).2 ⟨⟨h1, .inl rfl⟩, by omega, ?_⟩⟩
    by_cases hn : n - 0 = 0
    · exact .inl hn
    · refine .inr ?_
      rw [hY _ (by omega), hY _ (by omega)]
      have h5 := h4.resolve_left (by omega)
      have h6 := hm (0 + 0) (0 + 0 + 1) (by omega) (by omega)
      rw [show 0 + (n + 1 - 0 - 1) = 0 + (n - 0 - 1) + 1 by omega] at h5
      omega
  · refine (fnd_iff Y n a b).2 ⟨t - 1, by omega, (div_iff Y n a b (t - 1)).2 ⟨⟨by omega, ?_⟩, by omega, ?_⟩⟩
    · by_cases h5 : t - 1 = 0
      · exact .inl h5
      · refine .inr ?_
        rw [hY _ (by omega), hY _ (by omega)]
        have h6 := h2.resolve_left h0
        have h7 := hm 0 (0 + 1) (by omega) (by omega)
        rw [show t - 1 - 1 + 1 = t - 1 by omega]
        omega
    · by_cases h5 : n - (t - 1) = 0
      · exact .inl h5
      · refine .inr ?_
        rw [hY _ (by omega), hY _ (by omega)]
        have h6 := h4.resolve_left (by omega)
        rw [show t - 1 + (n - (t - 1) - 1) + 1 = t + (n + 1 - t - 1) by omega, show t - 1 + 0 + 1 = t + 0 by omega]
        exact h6
/-- Without the greatest note. -/
theorem fnd_init (X Y : Nat → Int) (n : Nat) (a b : Int) (hm : ∀ i j, i ≤ j → j < n + 1 → X i ≤ X j) (hY : ∀ j, j < n → Y j = X j) (h : fndU X (n + 1) a b = true) : fndU Y n a b = true := by
  obtain ⟨t, ht, hd⟩ := (fnd_iff X (n + 1) a b).1 h
  rw [div_iff] at hd
  obtain ⟨⟨h1, h2⟩, h3, h4⟩ := hd
  by_cases h0 : t = n + 1
  · subst h0
    refine (fnd_iff Y n a b).2 ⟨n, by omega, (div_iff Y n a b n).2 ⟨⟨by omega, ?_⟩, by omega, .inl (by omega)⟩⟩
    by_cases hn : n = 0
    · exact .inl hn
    · refine .inr ?_
      rw [hY _ (by omega), hY _ (by omega)]
      have h5 := h2.resolve_left (by omega)
      have h6 := hm (n - 1) (n + 1 - 1) (by omega) (by omega)
      omega
  · refine (fnd_iff Y n a b).2 ⟨t, by omega, (div_iff Y n a b t).2 ⟨⟨h1, ?_⟩, by omega, ?_⟩⟩
    · by_cases h5 : t = 0
      · exact .inl h5
      · refine .inr ?_
        rw [hY _ (by omega), hY _ (by omega)]
        exact h2.resolve_left h5
    · by_cases h5 : n - t = 0
      · exact .inl h5
      · refine .inr ?_
        rw [hY _ (by omega), hY _ (by omega)]
        have h6 := h4.resolve_left (by omega)
        have h7 := hm (t + (n - t - 1)) (t + (n + 1 - t - 1)) (by omega) (by omega)
        omega
end Go.Proofs.YtinopmdefndhoaaDoor
/- Least. -/
namespace Go.Proofs.YtinopmdefndhoaaDoor
open Go Go.RowKit Go.Shelf
attribute [local go_sem] Oper.semAt_some
attribute [local go_sem] wide_fn wide_depth

def IntAt (w : World) (k : Nat) (x : Int) : Prop := w.heap[k]? = some (.cells #[.int .i64 x] 3)
theorem IntAt.below {w w' : World} {k B : Nat} {x : Int} (h : IntAt w k x) (hB : k < B) (hb : Below B w w') : IntAt w' k x := (hb.block k hB).trans h
theorem IntAt.cell {w : World} {k : Nat} {x : Int} (h : IntAt w k x) : w.cell? ⟨k, 0, none⟩ = some (.int .i64 x) := by simp [World.cell?, show w.heap[k]? = _ from h]
theorem IntAt.free {w : World} {k : Nat} {x : Int} (h : IntAt w k x) : w.frozen? ⟨k, 0, none⟩ = false := by simp [World.frozen?, show w.heap[k]? = _ from h]
theorem IntAt.lt {w : World} {k : Nat} {x : Int} (h : IntAt w k x) : k < w.heap.size := (Array.getElem?_eq_some_iff.1 h).1
theorem IntAt.set {w : World} {k : Nat} {x : Int} (h : IntAt w k x) (y : Int) : IntAt (w.setCell ⟨k, 0, none⟩ (.int .i64 y)) k y := by
  show (w.setCell ⟨k, 0, none⟩ (.int .i64 y)).heap[k]? = _
  simp only [World.setCell, Array.getElem?_modify, if_true, show w.heap[k]? = _ from h, Option.map_some]
  rfl
theorem IntAt.set' {w : World} {b k o : Nat} {x : Int} {v : Value} (h : IntAt w b x) (hk : b ≠ k) : IntAt (w.setCell ⟨k, o, none⟩ v) b x := (heap_set hk).trans h

/-- How wide the wider part is. -/
def widX (X : Nat → Int) (n t : Nat) : Int := max (wdX X t) (wdX (fun j => X (t + j)) (n - t))
/-- One step of the search for the least span. -/
def lsStep (X : Nat → Int) (n : Nat) (a : Int) (s : Int × Bool) (t : Nat) : Int × Bool :=
  if a < (t : Nat) then s else if a < (n - t : Nat) then s else if s.2 = false then (widX X n t, true) else if widX X n t < s.1 then (widX X n t, true) else s
def lsF (X : Nat → Int) (n : Nat) (a : Int) (l : List Nat) : Int × Bool := l.foldl (lsStep X n a) (0, false)
theorem lsF_snoc (X : Nat → Int) (n : Nat) (a : Int) (l : List Nat) (t : Nat) : lsF X n a (l ++ [t]) = lsStep X n a (lsF X n a l) t := by simp [lsF]
/-- What the search knows. -/
structure LsI (X : Nat → Int) (n : Nat) (a : Int) (l : List Nat) (s : Int × Bool) : Prop where
  yes : s.2 = true → (∃ t, t ∈ l ∧ (t : Int) ≤ a ∧ ((n - t : Nat) : Int) ≤ a ∧ s.1 = widX X n t) ∧ ∀ t, t ∈ l → (t : Int) ≤ a → ((n - t : Nat) : Int) ≤ a → s.1 ≤ widX X n t
  no : s.2 = false → s.1 = 0 ∧ ∀ t, t ∈ l → ¬ ((t : Int) ≤ a ∧ ((n - t : Nat) : Int) ≤ a)
theorem lsI_step {X : Nat → Int} {n : Nat} {a : Int} {l : List Nat} {s : Int × Bool} (h : LsI X n a l s) (t : Nat) : LsI X n a (l ++ [t]) (lsStep X n a s t) := by
  obtain ⟨m, f⟩ := s
  unfold lsStep
  by_cases h1 : a < (t : Int)
  · rw [if_pos h1]
    refine ⟨fun hf => ?_, fun hf => ?_⟩
    · obtain ⟨⟨u, hu, k⟩, hall⟩ := h.yes hf
      refine ⟨⟨u, by simp [hu], k⟩, fun v hv k1 k2 => ?_⟩
      rcases List.mem_append.1 hv with hv | hv
      · exact hall v hv k1 k2
      · simp at hv; subst hv; omega
    · obtain ⟨k0, hall⟩ := h.no hf
      refine ⟨k0, fun v hv k => ?_⟩
      rcases List.mem_append.1 hv with hv | hv
      · exact hall v hv k
      · simp at hv; subst hv; omega
  rw [if_neg h1]
  by_cases h2 : a < ((n - t : Nat) : Int)
  · rw [if_pos h2]
    refine ⟨fun hf => ?_, fun hf => ?_⟩
    · obtain ⟨⟨u, hu, k⟩, hall⟩ := h.yes hf
      refine ⟨⟨u, by simp [hu], k⟩, fun v hv k1 k2 => ?_⟩
      rcases List.mem_append.1 hv with hv | hv
      · exact hall v hv k1 k2
      · simp at hv; subst hv; omega
    · obtain ⟨k0, hall⟩ := h.no hf
      refine ⟨k0, fun v hv k => ?_⟩
      rcases List.mem_append.1 hv with hv | hv
      · exact hall v hv k
      · simp at hv; subst hv; omega
  rw [if_neg h2]
  cases f with
  | false =>
    rw [if_pos rfl]
    refine ⟨fun _ => ⟨⟨t, by simp, by omega, by omega, rfl⟩, fun v hv k1 k2 => ?_⟩, fun hf => by cases hf⟩
    rcases List.mem_append.1 hv with hv | hv
    · exact absurd ⟨k1, k2⟩ ((h.no rfl).2 v hv)
    · simp at hv; subst hv; exact Int.le_refl _
  | true =>
    rw [if_neg (by simp)]
    obtain ⟨⟨u, hu, k⟩, hall⟩ := h.yes rfl
    by_cases h3 : widX X n t < m
    · rw [if_pos h3]
      refine ⟨fun _ => ⟨⟨t, by simp, by omega, by omega, rfl⟩, fun v hv k1 k2 => ?_⟩, fun hf => by cases hf⟩
      rcases List.mem_append.1 hv with hv | hv
      · have := hall v hv k1 k2; simp only at this ⊢; omega
      · simp at hv; subst hv; exact Int.le_refl _
    · rw [if_neg h3]
      refine ⟨fun _ => ⟨⟨u, by simp [hu], k⟩, fun v hv k1 k2 => ?_⟩, fun hf => by cases hf⟩
      rcases List.mem_append.1 hv with hv | hv
      · exact hall v hv k1 k2
      · simp at hv; subst hv; simp only; omega
theorem lsI_all (X : Nat → Int) (n : Nat) (a : Int) (l : List Nat) : LsI X n a l (lsF X n a l) := by
  obtain ⟨r, hr⟩ : ∃ r, r = l.reverse := ⟨_, rfl⟩
  induction r generalizing l with
  | nil =>
    have : l = [] := by simpa using hr.symm
    subst this
    exact ⟨fun h => (by cases h), fun _ => ⟨rfl, fun t ht => by simp at ht⟩⟩
  | cons t r ih =>
    have e : l = r.reverse ++ [t] := by
      have := congrArg List.reverse hr
      simpa using this.symm
    subst e
    rw [lsF_snoc]
    exact lsI_step (ih _ (by simp)) t
theorem wdX_bd (X : Nat → Int) (n : Nat) (h : ∀ j, j < n → 0 ≤ X j ∧ X j ≤ 127) (hm : ∀ i j, i ≤ j → j < n → X i ≤ X j) : 0 ≤ wdX X n ∧ wdX X n ≤ 127 := by
  unfold wdX
  by_cases hn : n = 0
  · rw [if_pos hn]; omega
  · rw [if_neg hn]
    have h1 := h 0 (by omega)
    have h2 := h (n - 1) (by omega)
    have h3 := hm 0 (n - 1) (by omega) (by omega)
    omega
theorem held_wid (X : Nat → Int) (n : Nat) (a : Int) (k : Nat) : heldX X n a k = true ↔ ∃ t, t ≤ n ∧ (t : Int) ≤ a ∧ ((n - t : Nat) : Int) ≤ a ∧ widX X n t ≤ k := by
  have e : heldX X n a k = fndU X n a k := rfl
  rw [e, fnd_iff]
  constructor
  · rintro ⟨t, ht, h⟩
    unfold divB at h
    rw [holdX_is _ _ _ _ (by omega), holdX_is _ _ _ _ (by omega)] at h
    simp only [Bool.and_eq_true, decide_eq_true_eq] at h
    exact ⟨t, ht, h.1.1, h.2.1, by unfold widX; omega⟩
  · rintro ⟨t, ht, h1, h2, h3⟩
    refine ⟨t, ht, ?_⟩
    unfold divB
    rw [holdX_is _ _ _ _ (by omega), holdX_is _ _ _ _ (by omega)]
    simp only [Bool.and_eq_true, decide_eq_true_eq]
    unfold widX at h3
    exact ⟨⟨h1, by omega⟩, h2, by omega⟩
theorem lsF_is (X : Nat → Int) (n : Nat) (a : Int) (hX : ∀ j, j < n → 0 ≤ X j ∧ X j ≤ 127) (hm : ∀ i j, i ≤ j → j < n → X i ≤ X j) :
    0 ≤ (lsF X n a (List.range' 0 (n + 1))).1 ∧ LeastIs X n a (lsF X n a (List.range' 0 (n + 1))).1.toNat (lsF X n a (List.range' 0 (n + 1))).2 := by
  have h := lsI_all X n a (List.range' 0 (n + 1))
  generalize lsF X n a (List.range' 0 (n + 1)) = s at *
  have hw : ∀ t, t ≤ n → 0 ≤ widX X n t ∧ widX X n t ≤ 127 := fun t ht => by
    have k1 := wdX_bd X t (fun j hj => hX j (by omega)) (fun i j hij hj => hm i j hij (by omega))
    have k2 := wdX_bd (fun j => X (t + j)) (n - t) (fun j hj => hX (t + j) (by omega)) (fun i j hij hj => hm (t + i) (t + j) (by omega) (by omega))
    unfold widX
    omega
  cases hs : s.2 with
  | false =>
    obtain ⟨h0, hall⟩ := h.no hs
    refine ⟨by omega, ⟨fun e => (by cases e), fun _ => ⟨by omega, fun t _ => ?_⟩⟩⟩
    cases hh : heldX X n a t with
    | false => rfl
    | true =>
      obtain ⟨u, hu, k1, k2, _⟩ := (held_wid X n a t).1 hh
      exact absurd ⟨k1, k2⟩ (hall u (List.mem_range'_1.2 (by omega)))
  | true =>
    obtain ⟨⟨t, ht, k1, k2, k3⟩, hall⟩ := h.yes hs
    have ht' := List.mem_range'_1.1 ht
    have hwt := hw t (by omega)
    refine ⟨by omega, ⟨fun _ => ⟨by omega, (held_wid X n a _).2 ⟨t, by omega, k1, k2, by omega⟩, fun u hu => ?_⟩, fun e => (by cases e)⟩⟩
    cases hh : heldX X n a u with
    | false => rfl
    | true =>
      obtain ⟨v, hv, q1, q2, q3⟩ := (held_wid X n a u).1 hh
      have := hall v (List.mem_range'_1.2 (by omega)) q1 q2
      omega

end Go.Proofs.YtinopmdefndhoaaDoor
