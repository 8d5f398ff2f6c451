/- A region that draws its order, inside a fence: one invariant over what has come up so far; one operation may turn the world for good. -/
import Derived.Test.YtkoljddejjfbiaaGreatDoorImJz
import Derived.OrdersIn
import Derived.TacticsIn
namespace Go.Proofs.YtkoljddejjfbiaaGreatDoor
open Go Go.RowKit Go.Shelf

section
variable {F : Fence} {n : Nat} {P : Program} {ops : Array Oper} {Q : Exit → Act → World → Prop} {md : Region.Mode}

def SlotStepIn (F : Fence) (n : Nat) (P : Program) (md : Region.Mode) (ops : Array Oper) (Q : Exit → Act → World → Prop) (A : (Nat → Value) → Act) (I : (Nat → Bool) → (Nat → Value) → World → Prop) (i : Nat) (o : Oper) : Prop :=
  ∀ (L : Nat → Bool) (ys : Nat → Value) (w : World), L i = false → (∀ e ∈ o.after, Region.binds md e = true → L e.on = true) → I L ys w →
    ∀ K : Act → World → Prop, (∀ v w', I (upd L i true) (upd ys i v) w' → K (A (upd ys i v)) w') →
      if Region.wanted o (yielded ops (A ys).tmps) = true then Oper.wpIn F n P o (A ys) w K Q else (∀ f, o.about P w (A ys).eval = some f → F.fn f) ∧ K ((A ys).put o.dst undef) w

def SlotStepsIn (F : Fence) (n : Nat) (P : Program) (md : Region.Mode) (ops : Array Oper) (Q : Exit → Act → World → Prop) (A : (Nat → Value) → Act) (I : (Nat → Bool) → (Nat → Value) → World → Prop) : Nat → List Oper → Prop
  | _, [] => True
  | i, o :: rest => SlotStepIn F n P md ops Q A I i o ∧ SlotStepsIn F n P md ops Q A I (i + 1) rest

variable {A : (Nat → Value) → Act} {I : (Nat → Bool) → (Nat → Value) → World → Prop}

theorem SlotStepsIn.at : ∀ (l : List Oper) (k : Nat), SlotStepsIn F n P md ops Q A I k l → ∀ i o, l[i]? = some o → SlotStepIn F n P md ops Q A I (k + i) o
  | [], _, _, i, o, h => by simp at h
  | x :: l, k, hs, 0, o, h => by simp at h; subst h; exact hs.1
  | x :: l, k, hs, i + 1, o, h => by
    have := SlotStepsIn.at l (k + 1) hs.2 i o (by simpa using h)
    rwa [show k + 1 + i = k + (i + 1) by omega] at this

theorem wpAnyIn_slots (he : earlierB md ops = true) (hs : SlotStepsIn F n P md ops Q A I 0 ops.toList)
    (hd : ∀ L ys w, (∀ i, i < ops.size → L i = true) → I L ys w → Q .normal (A ys) w) :
    ∀ (fuel : Nat) (listed : Array Bool) (ys : Nat → Value) (w : World), listed.size = ops.size → toCome ops.size listed ≤ fuel →
      I (fun i => listed.getD i true) ys w → wpAnyIn F n P md ops Q fuel listed (A ys) w := by
  intro fuel
  induction fuel with
  | zero =>
    intro listed ys w hz hc hI
    have hnone : ∀ i, i < ops.size → listed.getD i true = true := fun i hi => by
      cases hl : listed.getD i true with
      | true => rfl
      | false =>
        have : i ∈ (List.range ops.size).filter fun i => !listed.getD i true := List.mem_filter.2 ⟨List.mem_range.2 hi, by rw [hl]; rfl⟩
        have := List.length_pos_of_mem this
        unfold toCome at hc
        omega
    refine ⟨?_, hd _ ys w hnone hI⟩
    cases hr : Region.ready md ops listed with
    | nil => rfl
    | cons x xs =>
      have hx : x ∈ Region.ready md ops listed := by rw [hr]; exact List.mem_cons_self ..
      obtain ⟨h0, o, ho, _⟩ := mem_ready.1 hx
      rw [hnone x (Array.getElem?_eq_some_iff.1 ho).1] at h0
      cases h0
  | succ fuel ih =>
    intro listed ys w hz hc hI
    refine ⟨fun hr => hd _ ys w (all_listed he hr) hI, fun i hi => ?_⟩
    obtain ⟨h0, o, ho, hall⟩ := mem_ready.1 hi
    have hlt : i < ops.size := (Array.getElem?_eq_some_iff.1 ho).1
    have hst := SlotStepsIn.at ops.toList 0 hs i o (by simpa using ho)
    rw [Nat.zero_add] at hst
    have key := hst (fun i => listed.getD i true) ys w h0 (fun e hm hb => by
      have h1 := hall e hm hb
      rcases Nat.lt_or_ge e.on listed.size with h' | h'
      · simpa [h'] using h1
      · simp [Array.getElem?_eq_none h'] at h1) hI (wpAnyIn F n P md ops Q fuel (listed.setIfInBounds i true)) (fun v w' hI' => by
      refine ih _ _ _ (by simp [hz]) (by have := toCome_set hlt h0; omega) ?_
      have e : (fun j => (listed.setIfInBounds i true).getD j true) = upd (fun j => listed.getD j true) i true := by
        funext j
        by_cases hji : j = i
        · subst hji; rw [upd_same]; simp [show j < listed.size by omega]
        · rw [upd_ne _ _ hji, getD_set_ne true (Ne.symm hji)]
      rw [e]
      exact hI')
    unfold wpOpIn
    rw [ho]
    exact key

theorem wpIn_region_slots {id : Nat} {a : Act} {w : World} (hm : P.follows .mixedOrders = true) (A : (Nat → Value) → Act) (I : (Nat → Bool) → (Nat → Value) → World → Prop) (ys : Nat → Value) (ha : a = A ys)
    (he : earlierB .any ops = true) (h0 : I (fun i => decide (ops.size ≤ i)) ys w.drew) (hs : SlotStepsIn F n P .any ops Q A I 0 ops.toList)
    (hd : ∀ L ys w, (∀ i, i < ops.size → L i = true) → I L ys w → Q .normal (A ys) w) : (Code.region id ops true).wpIn F n P Q a w := by
  refine wpIn_region_any hm ?_
  rw [ha]
  refine wpAnyIn_slots he hs hd _ _ _ _ (by simp) ?_ ?_
  · unfold toCome
    exact Nat.le_trans (List.length_filter_le _ _) (by simp)
  · have e : (fun i => (Array.replicate ops.size false).getD i true) = fun i => decide (ops.size ≤ i) := by
      funext i
      by_cases h : i < ops.size
      · simp [h]
      · simp [h]; omega
    rw [e]
    exact h0

/-- THE REGION, its frame laid out. -/
theorem wpIn_region_slots_at {id : Nat} {a : Act} {w : World} {base : List Value} {d : List Deferred} (hm : P.follows .mixedOrders = true) (_ha : a = { tmps := base.toArray, defers := d })
    (G : List Value → (Nat → Value) → List Value) (I : (Nat → Bool) → (Nat → Value) → World → Prop) (ys : Nat → Value) (he : earlierB .any ops = true)
    (h0 : I (fun i => decide (ops.size ≤ i)) ys w.drew)
    (h : ∀ A : (Nat → Value) → Act, A = (fun ys => { tmps := (G base ys).toArray, defers := d }) →
      a = A ys ∧ SlotStepsIn F n P .any ops Q A I 0 ops.toList ∧ ∀ L ys w, (∀ i, i < ops.size → L i = true) → I L ys w → Q .normal (A ys) w) : (Code.region id ops true).wpIn F n P Q a w := by
  obtain ⟨h1, h2, h3⟩ := h _ rfl
  exact wpIn_region_slots hm _ I ys h1 he h0 h2 h3

theorem SlotStepIn.below {m : Nat} {R : World → Prop} {Inv : Nat → Value → World → Prop} {i : Nat} {o : Oper}
    (hR : ∀ A B : World, Below A.heap.size A B → R A → R B) (hI : ∀ (j : Nat) (v : Value) (A B : World), Below A.heap.size A B → Inv j v A → Inv j v B)
    (h : ∀ (ys : Nat → Value) (w : World), R w → (∀ j, waitsB md o j = true → j < m → Inv j (ys j) w) →
      ∀ K : Act → World → Prop, (∀ v w', Below w.heap.size w w' → Inv i v w' → K (A (upd ys i v)) w') →
        if Region.wanted o (yielded ops (A ys).tmps) = true then Oper.wpIn F n P o (A ys) w K Q else (∀ f, o.about P w (A ys).eval = some f → F.fn f) ∧ K ((A ys).put o.dst undef) w) :
    SlotStepIn F n P md ops Q A (BelowI m R Inv) i o := by
  intro L ys w _ ha ⟨hr, hi⟩ K hK
  refine h ys w hr (fun j hw hj => hi j hj (waits_at ha hw)) K (fun v w' hb hv => hK v w' ⟨hR _ _ hb hr, fun j hj hL => ?_⟩)
  by_cases hji : j = i
  · subst hji; rw [upd_same]; exact hv
  · rw [upd_ne _ _ hji]
    rw [upd_ne _ _ hji] at hL
    exact hI j _ _ _ hb (hi j hj hL)

/-- Each operation ahead of number m is waited for by one up to m. -/
def usedTo (ops : Array Oper) (m : Nat) : Bool := (List.range m).all fun j => (List.range (m + 1)).any fun k => decide (j < k) && (match ops[k]? with | some o => waitsB .any o j | none => false)
theorem turn_all {m : Nat} {L : Nat → Bool} (hu : usedTo ops m = true) (hc : ∀ j o, ops[j]? = some o → L j = true → ∀ e ∈ o.after, Region.binds .any e = true → L e.on = true) (hl : L m = true) :
    ∀ d j, j + d = m → L j = true := by
  intro d
  induction d using Nat.strongRecOn with
  | ind d ih =>
    intro j hj
    by_cases h0 : d = 0
    · subst h0; rw [Nat.add_zero] at hj; rw [hj]; exact hl
    · have h1 := List.all_eq_true.1 hu j (List.mem_range.2 (by omega))
      obtain ⟨k, hk, hkb⟩ := List.any_eq_true.1 h1
      have hkn := List.mem_range.1 hk
      simp only [Bool.and_eq_true, decide_eq_true_eq] at hkb
      obtain ⟨hjk, hw⟩ := hkb
      cases ho : ops[k]? with
      | none => rw [ho] at hw; cases hw
      | some o =>
        rw [ho] at hw
        exact waits_at (hc k o ho (ih (m - k) (by omega) k (by omega))) hw

/-- What is right until operation m, and what is right behind it. -/
def TurnI (ops : Array Oper) (m : Nat) (R : World → Prop) (Inv : Nat → Value → World → Prop) (Fin : (Nat → Bool) → (Nat → Value) → World → Prop) : (Nat → Bool) → (Nat → Value) → World → Prop :=
  fun L ys w => (∀ j o, ops[j]? = some o → L j = true → ∀ e ∈ o.after, Region.binds .any e = true → L e.on = true) ∧
    ((L m = false ∧ R w ∧ ∀ j, j < m → L j = true → Inv j (ys j) w) ∨ (L m = true ∧ Fin L ys w))

variable {m : Nat} {R : World → Prop} {Inv : Nat → Value → World → Prop} {Fin : (Nat → Bool) → (Nat → Value) → World → Prop}

theorem SlotStepIn.turnB (hu : usedTo ops m = true) {i : Nat} {o : Oper} (ho : ops[i]? = some o) (hi : i < m)
    (hR : ∀ A B : World, Below A.heap.size A B → R A → R B) (hI : ∀ (j : Nat) (v : Value) (A B : World), Below A.heap.size A B → Inv j v A → Inv j v B)
    (h : ∀ (ys : Nat → Value) (w : World), R w → (∀ j, waitsB .any o j = true → j < m → Inv j (ys j) w) →
      ∀ K : Act → World → Prop, (∀ v w', Below w.heap.size w w' → Inv i v w' → K (A (upd ys i v)) w') →
        if Region.wanted o (yielded ops (A ys).tmps) = true then Oper.wpIn F n P o (A ys) w K Q else (∀ f, o.about P w (A ys).eval = some f → F.fn f) ∧ K ((A ys).put o.dst undef) w) :
    SlotStepIn F n P .any ops Q A (TurnI ops m R Inv Fin) i o := by
  intro L ys w hL ha ⟨hc, hd⟩ K hK
  rcases hd with ⟨hl, hr, hi2⟩ | ⟨hl, _⟩
  · refine h ys w hr (fun j hw hj => hi2 j hj (waits_at ha hw)) K (fun v w' hb hv => hK v w' ⟨clo_upd ho ha hc, .inl ⟨by rw [upd_ne _ _ (by omega)]; exact hl, hR _ _ hb hr, fun j hj hLj => ?_⟩⟩)
    by_cases hji : j = i
    · subst hji; rw [upd_same]; exact hv
    · rw [upd_ne _ _ hji]
      rw [upd_ne _ _ hji] at hLj
      exact hI j _ _ _ hb (hi2 j hj hLj)
  · rw [turn_all hu hc hl (m - i) i (by omega)] at hL
    cases hL

theorem SlotStepIn.turnM {o : Oper} (ho : ops[m]? = some o)
    (h : ∀ (L : Nat → Bool) (ys : Nat → Value) (w : World), R w → (∀ j, waitsB .any o j = true → j < m → Inv j (ys j) w) →
      ∀ K : Act → World → Prop, (∀ v w', Fin (upd L m true) (upd ys m v) w' → K (A (upd ys m v)) w') → (∀ j o', ops[j]? = some o' → waitsB .any o' m = true → L j = false) →
        if Region.wanted o (yielded ops (A ys).tmps) = true then Oper.wpIn F n P o (A ys) w K Q else (∀ f, o.about P w (A ys).eval = some f → F.fn f) ∧ K ((A ys).put o.dst undef) w) :
    SlotStepIn F n P .any ops Q A (TurnI ops m R Inv Fin) m o := by
  intro L ys w hL ha ⟨hc, hd⟩ K hK
  rcases hd with ⟨_, hr, hi2⟩ | ⟨hl, _⟩
  · refine h L ys w hr (fun j hw hj => hi2 j hj (waits_at ha hw)) K (fun v w' hf => hK v w' ⟨clo_upd ho ha hc, .inr ⟨upd_same _ _ _, hf⟩⟩) (fun j o' hj hw => ?_)
    cases hLj : L j with
    | false => rfl
    | true => have := waits_at (hc j o' hj hLj) hw; rw [hL] at this; cases this
  · rw [hL] at hl; cases hl

theorem SlotStepIn.turnA {i : Nat} {o : Oper} (ho : ops[i]? = some o) (hi : i ≠ m) (hw : waitsB .any o m = true)
    (h : ∀ (L : Nat → Bool) (ys : Nat → Value) (w : World), Fin L ys w →
      ∀ K : Act → World → Prop, (∀ v w', Fin (upd L i true) (upd ys i v) w' → K (A (upd ys i v)) w') →
        if Region.wanted o (yielded ops (A ys).tmps) = true then Oper.wpIn F n P o (A ys) w K Q else (∀ f, o.about P w (A ys).eval = some f → F.fn f) ∧ K ((A ys).put o.dst undef) w) :
    SlotStepIn F n P .any ops Q A (TurnI ops m R Inv Fin) i o := by
  intro L ys w hL ha ⟨hc, hd⟩ K hK
  have hm : L m = true := waits_at ha hw
  rcases hd with ⟨hl, _⟩ | ⟨hl, hf⟩
  · rw [hm] at hl; cases hl
  · exact h L ys w hf K (fun v w' hf' => hK v w' ⟨clo_upd ho ha hc, .inr ⟨by rw [upd_ne _ _ (Ne.symm hi)]; exact hl, hf'⟩⟩)

theorem turn_start (h0 : m < ops.size) {ys : Nat → Value} {w : World} (hr : R w) : TurnI ops m R Inv Fin (fun i => decide (ops.size ≤ i)) ys w :=
  ⟨fun j o ho hj => by have := (Array.getElem?_eq_some_iff.1 ho).1; have := of_decide_eq_true hj; omega, .inl ⟨by simp; omega, hr, fun j hj hL => by have := of_decide_eq_true hL; omega⟩⟩
theorem turn_end (h0 : m < ops.size) {L : Nat → Bool} {ys : Nat → Value} {w : World} (hL : ∀ i, i < ops.size → L i = true) (h : TurnI ops m R Inv Fin L ys w) : Fin L ys w := by
  rcases h.2 with ⟨hl, _⟩ | ⟨_, h⟩
  · rw [hL _ h0] at hl; cases hl
  · exact h
end
end Go.Proofs.YtkoljddejjfbiaaGreatDoor
