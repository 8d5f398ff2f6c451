/- A region that draws its order, all of whose operations but the last one only add to memory: what is right behind the last one, and of the slots. -/
import Derived.Test.YtojgfpnecdngfaaNsSl
namespace Go.Proofs.Ytojgfpnecdngfaa
open Go Go.RowKit Go.Shelf
section
variable {P : Program} {ops : Array Oper} {Q : Exit → Act → World → Prop} {F : (Nat → Value) → Act}

def LastY (ops : Array Oper) (R : World → Prop) (Inv : Nat → Value → World → Prop) (Fin : (Nat → Value) → World → Prop) : (Nat → Bool) → (Nat → Value) → World → Prop :=
  fun L ys w => (∀ j o, ops[j]? = some o → L j = true → ∀ e ∈ o.after, Region.binds .any e = true → L e.on = true) ∧
    ((L (ops.size - 1) = false ∧ R w ∧ ∀ j, j < ops.size → L j = true → Inv j (ys j) w) ∨ (L (ops.size - 1) = true ∧ Fin ys w))
variable {R : World → Prop} {Fin : (Nat → Value) → World → Prop} {Inv : Nat → Value → World → Prop}

theorem SlotStep.yB (hu : usedB ops = true) {i : Nat} {o : Oper} (ho : ops[i]? = some o) (hi : i < ops.size - 1)
    (hR : ∀ A B : World, Below A.heap.size A B → R A → R B) (hI : ∀ (j : Nat) (v : Value) (A B : World), Below A.heap.size A B → Inv j v A → Inv j v B)
    (h : ∀ (ys : Nat → Value) (w : World), R w → (∀ j, waitsB .any o j = true → j < ops.size → Inv j (ys j) w) →
      ∀ K : Act → World → Prop, (∀ v w', Below w.heap.size w w' → Inv i v w' → K (F (upd ys i v)) w') →
        if Region.wanted o (yielded ops (F ys).tmps) = true then Oper.wp P o (F ys) w K Q else K ((F ys).put o.dst undef) w) :
    SlotStep P .any ops Q F (LastY ops R Inv Fin) i o := by
  intro L ys w hL ha ⟨hc, hd⟩ K hK
  rcases hd with ⟨hl, hr, hi2⟩ | ⟨hl, _⟩
  · refine h ys w hr (fun j hw hj => hi2 j hj (waits_at ha hw)) K (fun v w' hb hv => hK v w' ⟨clo_upd ho ha hc, .inl ⟨by rw [upd_ne _ _ (by omega)]; exact hl, hR _ _ hb hr, fun j hj hLj => ?_⟩⟩)
    by_cases hji : j = i
    · subst hji; rw [upd_same]; exact hv
    · rw [upd_ne _ _ hji]
      rw [upd_ne _ _ hji] at hLj
      exact hI j _ _ _ hb (hi2 j hj hLj)
  · rw [last_all hu hc hl (ops.size - 1 - i) i (by omega)] at hL
    cases hL

theorem SlotStep.yS (hu : usedB ops = true) {i : Nat} {o : Oper} (ho : ops[i]? = some o) (hi : i = ops.size - 1)
    (h : ∀ (ys : Nat → Value) (w : World), R w → (∀ j, j < i → Inv j (ys j) w) →
      ∀ K : Act → World → Prop, (∀ v w', (∀ ys', (∀ j, j ≠ i → ys' j = ys j) → Fin ys' w') → K (F (upd ys i v)) w') →
        if Region.wanted o (yielded ops (F ys).tmps) = true then Oper.wp P o (F ys) w K Q else K ((F ys).put o.dst undef) w) :
    SlotStep P .any ops Q F (LastY ops R Inv Fin) i o := by
  intro L ys w hL ha ⟨hc, hd⟩ K hK
  rcases hd with ⟨hl, hr, hi2⟩ | ⟨hl, _⟩
  · have hall : ∀ j, j < i → L j = true := by
      have hclo := clo_upd (L := L) ho ha hc
      intro j hj
      have h1 := last_all (L := upd L i true) hu hclo (by rw [← hi, upd_same]) (ops.size - 1 - j) j (by omega)
      rwa [upd_ne _ _ (by omega)] at h1
    exact h ys w hr (fun j hj => hi2 j (by omega) (hall j hj)) K (fun v w' hf => hK v w' ⟨clo_upd ho ha hc, .inr ⟨by rw [← hi, upd_same], hf _ (fun j hj => upd_ne _ _ hj)⟩⟩)
  · rw [hi] at hL; rw [hL] at hl; cases hl

theorem y_start (h0 : 0 < ops.size) {ys : Nat → Value} {w : World} (hr : R w) : LastY ops R Inv Fin (fun i => decide (ops.size ≤ i)) ys w :=
  ⟨fun j o ho hj => by have := (Array.getElem?_eq_some_iff.1 ho).1; have := of_decide_eq_true hj; omega, .inl ⟨by simp; omega, hr, fun j hj hL => by have := of_decide_eq_true hL; omega⟩⟩
theorem y_end (h0 : 0 < ops.size) {L : Nat → Bool} {ys : Nat → Value} {w : World} (hL : ∀ i, i < ops.size → L i = true) (h : LastY ops R Inv Fin L ys w) : Fin ys w := by
  rcases h.2 with ⟨hl, _⟩ | ⟨_, h⟩
  · rw [hL _ (by omega)] at hl; cases hl
  · exact h

/-- The same, where the values of two slots differ. -/
def LastZ (Pr : Value → Value → Prop) (p q : Nat) (ops : Array Oper) (R : World → Prop) (Inv : Nat → Value → World → Prop) (Fin : (Nat → Value) → World → Prop) : (Nat → Bool) → (Nat → Value) → World → Prop :=
  fun L ys w => (∀ j o, ops[j]? = some o → L j = true → ∀ e ∈ o.after, Region.binds .any e = true → L e.on = true) ∧
    ((L (ops.size - 1) = false ∧ R w ∧ (∀ j, j < ops.size → L j = true → Inv j (ys j) w) ∧ (L p = true → L q = true → Pr (ys p) (ys q))) ∨ (L (ops.size - 1) = true ∧ Fin ys w))

theorem SlotStep.zB {Pr : Value → Value → Prop} {p q : Nat} (hp : p < ops.size) (hq : q < ops.size) (hpq : p ≠ q) (hu : usedB ops = true) {i : Nat} {o : Oper} (ho : ops[i]? = some o) (hi : i < ops.size - 1)
    (hR : ∀ A B : World, Below A.heap.size A B → R A → R B) (hI : ∀ (j : Nat) (v : Value) (A B : World), Below A.heap.size A B → Inv j v A → Inv j v B)
    (h : ∀ (ys : Nat → Value) (w : World), R w → (∀ j, waitsB .any o j = true → j < ops.size → Inv j (ys j) w) → (waitsB .any o p = true → waitsB .any o q = true → Pr (ys p) (ys q)) →
      ∀ K : Act → World → Prop, (∀ v w', Below w.heap.size w w' → Inv i v w' → (i = p → ∀ u, Inv q u w → Pr v u) → (i = q → ∀ u, Inv p u w → Pr u v) → K (F (upd ys i v)) w') →
        if Region.wanted o (yielded ops (F ys).tmps) = true then Oper.wp P o (F ys) w K Q else K ((F ys).put o.dst undef) w) :
    SlotStep P .any ops Q F (LastZ Pr p q ops R Inv Fin) i o := by
  intro L ys w hL ha ⟨hc, hd⟩ K hK
  rcases hd with ⟨hl, hr, hi2, hne⟩ | ⟨hl, _⟩
  · refine h ys w hr (fun j hw hj => hi2 j hj (waits_at ha hw)) (fun h1 h2 => hne (waits_at ha h1) (waits_at ha h2)) K (fun v w' hb hv h1 h2 => hK v w' ⟨clo_upd ho ha hc, .inl ⟨by rw [upd_ne _ _ (by omega)]; exact hl, hR _ _ hb hr, fun j hj hLj => ?_, fun hLp hLq => ?_⟩⟩)
    · by_cases hji : j = i
      · subst hji; rw [upd_same]; exact hv
      · rw [upd_ne _ _ hji]
        rw [upd_ne _ _ hji] at hLj
        exact hI j _ _ _ hb (hi2 j hj hLj)
    · by_cases hip : p = i
      · subst hip
        have hqp : q ≠ p := fun e => hpq e.symm
        rw [upd_same, upd_ne _ _ hqp]
        rw [upd_ne _ _ hqp] at hLq
        exact h1 rfl _ (hi2 q hq hLq)
      · by_cases hiq : q = i
        · subst hiq
          rw [upd_same, upd_ne _ _ hip]
          rw [upd_ne _ _ hip] at hLp
          exact h2 rfl _ (hi2 p hp hLp)
        · rw [upd_ne _ _ hip, upd_ne _ _ hiq]
          rw [upd_ne _ _ hip] at hLp
          rw [upd_ne _ _ hiq] at hLq
          exact hne hLp hLq
  · rw [last_all hu hc hl (ops.size - 1 - i) i (by omega)] at hL
    cases hL

theorem SlotStep.zS {Pr : Value → Value → Prop} {p q : Nat} (hu : usedB ops = true) {i : Nat} {o : Oper} (ho : ops[i]? = some o) (hi : i = ops.size - 1) (hp : p < i) (hq : q < i)
    (h : ∀ (ys : Nat → Value) (w : World), R w → (∀ j, j < i → Inv j (ys j) w) → Pr (ys p) (ys q) →
      ∀ K : Act → World → Prop, (∀ v w', (∀ ys', (∀ j, j ≠ i → ys' j = ys j) → Fin ys' w') → K (F (upd ys i v)) w') →
        if Region.wanted o (yielded ops (F ys).tmps) = true then Oper.wp P o (F ys) w K Q else K ((F ys).put o.dst undef) w) :
    SlotStep P .any ops Q F (LastZ Pr p q ops R Inv Fin) i o := by
  intro L ys w hL ha ⟨hc, hd⟩ K hK
  rcases hd with ⟨hl, hr, hi2, hne⟩ | ⟨hl, _⟩
  · have hall : ∀ j, j < i → L j = true := by
      have hclo := clo_upd (L := L) ho ha hc
      intro j hj
      have h1 := last_all (L := upd L i true) hu hclo (by rw [← hi, upd_same]) (ops.size - 1 - j) j (by omega)
      rwa [upd_ne _ _ (by omega)] at h1
    exact h ys w hr (fun j hj => hi2 j (by omega) (hall j hj)) (hne (hall p hp) (hall q hq)) K (fun v w' hf => hK v w' ⟨clo_upd ho ha hc, .inr ⟨by rw [← hi, upd_same], hf _ (fun j hj => upd_ne _ _ hj)⟩⟩)
  · rw [hi] at hL; rw [hL] at hl; cases hl

theorem z_start {Pr : Value → Value → Prop} {p q : Nat} (h0 : 0 < ops.size) (hp : p < ops.size) {ys : Nat → Value} {w : World} (hr : R w) : LastZ Pr p q ops R Inv Fin (fun i => decide (ops.size ≤ i)) ys w :=
  ⟨fun j o ho hj => by have := (Array.getElem?_eq_some_iff.1 ho).1; have := of_decide_eq_true hj; omega, .inl ⟨by simp; omega, hr, fun j hj hL => by have := of_decide_eq_true hL; omega, fun hL => by have := of_decide_eq_true hL; omega⟩⟩
theorem z_end {Pr : Value → Value → Prop} {p q : Nat} (h0 : 0 < ops.size) {L : Nat → Bool} {ys : Nat → Value} {w : World} (hL : ∀ i, i < ops.size → L i = true) (h : LastZ Pr p q ops R Inv Fin L ys w) : Fin ys w := by
  rcases h.2 with ⟨hl, _⟩ | ⟨_, h⟩
  · rw [hL _ (by omega)] at hl; cases hl
  · exact h
end
end Go.Proofs.Ytojgfpnecdngfaa
