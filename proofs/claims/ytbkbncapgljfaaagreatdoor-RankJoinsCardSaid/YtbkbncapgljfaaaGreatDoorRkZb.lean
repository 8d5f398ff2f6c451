/- Regions whose world turns along a chain; regions that store twice at their end. -/
import Derived.Test.YtbkbncapgljfaaaGreatDoorRkZ
import Derived.Test.YtbkbncapgljfaaaGreatDoorRkUb
namespace Go.Proofs.YtbkbncapgljfaaaGreatDoor
open Go Go.RowKit Go.Shelf

section
variable {P : Program} {ops : Array Oper} {Q : Exit → Act → World → Prop} {F : (Nat → Value) → Act}
/-- The world turns at the operations cs 0, cs 1, .. one behind the other; the others only yield. -/
def ChI (ops : Array Oper) (r : Nat) (cs : Nat → Nat) (Inv : Nat → Value → Prop) (St : Nat → (Nat → Value) → World → Prop) : (Nat → Bool) → (Nat → Value) → World → Prop :=
  fun L ys w => CloI ops L ∧ (∀ j, j < ops.size → L j = true → Inv j (ys j)) ∧ ∃ k, k ≤ r ∧ (∀ j, j < r → L (cs j) = decide (j < k)) ∧ St k ys w
variable {r : Nat} {cs : Nat → Nat} {Inv : Nat → Value → Prop} {St : Nat → (Nat → Value) → World → Prop}
theorem SlotStep.chP {i : Nat} {o : Oper} (ho : ops[i]? = some o) (hne : ∀ j, j < r → cs j ≠ i) (hS : ∀ k ys v w, St k ys w → St k (upd ys i v) w)
    (h : ∀ (k : Nat) (ys : Nat → Value) (w : World), St k ys w → (∀ j, waitsB .any o j = true → j < ops.size → Inv j (ys j)) →
      ∀ K : Act → World → Prop, (∀ v, Inv i v → K (F (upd ys i v)) w) →
        if Region.wanted o (yielded ops (F ys).tmps) = true then Oper.wp P o (F ys) w K Q else K ((F ys).put o.dst undef) w) :
    SlotStep P .any ops Q F (ChI ops r cs Inv St) i o := by
  intro L ys w hL ha ⟨hc, hi, k, hk, hj, hs⟩ K hK
  refine h k ys w hs (fun j hw hjn => hi j hjn (waits_at ha hw)) K (fun v hv => hK v w ⟨clo_upd ho ha hc, fun j hjn hLj => ?_, k, hk, fun j hjr => ?_, hS k ys v w hs⟩)
  · by_cases hji : j = i
    · subst hji; rw [upd_same]; exact hv
    · rw [upd_ne _ _ hji]
      rw [upd_ne _ _ hji] at hLj
      exact hi j hjn hLj
  · rw [upd_ne _ _ (hne j hjr)]; exact hj j hjr
theorem SlotStep.chC {i : Nat} {o : Oper} (ho : ops[i]? = some o) (k0 : Nat) (hk0 : k0 < r) (hci : cs k0 = i) (hinj : ∀ a b, a < r → b < r → cs a = cs b → a = b) (hprev : k0 = 0 ∨ waitsB .any o (cs (k0 - 1)) = true) (hI : ∀ v, Inv i v)
    (h : ∀ (ys : Nat → Value) (w : World), St k0 ys w → (∀ j, waitsB .any o j = true → j < ops.size → Inv j (ys j)) →
      ∀ K : Act → World → Prop, (∀ v w', St (k0 + 1) (upd ys i v) w' → K (F (upd ys i v)) w') →
        if Region.wanted o (yielded ops (F ys).tmps) = true then Oper.wp P o (F ys) w K Q else K ((F ys).put o.dst undef) w) :
    SlotStep P .any ops Q F (ChI ops r cs Inv St) i o := by
  intro L ys w hL ha ⟨hc, hi, k, hk, hj, hs⟩ K hK
  have h1 : ¬ k0 < k := by
    have := hj k0 hk0
    rw [hci, hL] at this
    intro hlt
    rw [decide_eq_true hlt] at this
    cases this
  have h2 : k = k0 := by
    rcases hprev with rfl | hp
    · omega
    · by_cases h0 : k0 = 0
      · omega
      · have h3 := hj (k0 - 1) (by omega)
        rw [waits_at ha hp] at h3
        have := of_decide_eq_true h3.symm
        omega
  subst h2
  refine h ys w hs (fun j hw hjn => hi j hjn (waits_at ha hw)) K (fun v w' hs' => hK v w' ⟨clo_upd ho ha hc, fun j hjn hLj => ?_, k + 1, hk0, fun j hjr => ?_, hs'⟩)
  · by_cases hji : j = i
    · subst hji; exact hI _
    · rw [upd_ne _ _ hji]
      rw [upd_ne _ _ hji] at hLj
      exact hi j hjn hLj
  · by_cases hjk : j = k
    · subst hjk
      rw [hci, upd_same]; exact (decide_eq_true (by omega)).symm
    · rw [upd_ne _ _ (fun e => hjk (hinj j k hjr hk0 (e.trans hci.symm))), hj j hjr]
      by_cases h4 : j < k
      · rw [decide_eq_true h4, decide_eq_true (by omega)]
      · rw [decide_eq_false h4, decide_eq_false (by omega)]
theorem ch_start (hcs : ∀ j, j < r → cs j < ops.size) {ys : Nat → Value} {w : World} (hs : St 0 ys w) : ChI ops r cs Inv St (fun i => decide (ops.size ≤ i)) ys w :=
  ⟨fun j o ho hj => by have := (Array.getElem?_eq_some_iff.1 ho).1; have := of_decide_eq_true hj; omega, fun j hj hL => by have := of_decide_eq_true hL; omega, 0, Nat.zero_le _, fun j hj => by have := hcs j hj; show decide (ops.size ≤ cs j) = decide (j < 0); rw [decide_eq_false (by omega), decide_eq_false (by omega)], hs⟩
theorem ch_end (hcs : ∀ j, j < r → cs j < ops.size) {L : Nat → Bool} {ys : Nat → Value} {w : World} (hL : ∀ i, i < ops.size → L i = true) (h : ChI ops r cs Inv St L ys w) : St r ys w ∧ ∀ j, j < ops.size → Inv j (ys j) := by
  obtain ⟨_, hi, k, hk, hj, hs⟩ := h
  refine ⟨?_, fun j hjn => hi j hjn (hL j hjn)⟩
  by_cases hkr : k = r
  · subst hkr; exact hs
  · have h1 := hj k (by omega)
    rw [hL _ (hcs k (by omega)), decide_eq_false (by omega)] at h1
    cases h1
end
section
variable {P : Program} {ops : Array Oper} {Q : Exit → Act → World → Prop} {F : (Nat → Value) → Act}
/-- All but the last two operations only add to memory; the last two store, one behind the other. -/
def TwoI (ops : Array Oper) (s p q : Nat) (R : World → Prop) (Inv : Nat → Value → World → Prop) (Mid Fin : (Nat → Value) → World → Prop) : (Nat → Bool) → (Nat → Value) → World → Prop :=
  fun L ys w => CloI ops L ∧ ((L s = false ∧ L (s + 1) = false ∧ R w ∧ (∀ j, j < ops.size → L j = true → Inv j (ys j) w) ∧ (L p = true → L q = true → ys p ≠ ys q)) ∨ (L s = true ∧ L (s + 1) = false ∧ Mid ys w) ∨ (L (s + 1) = true ∧ Fin ys w))
variable {s p q : Nat} {R : World → Prop} {Inv : Nat → Value → World → Prop} {Mid Fin : (Nat → Value) → World → Prop}
theorem SlotStep.twB {i : Nat} {o : Oper} (ho : ops[i]? = some o) (his : i < s) (hip : p ≠ i) (hiq : q ≠ i) (hp : ∀ L, CloI ops L → L s = true → L i = true) (hs1 : ∀ L, CloI ops L → L (s + 1) = true → L s = true)
    (hR : ∀ A B : World, Below A.heap.size A B → R A → R B) (hI : ∀ (j : Nat) (v : Value) (A B : World), Below A.heap.size A B → Inv j v A → Inv j v B)
    (h : ∀ (ys : Nat → Value) (w : World), R w → (∀ j, waitsB .any o j = true → j < ops.size → Inv j (ys j) w) →
      ∀ K : Act → World → Prop, (∀ v w', Below w.heap.size w w' → Inv i v w' → K (F (upd ys i v)) w') →
        if Region.wanted o (yielded ops (F ys).tmps) = true then Oper.wp P o (F ys) w K Q else K ((F ys).put o.dst undef) w) :
    SlotStep P .any ops Q F (TwoI ops s p q R Inv Mid Fin) i o := by
  intro L ys w hL ha ⟨hc, hd⟩ K hK
  rcases hd with ⟨hl, hl1, hr, hi2, hpq⟩ | ⟨hl, _⟩ | ⟨hl, _⟩
  · refine h ys w hr (fun j hw hj => hi2 j hj (waits_at ha hw)) K (fun v w' hb hv => hK v w' ⟨clo_upd ho ha hc, .inl ⟨by rw [upd_ne _ _ (by omega)]; exact hl, by rw [upd_ne _ _ (by omega)]; exact hl1, hR _ _ hb hr, fun j hj hLj => ?_, by rw [upd_ne _ _ hip, upd_ne _ _ hiq, upd_ne _ _ hip, upd_ne _ _ hiq]; exact hpq⟩⟩)
    by_cases hji : j = i
    · subst hji; rw [upd_same]; exact hv
    · rw [upd_ne _ _ hji]
      rw [upd_ne _ _ hji] at hLj
      exact hI j _ _ _ hb (hi2 j hj hLj)
  · rw [hp L hc hl] at hL; cases hL
  · rw [hp L hc (hs1 L hc hl)] at hL; cases hL
theorem SlotStep.twA {i : Nat} {o : Oper} (ho : ops[i]? = some o) (his : i < s) (hpq' : p ≠ q) (hi : i = p ∨ i = q) (hps : p < ops.size) (hqs : q < ops.size) (hz : ∀ (j : Nat) (v : Value) (w : World), (j = p ∨ j = q) → Inv j v w → v ≠ .pointer (some ⟨w.heap.size, 0, none⟩)) (hp : ∀ L, CloI ops L → L s = true → L i = true) (hs1 : ∀ L, CloI ops L → L (s + 1) = true → L s = true)
    (hR : ∀ A B : World, Below A.heap.size A B → R A → R B) (hI : ∀ (j : Nat) (v : Value) (A B : World), Below A.heap.size A B → Inv j v A → Inv j v B)
    (h : ∀ (ys : Nat → Value) (w : World), R w →
      ∀ K : Act → World → Prop, (∀ w', Below w.heap.size w w' → Inv i (.pointer (some ⟨w.heap.size, 0, none⟩)) w' → K (F (upd ys i (.pointer (some ⟨w.heap.size, 0, none⟩)))) w') →
        if Region.wanted o (yielded ops (F ys).tmps) = true then Oper.wp P o (F ys) w K Q else K ((F ys).put o.dst undef) w) :
    SlotStep P .any ops Q F (TwoI ops s p q R Inv Mid Fin) i o := by
  intro L ys w hL ha ⟨hc, hd⟩ K hK
  rcases hd with ⟨hl, hl1, hr, hi2, hpq⟩ | ⟨hl, _⟩ | ⟨hl, _⟩
  · refine h ys w hr K (fun w' hb hv => hK _ w' ⟨clo_upd ho ha hc, .inl ⟨by rw [upd_ne _ _ (by omega)]; exact hl, by rw [upd_ne _ _ (by omega)]; exact hl1, hR _ _ hb hr, fun j hj hLj => ?_, ?_⟩⟩)
    · by_cases hji : j = i
      · subst hji; rw [upd_same]; exact hv
      · rw [upd_ne _ _ hji]
        rw [upd_ne _ _ hji] at hLj
        exact hI j _ _ _ hb (hi2 j hj hLj)
    · rcases hi with rfl | rfl
      · intro _ hq
        rw [upd_ne _ _ (Ne.symm hpq')] at hq
        rw [upd_same, upd_ne _ _ (Ne.symm hpq')]
        exact (hz q _ w (.inr rfl) (hi2 q hqs hq)).symm
      · intro hq _
        rw [upd_ne _ _ hpq'] at hq
        rw [upd_same, upd_ne _ _ hpq']
        exact hz p _ w (.inl rfl) (hi2 p hps hq)
  · rw [hp L hc hl] at hL; cases hL
  · rw [hp L hc (hs1 L hc hl)] at hL; cases hL
theorem SlotStep.twS {i : Nat} {o : Oper} (ho : ops[i]? = some o) (his : i = s) (hwp : waitsB .any o p = true) (hwq : waitsB .any o q = true) (hs1 : ∀ L, CloI ops L → L (s + 1) = true → L s = true)
    (h : ∀ (ys : Nat → Value) (w : World), R w → (∀ j, waitsB .any o j = true → j < ops.size → Inv j (ys j) w) → ys p ≠ ys q →
      ∀ K : Act → World → Prop, (∀ v w', Mid (upd ys i v) w' → K (F (upd ys i v)) w') →
        if Region.wanted o (yielded ops (F ys).tmps) = true then Oper.wp P o (F ys) w K Q else K ((F ys).put o.dst undef) w) :
    SlotStep P .any ops Q F (TwoI ops s p q R Inv Mid Fin) i o := by
  intro L ys w hL ha ⟨hc, hd⟩ K hK
  subst his
  rcases hd with ⟨hl, hl1, hr, hi2, hpq⟩ | ⟨hl, _⟩ | ⟨hl, _⟩
  · exact h ys w hr (fun j hw hj => hi2 j hj (waits_at ha hw)) (hpq (waits_at ha hwp) (waits_at ha hwq)) K (fun v w' hm => hK v w' ⟨clo_upd ho ha hc, .inr (.inl ⟨upd_same _ _ _, by rw [upd_ne _ _ (by omega)]; exact hl1, hm⟩)⟩)
  · rw [hl] at hL; cases hL
  · rw [hs1 L hc hl] at hL; cases hL
theorem SlotStep.twT {i : Nat} {o : Oper} (ho : ops[i]? = some o) (his : i = s + 1) (hw : waitsB .any o s = true)
    (h : ∀ (ys : Nat → Value) (w : World), Mid ys w →
      ∀ K : Act → World → Prop, (∀ v w', Fin (upd ys i v) w' → K (F (upd ys i v)) w') →
        if Region.wanted o (yielded ops (F ys).tmps) = true then Oper.wp P o (F ys) w K Q else K ((F ys).put o.dst undef) w) :
    SlotStep P .any ops Q F (TwoI ops s p q R Inv Mid Fin) i o := by
  intro L ys w hL ha ⟨hc, hd⟩ K hK
  subst his
  rcases hd with ⟨hl, _⟩ | ⟨hl, hl1, hm⟩ | ⟨hl, _⟩
  · rw [waits_at ha hw] at hl; cases hl
  · exact h ys w hm K (fun v w' hf => hK v w' ⟨clo_upd ho ha hc, .inr (.inr ⟨upd_same _ _ _, hf⟩)⟩)
  · rw [hl] at hL; cases hL
theorem tw_start (hs : s + 1 < ops.size) (hps : p < ops.size) {ys : Nat → Value} {w : World} (hr : R w) : TwoI ops s p q R Inv Mid Fin (fun i => decide (ops.size ≤ i)) ys w :=
  ⟨fun j o ho hj => by have := (Array.getElem?_eq_some_iff.1 ho).1; have := of_decide_eq_true hj; omega, .inl ⟨by simp; omega, by simp; omega, hr, fun j hj hL => by have := of_decide_eq_true hL; omega, fun hL => by have := of_decide_eq_true hL; omega⟩⟩
theorem tw_end (hs : s + 1 < ops.size) {L : Nat → Bool} {ys : Nat → Value} {w : World} (hL : ∀ i, i < ops.size → L i = true) (h : TwoI ops s p q R Inv Mid Fin L ys w) : Fin ys w := by
  rcases h.2 with ⟨_, hl, _⟩ | ⟨_, hl, _⟩ | ⟨_, h⟩
  · rw [hL _ hs] at hl; cases hl
  · rw [hL _ hs] at hl; cases hl
  · exact h
end
end Go.Proofs.YtbkbncapgljfaaaGreatDoor
