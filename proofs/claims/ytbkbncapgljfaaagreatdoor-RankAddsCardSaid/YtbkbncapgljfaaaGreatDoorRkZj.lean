/- Regions whose world turns along a chain. -/
import Derived.Test.YtbkbncapgljfaaaGreatDoorRkU
namespace Go.Proofs.YtbkbncapgljfaaaGreatDoor
open Go Go.RowKit Go.Shelf

section
variable {P : Program} {ops : Array Oper} {Q : Exit → Act → World → Prop} {F : (Nat → Value) → Act}
/-- The world turns at the operations cs 0, cs 1, .. one behind the other; the others only yield. -/
def ChI (ops : Array Oper) (r : Nat) (cs : Nat → Nat) (Inv : Nat → Value → Prop) (St : Nat → (Nat → Value) → World → Prop) : (Nat → Bool) → (Nat → Value) → World → Prop :=
  fun L ys w => CloI ops L ∧ (∀ j, j < ops.size → L j = true → Inv j (ys j)) ∧ ∃ k, k ≤ r ∧ (∀ j, j < r → L (cs j) = decide (j < k)) ∧ St k ys w
variable {r : Nat} {cs : Nat → Nat} {Inv : Nat → Value → Prop} {St : Nat → (Nat → Value) → World → Prop}
theorem SlotStep.chP {i : Nat} {o : Oper} (ho : ops[i]? = some o) (hne : ∀ j, j < r → cs j ≠ i) (hS : ∀ k ys v w, St k ys w → St k (upd ys i v) w)
    (h : ∀ (k : Nat) (ys : Nat → Value) (w : World), St k ys w → (∀ j, waitsB .any o j = true → j < ops.size → Inv j (ys j)) →
      ∀ K : Act → World → Prop, (∀ v, Inv i v → K (F (upd ys i v)) w) →
        if Region.wanted o (yielded ops (F ys).tmps) = true then Oper.wp P o (F ys) w K Q else K ((F ys).put o.dst undef) w) :
    SlotStep P .any ops Q F (ChI ops r cs Inv St) i o := by
  intro L ys w hL ha ⟨hc, hi, k, hk, hj, hs⟩ K hK
  refine h k ys w hs (fun j hw hjn => hi j hjn (waits_at ha hw)) K (fun v hv => hK v w ⟨clo_upd ho ha hc, fun j hjn hLj => ?_, k, hk, fun j hjr => ?_, hS k ys v w hs⟩)
  · by_cases hji : j = i
    · subst hji; rw [upd_same]; exact hv
    · rw [upd_ne _ _ hji]
      rw [upd_ne _ _ hji] at hLj
      exact hi j hjn hLj
  · rw [upd_ne _ _ (hne j hjr)]; exact hj j hjr
theorem SlotStep.chC {i : Nat} {o : Oper} (ho : ops[i]? = some o) (k0 : Nat) (hk0 : k0 < r) (hci : cs k0 = i) (hinj : ∀ a b, a < r → b < r → cs a = cs b → a = b) (hprev : k0 = 0 ∨ waitsB .any o (cs (k0 - 1)) = true) (hI : ∀ v, Inv i v)
    (h : ∀ (ys : Nat → Value) (w : World), St k0 ys w → (∀ j, waitsB .any o j = true → j < ops.size → Inv j (ys j)) →
      ∀ K : Act → World → Prop, (∀ v w', St (k0 + 1) (upd ys i v) w' → K (F (upd ys i v)) w') →
        if Region.wanted o (yielded ops (F ys).tmps) = true then Oper.wp P o (F ys) w K Q else K ((F ys).put o.dst undef) w) :
    SlotStep P .any ops Q F (ChI ops r cs Inv St) i o := by
  intro L ys w hL ha ⟨hc, hi, k, hk, hj, hs⟩ K hK
  have h1 : ¬ k0 < k := by
    have := hj k0 hk0
    rw [hci, hL] at this
    intro hlt
    rw [decide_eq_true hlt] at this
    cases this
  have h2 : k = k0 := by
    rcases hprev with rfl | hp
    · omega
    · by_cases h0 : k0 = 0
      · omega
      · have h3 := hj (k0 - 1) (by omega)
        rw [waits_at ha hp] at h3
        have := of_decide_eq_true h3.symm
        omega
  subst h2
  refine h ys w hs (fun j hw hjn => hi j hjn (waits_at ha hw)) K (fun v w' hs' => hK v w' ⟨clo_upd ho ha hc, fun j hjn hLj => ?_, k + 1, hk0, fun j hjr => ?_, hs'⟩)
  · by_cases hji : j = i
    · subst hji; exact hI _
    · rw [upd_ne _ _ hji]
      rw [upd_ne _ _ hji] at hLj
      exact hi j hjn hLj
  · by_cases hjk : j = k
    · subst hjk
      rw [hci, upd_same]; exact (decide_eq_true (by omega)).symm
    · rw [upd_ne _ _ (fun e => hjk (hinj j k hjr hk0 (e.trans hci.symm))), hj j hjr]
      by_cases h4 : j < k
      · rw [decide_eq_true h4, decide_eq_true (by omega)]
      · rw [decide_eq_false h4, decide_eq_false (by omega)]
theorem ch_start (hcs : ∀ j, j < r → cs j < ops.size) {ys : Nat → Value} {w : World} (hs : St 0 ys w) : ChI ops r cs Inv St (fun i => decide (ops.size ≤ i)) ys w :=
  ⟨fun j o ho hj => by have := (Array.getElem?_eq_some_iff.1 ho).1; have := of_decide_eq_true hj; omega, fun j hj hL => by have := of_decide_eq_true hL; omega, 0, Nat.zero_le _, fun j hj => by have := hcs j hj; show decide (ops.size ≤ cs j) = decide (j < 0); rw [decide_eq_false (by omega), decide_eq_false (by omega)], hs⟩
theorem ch_end (hcs : ∀ j, j < r → cs j < ops.size) {L : Nat → Bool} {ys : Nat → Value} {w : World} (hL : ∀ i, i < ops.size → L i = true) (h : ChI ops r cs Inv St L ys w) : St r ys w ∧ ∀ j, j < ops.size → Inv j (ys j) := by
  obtain ⟨_, hi, k, hk, hj, hs⟩ := h
  refine ⟨?_, fun j hjn => hi j hjn (hL j hjn)⟩
  by_cases hkr : k = r
  · subst hkr; exact hs
  · have h1 := hj k (by omega)
    rw [hL _ (hcs k (by omega)), decide_eq_false (by omega)] at h1
    cases h1
end
end Go.Proofs.YtbkbncapgljfaaaGreatDoor
