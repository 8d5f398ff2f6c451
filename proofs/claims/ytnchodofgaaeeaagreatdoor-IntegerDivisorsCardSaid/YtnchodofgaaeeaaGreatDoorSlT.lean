/- A region that draws its order and stores: its operations keep a relation between worlds; what has come up stays right along it. -/
import Derived.Test.YtnchodofgaaeeaaGreatDoorNsSl
namespace Go.Proofs.YtnchodofgaaeeaaGreatDoor
open Go Go.RowKit Go.Shelf

section
variable {P : Program} {ops : Array Oper} {Q : Exit → Act → World → Prop} {md : Region.Mode} {F : (Nat → Value) → Act}

theorem SlotStep.rel {n : Nat} {R : World → Prop} {Inv : Nat → Value → World → Prop} {i : Nat} {o : Oper} (St : World → World → Prop)
    (hR : ∀ A B : World, St A B → R A → R B) (hI : ∀ (j : Nat) (v : Value) (A B : World), R A → St A B → Inv j v A → Inv j v B)
    (h : ∀ (ys : Nat → Value) (w : World), R w → (∀ j, waitsB md o j = true → j < n → Inv j (ys j) w) →
      ∀ K : Act → World → Prop, (∀ v w', St w w' → Inv i v w' → K (F (upd ys i v)) w') →
        if Region.wanted o (yielded ops (F ys).tmps) = true then Oper.wp P o (F ys) w K Q else K ((F ys).put o.dst undef) w) :
    SlotStep P md ops Q F (BelowI n R Inv) i o := by
  intro L ys w _ ha ⟨hr, hi⟩ K hK
  refine h ys w hr (fun j hw hj => hi j hj (waits_at ha hw)) K (fun v w' hb hv => hK v w' ⟨hR _ _ hb hr, fun j hj hL => ?_⟩)
  by_cases hji : j = i
  · subst hji; rw [upd_same]; exact hv
  · rw [upd_ne _ _ hji]
    rw [upd_ne _ _ hji] at hL
    exact hI j _ _ _ hr hb (hi j hj hL)
theorem below_start {n : Nat} {R : World → Prop} {Inv : Nat → Value → World → Prop} {ys : Nat → Value} {w : World} (hr : R w) : BelowI n R Inv (fun i => decide (n ≤ i)) ys w :=
  ⟨hr, fun j hj hL => by have := of_decide_eq_true hL; omega⟩
end
end Go.Proofs.YtnchodofgaaeeaaGreatDoor
