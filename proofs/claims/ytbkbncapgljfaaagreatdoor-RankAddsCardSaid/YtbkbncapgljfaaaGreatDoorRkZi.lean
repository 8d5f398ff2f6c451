/- Rows of ints of one's own. -/
import Derived.Test.YtbkbncapgljfaaaGreatDoorRkZd
namespace Go.Proofs.YtbkbncapgljfaaaGreatDoor
open Go Go.RowKit Go.Shelf

/-- A slice whose block lies behind a bound. -/
def NewS (B : Nat) (v : Value) : Prop := ∀ a n c, v = .slice (some a) n c → B ≤ a.block
theorem new_of {W : World} {base B n size : Nat} {e : TypeId} {v : Value} {xs : List Value} (h : W.ownsRow base e size v n xs) (hB : B ≤ base) : NewS B v := by
  intro a m c hv
  rcases h.2 with ⟨h1, _⟩ | ⟨g, cap, cur, h1, h2, _⟩
  · rw [h1] at hv; cases hv
  · rw [h1] at hv; cases hv; exact Nat.le_trans hB h2
theorem own_len {W : World} {base n size : Nat} {e : TypeId} {sr : Option Addr} {mr cr : Nat} {xs : List Value} (h : W.ownsRow base e size (.slice sr mr cr) n xs) : mr = n := by
  rcases h.2 with ⟨h1, h2⟩ | ⟨g, cap, cur, h1, _⟩
  · cases h1; exact h2.symm
  · cases h1; rfl
theorem row_one {X : Nat → Int} {n : Nat} : ∀ u ∈ rowL X n, u.oneCell' = true := by
  intro u hu
  obtain ⟨k, hk, rfl⟩ := List.mem_map.1 hu
  rfl
theorem own_empty (W : World) (B : Nat) (hB : B ≤ W.heap.size) : (W.alloc (.cells #[] 3)).ownsRow B 3 1 (.slice (some ⟨W.heap.size, 0, none⟩) 0 0) 0 [] :=
  ⟨rfl, .inr ⟨W.heap.size, 0, #[], rfl, hB, heap_new rfl, Nat.le_refl _, Nat.zero_le _, rfl, rfl⟩⟩
end Go.Proofs.YtbkbncapgljfaaaGreatDoor
