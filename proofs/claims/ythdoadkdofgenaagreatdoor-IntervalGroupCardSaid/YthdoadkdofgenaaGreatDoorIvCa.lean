/- The invariant of a region 'x, y, .. := f(..), g(..), ..' whose variables lie in boxes of six cells that the region itself makes: whatever of it has come up. -/
import Derived.Test.YthdoadkdofgenaaGreatDoorIvB
import Derived.RangeFuncRecord
namespace Go.Proofs.YthdoadkdofgenaaGreatDoor
open Go Go.RowKit Go.Shelf

/-- Numbers k, k+1, .. (m of them) make the boxes, numbers s, s+1, .. store into them V 0, V 1, ..; Inv says what the others yield. -/
structure BoxI (k s m : Nat) (T : TypeId) (w0 : World) (Inv : Nat → Value → Prop) (V : Nat → Nat → Value) (L : Nat → Bool) (ys : Nat → Value) (w : World) : Prop where
  below : Below w0.heap.size w0 w
  inv : ∀ j, L j = true → Inv j (ys j)
  made : ∀ i, i < m → L (s + i) = true → L (k + i) = true
  box : ∀ i, i < m → L (k + i) = true → ∃ b c0 c1 c2 c3 c4 c5, ys (k + i) = .pointer (some ⟨b, 0, none⟩) ∧ w0.heap.size ≤ b ∧ w.heap[b]? = some (.cells #[c0, c1, c2, c3, c4, c5] T) ∧ (L (s + i) = true → c0 = V 0 i ∧ c1 = V 1 i ∧ c2 = V 2 i ∧ c3 = V 3 i ∧ c4 = V 4 i ∧ c5 = V 5 i)
  apart : ∀ i j, i < m → j < m → i ≠ j → L (k + i) = true → L (k + j) = true → ys (k + i) ≠ ys (k + j)

section
variable {k s m : Nat} {T : TypeId} {w0 : World} {Inv : Nat → Value → Prop} {V : Nat → Nat → Value} {L : Nat → Bool} {ys : Nat → Value} {w : World}

theorem heap_lt6 {W : World} {b : Nat} {o : Obj} (h : W.heap[b]? = some o) : b < W.heap.size := (Array.getElem?_eq_some_iff.1 h).1

/-- Another operation, that only adds to the memory. -/
theorem BoxI.other (h : BoxI k s m T w0 Inv V L ys w) {j : Nat} {v : Value} {w' : World} (hk : j < k ∨ k + m ≤ j) (hs : j < s ∨ s + m ≤ j) (hv : Inv j v) (hb : Below w.heap.size w w') :
    BoxI k s m T w0 Inv V (upd L j true) (upd ys j v) w' where
  below := h.below.trans (hb.mono h.below.size)
  inv := fun i hi => by
    by_cases e : i = j
    · subst e; rw [upd_same]; exact hv
    · rw [upd_ne _ _ e] at hi ⊢; exact h.inv i hi
  made := fun i hi hl => by
    rw [upd_ne _ _ (by omega)] at hl ⊢
    exact h.made i hi hl
  box := fun i hi hl => by
    rw [upd_ne _ _ (by omega)] at hl
    obtain ⟨b, c0, c1, c2, c3, c4, c5, h1, h2, h3, h4⟩ := h.box i hi hl
    refine ⟨b, c0, c1, c2, c3, c4, c5, by rw [upd_ne _ _ (by omega)]; exact h1, h2, (hb.block b (heap_lt6 h3)).trans h3, fun hl2 => ?_⟩
    rw [upd_ne _ _ (by omega)] at hl2
    exact h4 hl2
  apart := fun i i' hi hi' hne hl hl' => by
    rw [upd_ne _ _ (by omega)] at hl hl'
    rw [upd_ne _ _ (by omega), upd_ne _ _ (by omega)]
    exact h.apart i i' hi hi' hne hl hl'

/-- A box is made. -/
theorem BoxI.alloc (h : BoxI k s m T w0 Inv V L ys w) {i : Nat} {z0 z1 z2 z3 z4 z5 : Value} (hi : i < m) (hks : k + m ≤ s) (hn : L (k + i) = false) (hv : Inv (k + i) (.pointer (some ⟨w.heap.size, 0, none⟩))) :
    BoxI k s m T w0 Inv V (upd L (k + i) true) (upd ys (k + i) (.pointer (some ⟨w.heap.size, 0, none⟩))) (w.alloc (.cells #[z0, z1, z2, z3, z4, z5] T)) where
  below := h.below.alloc h.below.size _
  inv := fun j hj => by
    by_cases e : j = k + i
    · subst e; rw [upd_same]; exact hv
    · rw [upd_ne _ _ e] at hj ⊢; exact h.inv j hj
  made := fun j hj hl => by
    rw [upd_ne _ _ (by omega)] at hl
    have := h.made j hj hl
    by_cases e : k + j = k + i
    · rw [e, upd_same]
    · rw [upd_ne _ _ e]; exact this
  box := fun j hj hl => by
    by_cases e : j = i
    · subst e
      rw [upd_same]
      refine ⟨w.heap.size, z0, z1, z2, z3, z4, z5, rfl, h.below.size, World.alloc_heap_new w _, fun hl2 => ?_⟩
      rw [upd_ne _ _ (by omega)] at hl2
      rw [h.made j hj hl2] at hn
      cases hn
    · rw [upd_ne _ _ (by omega)] at hl ⊢
      obtain ⟨b, c0, c1, c2, c3, c4, c5, h1, h2, h3, h4⟩ := h.box j hj hl
      refine ⟨b, c0, c1, c2, c3, c4, c5, h1, h2, (Below.heap_alloc _ _ _ (heap_lt6 h3)).trans h3, fun hl2 => ?_⟩
      rw [upd_ne _ _ (by omega)] at hl2
      exact h4 hl2
  apart := fun a c ha hc hne hl hl' => by
    have key : ∀ j, j < m → j ≠ i → L (k + j) = true → ys (k + j) ≠ .pointer (some ⟨w.heap.size, 0, none⟩) := fun j hj _ hlj e => by
      obtain ⟨b, c0, c1, c2, c3, c4, c5, h1, h2, h3, h4⟩ := h.box j hj hlj
      rw [h1] at e
      cases e
      exact absurd (heap_lt6 h3) (Nat.lt_irrefl _)
    by_cases ea : a = i
    · subst ea
      rw [upd_ne _ _ (by omega)] at hl'
      rw [upd_same, upd_ne _ _ (by omega)]
      exact fun e => key c hc (Ne.symm hne) hl' e.symm
    · rw [upd_ne _ _ (by omega)] at hl
      rw [upd_ne _ _ (by omega)]
      by_cases ec : c = i
      · subst ec
        rw [upd_same]
        exact key a ha ea hl
      · rw [upd_ne _ _ (by omega)] at hl' ⊢
        exact h.apart a c ha hc hne hl hl'

theorem set_sixw {W : World} {b : Nat} {c0 c1 c2 c3 c4 c5 x0 x1 x2 x3 x4 x5 : Value} (h : W.heap[b]? = some (.cells #[c0, c1, c2, c3, c4, c5] T)) : ((((((W.setCell ⟨b, 0, none⟩ x0).setCell ⟨b, 1, none⟩ x1).setCell ⟨b, 2, none⟩ x2).setCell ⟨b, 3, none⟩ x3).setCell ⟨b, 4, none⟩ x4).setCell ⟨b, 5, none⟩ x5).heap[b]? = some (.cells #[x0, x1, x2, x3, x4, x5] T) := (set6_5 (x := x5) (set6_4 (x := x4) (set6_3 (x := x3) (set6_2 (x := x2) (set6_1 (x := x1) (set6_0 (x := x0) h))))))
theorem set_sixw_other {W : World} {b b' : Nat} {x0 x1 x2 x3 x4 x5 : Value} (h : b' ≠ b) : ((((((W.setCell ⟨b, 0, none⟩ x0).setCell ⟨b, 1, none⟩ x1).setCell ⟨b, 2, none⟩ x2).setCell ⟨b, 3, none⟩ x3).setCell ⟨b, 4, none⟩ x4).setCell ⟨b, 5, none⟩ x5).heap[b']? = W.heap[b']? :=
  (set_other h).trans ((set_other h).trans ((set_other h).trans ((set_other h).trans ((set_other h).trans (set_other h)))))

/-- A box is written. -/
theorem BoxI.store (h : BoxI k s m T w0 Inv V L ys w) {i b : Nat} {v : Value} (hi : i < m) (hks : k + m ≤ s) (hl : L (k + i) = true) (hb : ys (k + i) = .pointer (some ⟨b, 0, none⟩)) (hv : Inv (s + i) v) :
    BoxI k s m T w0 Inv V (upd L (s + i) true) (upd ys (s + i) v) ((((((w.setCell ⟨b, 0, none⟩ (V 0 i)).setCell ⟨b, 1, none⟩ (V 1 i)).setCell ⟨b, 2, none⟩ (V 2 i)).setCell ⟨b, 3, none⟩ (V 3 i)).setCell ⟨b, 4, none⟩ (V 4 i)).setCell ⟨b, 5, none⟩ (V 5 i)) where
  below := by
    obtain ⟨b', c0, c1, c2, c3, c4, c5, h1, h2, h3, h4⟩ := h.box i hi hl
    rw [hb] at h1
    cases h1
    exact (((((h.below.setCell (p := ⟨b, 0, none⟩) h2 _).setCell (p := ⟨b, 1, none⟩) h2 _).setCell (p := ⟨b, 2, none⟩) h2 _).setCell (p := ⟨b, 3, none⟩) h2 _).setCell (p := ⟨b, 4, none⟩) h2 _).setCell (p := ⟨b, 5, none⟩) h2 _
  inv := fun j hj => by
    by_cases e : j = s + i
    · subst e; rw [upd_same]; exact hv
    · rw [upd_ne _ _ e] at hj ⊢; exact h.inv j hj
  made := fun j hj hlj => by
    rw [upd_ne _ _ (by omega)]
    by_cases e : j = i
    · subst e; exact hl
    · rw [upd_ne _ _ (by omega)] at hlj; exact h.made j hj hlj
  box := fun j hj hlj => by
    rw [upd_ne _ _ (by omega)] at hlj ⊢
    obtain ⟨b', c0, c1, c2, c3, c4, c5, h1, h2, h3, h4⟩ := h.box j hj hlj
    by_cases e : j = i
    · subst e
      rw [hb] at h1
      cases h1
      exact ⟨b, V 0 j, V 1 j, V 2 j, V 3 j, V 4 j, V 5 j, hb, h2, set_sixw h3, fun _ => ⟨rfl, rfl, rfl, rfl, rfl, rfl⟩⟩
    · have hne : b' ≠ b := fun eb => h.apart j i hj hi e hlj hl (by rw [h1, hb, eb])
      refine ⟨b', c0, c1, c2, c3, c4, c5, h1, h2, (set_sixw_other hne).trans h3, fun hl2 => ?_⟩
      rw [upd_ne _ _ (by omega)] at hl2
      exact h4 hl2
  apart := fun a c ha hc hne hl1 hl2 => by
    rw [upd_ne _ _ (by omega)] at hl1 hl2
    rw [upd_ne _ _ (by omega), upd_ne _ _ (by omega)]
    exact h.apart a c ha hc hne hl1 hl2
end

end Go.Proofs.YthdoadkdofgenaaGreatDoor
