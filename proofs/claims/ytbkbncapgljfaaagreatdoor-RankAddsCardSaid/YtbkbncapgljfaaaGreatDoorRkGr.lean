/- A slice of ints among the arguments. -/
import Derived.Test.YtbkbncapgljfaaaGreatDoorRkGp
import Derived.Test.YtbkbncapgljfaaaGreatDoorRkZg
namespace Go.Proofs.YtbkbncapgljfaaaGreatDoor
open Go Go.RowKit Go.Shelf Go.ChangeShapes Go.WideShapes Go.ChangeAt Go.WideMaps Go.WideElems Go.Joins Go.Deep

variable {H : Type} {enc : TypeId × Value → H}
set_option maxRecDepth 10000 in
theorem open_wd {W : World} {r : Reach} {b0 : Nat} {v : Value} {d : DataW H} {p : List MemPlace} (hv : Value.okWide Tryz.prog W r b0 24 v) (h0 : DataW.Trod enc Tryz.prog W 0 (fun _ => true) true 24 v d p) :
    (∀ x ∈ p, x.block < W.heap.size) ∧ ∃ (c : Value) (m : Nat) (Y : Nat → Int), v = c ∧ WA W c m Y ∧ m ≤ maxLen := by
  refine ⟨open_all h0, v, ?_⟩
  obtain ⟨a, n, cap, rfl⟩ := okWide_slice Tryz.underlying24 hv
  obtain ⟨fuel, hf⟩ := h0
  rcases open_ints (P := Tryz.prog) Tryz.underlying24 Tryz.underlying3 (by kernel_rfl) hf with ⟨hcs, hx⟩ | ⟨ad, len', cap', zs, hcs, _, hl, hm, hz, hx, hcell, hwz⟩
  · simp [Value.cells] at hcs
    obtain ⟨rfl, rfl, rfl⟩ := hcs
    exact ⟨0, fun _ => 0, rfl, .inl ⟨rfl, rfl⟩, Nat.zero_le _⟩
  · simp [Value.cells] at hcs
    obtain ⟨rfl, rfl, rfl⟩ := hcs
    simp only [if_true] at hz
    by_cases hn0 : n = 0
    · subst hn0
      exact ⟨0, fun _ => 0, rfl, .inr (.inl ⟨rfl, _, _, rfl⟩), Nat.zero_le _⟩
    · obtain ⟨b, off, spot⟩ := ad
      have hspot : spot = none := by simpa [Addr.add] using World.cell?_spot (hcell 0 (by omega))
      subst hspot
      have hc0 := hcell 0 (by omega)
      refine ⟨n, fun k => zs.getD k 0, rfl, .inr (.inr ⟨b, off, cap, rfl, hl, World.block_lt_of_cell? _ _ (by simpa [Addr.add] using hc0), fun k hk => ?_⟩), by omega⟩
      have := hcell k (by omega)
      rw [Go.WideShapes.add_plain] at this
      exact this
end Go.Proofs.YtbkbncapgljfaaaGreatDoor
