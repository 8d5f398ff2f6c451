/- Sets one behind the other among the arguments. -/
import Derived.Test.YtinopmdefndhoaaDoorSpFx
import Derived.Test.YtinopmdefndhoaaDoorSpGl
import Derived.Deep.SlicePairs
namespace Go.Proofs.YtinopmdefndhoaaDoor
open Go Go.RowKit Go.Shelf Go.ChangeShapes Go.WideShapes Go.ChangeAt Go.WideMaps Go.WideElems Go.Joins Go.Deep
variable {H : Type} {enc : TypeId × Value → H}
set_option maxRecDepth 10000 in
theorem open_sets {W : World} {r : Reach} {b0 : Nat} {v : Value} {d : DataW H} {p : List MemPlace} (hv : Value.okWide Tryd.prog W r b0 33 v) (h0 : DataW.Trod enc Tryd.prog W 0 (fun _ => true) true 33 v d p) :
    (∀ x ∈ p, x.block < W.heap.size) ∧ ∃ (n : Nat) (S : Nat → Nat × Nat), SetsAt W v n S ∧ ∀ i, i < n → (S i).1 < 18446744073709551616 ∧ (S i).2 < 18446744073709551616 := by
  obtain ⟨a, n, cap, rfl⟩ := okWide_slice Tryd.underlying33 hv
  obtain ⟨fuel, hf⟩ := h0
  rcases open_slice_pairs Tryd.underlying33 Tryd.underlying26 (by kernel_rfl) rfl rfl (by kernel_rfl) (by kernel_rfl) hf with ⟨hcs, hx⟩ | ⟨ad, len', cap', m, fu, V0, V1, D0, D1, P0, P1, hcs, _, hl, hm, hz, hx, hcell⟩
  · simp [Value.cells] at hcs
    obtain ⟨rfl, rfl, rfl⟩ := hcs
    simp only [Prod.mk.injEq] at hx
    obtain ⟨_, rfl⟩ := hx
    exact ⟨fun x hx => (by cases hx), 0, fun _ => (0, 0), ⟨_, _, rfl, fun h => absurd h (by decide)⟩, fun i hi => absurd hi (by omega)⟩
  · simp [Value.cells] at hcs
    obtain ⟨rfl, rfl, rfl⟩ := hcs
    simp only [Prod.mk.injEq] at hx
    obtain ⟨_, rfl⟩ := hx
    simp only [if_true] at hz
    subst hz
    have hint : ∀ i, i < m → ∃ x y : Int, V0 i = .int .u64 x ∧ V1 i = .int .u64 y ∧ P0 i = [] ∧ P1 i = [] ∧ (0 ≤ x ∧ x ≤ 18446744073709551615) ∧ 0 ≤ y ∧ y ≤ 18446744073709551615 := fun i hi => by
      obtain ⟨_, _, t0, t1⟩ := hcell i hi
      obtain ⟨x, e0, e1, wx⟩ := DataW.trod_int Tryd.underlying24 t0
      obtain ⟨y, e2, e3, wy⟩ := DataW.trod_int Tryd.underlying24 t1
      simp only [Prod.mk.injEq, List.cons.injEq, and_true] at e0 e1 e2 e3
      have b0 := bounds_u64 wx
      have b1 := bounds_u64 wy
      exact ⟨x, y, e0, e2, e1.2, e3.2, b0, b1⟩
    have hblk : ∀ x ∈ MemPlace.row ad (m * 2) ++ (List.range m).flatMap (fun i => P0 i ++ P1 i), x.block < W.heap.size := fun x hx => by
      rcases List.mem_append.1 hx with hx | hx
      · obtain ⟨j, hj, rfl⟩ := MemPlace.mem_row.1 hx
        obtain ⟨c0, c1, _⟩ := hcell (j / 2) (by omega)
        have h := World.block_lt_of_cell? _ _ c0
        rw [Go.ChangeShapes.block_add] at h
        exact h
      · obtain ⟨i, hi, hx⟩ := List.mem_flatMap.1 hx
        obtain ⟨_, _, _, _, e0, e1, _⟩ := hint i (List.mem_range.1 hi)
        rw [e0, e1] at hx
        cases hx
    refine ⟨hblk, ?_⟩
    by_cases hn0 : n = 0
    · subst hn0
      exact ⟨0, fun _ => (0, 0), ⟨_, _, rfl, fun h => absurd h (by decide)⟩, fun i hi => absurd hi (by omega)⟩
    · obtain ⟨b, off, spot⟩ := ad
      have hspot : spot = none := by
        have h := World.cell?_spot (hcell 0 (by omega)).1
        simpa [Addr.add] using h
      subst hspot
      obtain ⟨X, hX⟩ := choose_lt hint
      obtain ⟨Y, hY⟩ := choose_lt hX
      refine ⟨n, fun i => ((X i).toNat, (Y i).toNat), ⟨_, _, rfl, fun _ => ⟨b, off, rfl, World.block_lt_of_cell? _ _ (hcell 0 (by omega)).1, fun k hk => ?_⟩⟩, fun k hk => ?_⟩
      · obtain ⟨c0, c1, _⟩ := hcell k (by omega)
        obtain ⟨e0, e1, _, _, q0, q1⟩ := hY k (by omega)
        rw [e0, Go.WideShapes.add_plain] at c0
        rw [e1, Go.WideShapes.add_plain] at c1
        have z0 : ((X k).toNat : Int) = X k := Int.toNat_of_nonneg q0.1
        have z1 : ((Y k).toNat : Int) = Y k := Int.toNat_of_nonneg q1.1
        rw [z0, z1]
        exact ⟨c0, by simpa [Nat.add_assoc] using c1⟩
      · obtain ⟨e0, e1, _, _, q0, q1⟩ := hY k (by omega)
        exact ⟨by show (X k).toNat < _; omega, by show (Y k).toNat < _; omega⟩
end Go.Proofs.YtinopmdefndhoaaDoor
