/- Divisions among the arguments. -/
import Derived.Test.YtinopmdefndhoaaDoorSpKe
import Derived.Test.YtinopmdefndhoaaDoorSpFo
import Derived.ChangeOld
namespace Go.Proofs.YtinopmdefndhoaaDoor
open Go Go.RowKit Go.Shelf Go.ChangeShapes Go.WideShapes Go.ChangeAt Go.WideMaps Go.WideElems Go.Joins Go.Deep
variable {H : Type} {enc : TypeId × Value → H}
theorem slice_value {P : Program} {w : World} {base : Nat} {spare : Nat → Bool} {held : Bool} {t e : TypeId} {fuel : Nat} {cs : List Value} {x : DataW H × List MemPlace} (ht : P.underlying t = some (.slice e)) (h : DataW.trod enc P w base spare held fuel t cs = some x) :
    ∃ a n c, cs = [.slice a n c] := by
  rcases open_slice ht h with ⟨h0, _⟩ | ⟨a, len, cap, _, _, _, _, h0, _⟩
  · exact ⟨_, _, _, h0⟩
  · exact ⟨_, _, _, h0⟩
theorem open_all {W : World} {t : TypeId} {v : Value} {d : DataW H} {p : List MemPlace} (h0 : DataW.Trod enc Tryd.prog W 0 (fun _ => true) true t v d p) : ∀ x ∈ p, x.block < W.heap.size := by
  obtain ⟨fuel, hf⟩ := h0
  exact fun x hx => DataW.trod_lt _ _ _ _ hf x hx
set_option maxRecDepth 10000 in
theorem open_divs {W : World} {r : Reach} {b0 : Nat} {v : Value} {d : DataW H} {p : List MemPlace} (hv : Value.okWide Tryd.prog W r b0 50 v) (h0 : DataW.Trod enc Tryd.prog W 0 (fun _ => true) true 50 v d p) :
    (∀ x ∈ p, x.block < W.heap.size) ∧ ∃ (n : Nat) (F : Nat → DivD), DivsF W v n F := by
  refine ⟨open_all h0, ?_⟩
  obtain ⟨a, n, cap, rfl⟩ := okWide_slice Tryd.underlying50 hv
  obtain ⟨fuel, hf⟩ := h0
  rcases open_slice Tryd.underlying50 hf with ⟨hcs, hx⟩ | ⟨ad, len', cap', m, fu, D0, P0, hcs, _, hl, hm, hz, hx, hcell⟩
  · simp [Value.cells] at hcs
    obtain ⟨rfl, rfl, rfl⟩ := hcs
    exact ⟨0, fun _ => ⟨ByteArray.empty, false, 0, 0, none, 0, 0⟩, _, _, rfl, fun h => absurd h (by decide)⟩
  · simp [Value.cells] at hcs
    obtain ⟨rfl, rfl, rfl⟩ := hcs
    simp only [if_true] at hz
    subst hz
    rw [show Tryd.prog.cellsOf 53 = 5 by kernel_rfl] at hcell
    have hint : ∀ i, i < m → ∃ q : DivD, W.cell? (ad.add (i * 5)) = some (.string q.nm) ∧ W.cell? (ad.add (i * 5 + 1)) = some (.bool q.ped) ∧ W.cell? (ad.add (i * 5 + 2)) = some (.int .i64 q.lo) ∧ W.cell? (ad.add (i * 5 + 3)) = some (.int .i64 q.hi) ∧ W.cell? (ad.add (i * 5 + 4)) = some (.slice q.sa q.sn q.sc) := fun i hi => by
      obtain ⟨cs', h1, h2⟩ := hcell i hi
      obtain ⟨_, hlen, hc⟩ := World.cells?_some h1
      obtain ⟨z0, z1, z2, z3, mm, hz, _, k0, k1, k2, k3⟩ := trod_struct4 Tryd.underlying53 h2
      match cs', hlen with
      | [c0, c1, c2, c3, c4], _ =>
      have q0 : DataW.trod enc Tryd.prog W 0 (fun _ => true) true mm 9 [c0] = some z0 := k0
      have q1 : DataW.trod enc Tryd.prog W 0 (fun _ => true) true mm 4 [c1] = some z1 := k1
      have q2 : DataW.trod enc Tryd.prog W 0 (fun _ => true) true mm 45 [c2, c3] = some z2 := k2
      have q3 : DataW.trod enc Tryd.prog W 0 (fun _ => true) true mm 51 [c4] = some z3 := k3
      obtain ⟨s, e0, _, _⟩ := DataW.trod_string Tryd.underlying9 q0
      obtain ⟨b, e1, _⟩ := DataW.trod_bool Tryd.underlying4 q1
      obtain ⟨y0, y1, m2, _, _, j0, j1⟩ := trod_struct2 Tryd.underlying45 q2
      have i0 : DataW.trod enc Tryd.prog W 0 (fun _ => true) true m2 3 [c2] = some y0 := j0
      have i1 : DataW.trod enc Tryd.prog W 0 (fun _ => true) true m2 3 [c3] = some y1 := j1
      obtain ⟨l, e2, _, _⟩ := DataW.trod_int Tryd.underlying3 i0
      obtain ⟨h, e3, _, _⟩ := DataW.trod_int Tryd.underlying3 i1
      obtain ⟨sa, sn, sc, e4⟩ := slice_value Tryd.underlying51 q3
      simp only [List.cons.injEq, and_true] at e0 e1 e2 e3 e4
      subst e0 e1 e2 e3 e4
      have g0 := hc 0 (by omega)
      have g1 := hc 1 (by omega)
      have g2 := hc 2 (by omega)
      have g3 := hc 3 (by omega)
      have g4 := hc 4 (by omega)
      rw [add_add] at g0 g1 g2 g3 g4
      exact ⟨⟨s, b, l, h, sa, sn, sc⟩, g0, g1, g2, g3, g4⟩
    by_cases hn0 : n = 0
    · subst hn0
      exact ⟨0, fun _ => ⟨ByteArray.empty, false, 0, 0, none, 0, 0⟩, _, _, rfl, fun h => absurd h (by decide)⟩
    · obtain ⟨b, off, spot⟩ := ad
      have hspot : spot = none := by
        obtain ⟨q, hq, _⟩ := hint 0 (by omega)
        have h := World.cell?_spot hq
        simpa [Addr.add] using h
      subst hspot
      haveI : Inhabited DivD := ⟨⟨ByteArray.empty, false, 0, 0, none, 0, 0⟩⟩
      obtain ⟨X, hX⟩ := choose_lt hint
      refine ⟨n, X, _, _, rfl, fun _ => ⟨b, off, rfl, World.block_lt_of_cell? _ _ (hX 0 (by omega)).1, fun k hk => ?_⟩⟩
      obtain ⟨c0, c1, c2, c3, c4⟩ := hX k (by omega)
      rw [Go.WideShapes.add_plain] at c0 c1 c2 c3 c4
      exact ⟨c0, by simpa [Nat.add_assoc] using c1, by simpa [Nat.add_assoc] using c2, by simpa [Nat.add_assoc] using c3, by simpa [Nat.add_assoc] using c4⟩
end Go.Proofs.YtinopmdefndhoaaDoor
