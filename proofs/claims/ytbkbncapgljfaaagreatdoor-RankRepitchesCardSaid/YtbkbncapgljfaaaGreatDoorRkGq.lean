/- Fractions among the arguments. -/
import Derived.Test.YtbkbncapgljfaaaGreatDoorRkGp
namespace Go.Proofs.YtbkbncapgljfaaaGreatDoor
open Go Go.RowKit Go.Shelf Go.ChangeShapes Go.WideShapes Go.ChangeAt Go.WideMaps Go.WideElems Go.Joins Go.Deep

variable {H : Type} {enc : TypeId × Value → H}
set_option maxRecDepth 10000 in
theorem open_frac {W : World} {base : Nat} {sp : Nat → Bool} {held : Bool} {r : Reach} {b0 : Nat} {v : Value} {d : DataW H} {p : List MemPlace} (hv : Value.okWide Tryz.prog W r b0 23 v) (h : DataW.Trod enc Tryz.prog W base sp held 23 v d p) :
    p = [] ∧ ∃ a b : Int, True ∧ v = .agg #[.int .i64 a, .int .i64 b] := by
  obtain ⟨cs, rfl, hsz⟩ := WideShapes.okWide_struct Tryz.underlying23 hv
  rw [show Tryz.prog.cellsOf 23 = 2 by kernel_rfl] at hsz
  obtain ⟨fuel, hf⟩ := h
  obtain ⟨z0, z1, m, hz, _, k0, k1⟩ := trod_struct2 Tryz.underlying23 hf
  obtain ⟨l, rfl⟩ : ∃ l : List Value, cs = l.toArray := ⟨cs.toList, by simp⟩
  have hl : l.length = 2 := by simpa using hsz
  match l, hl with
  | [c, c'], _ =>
  have k0' : DataW.trod enc Tryz.prog W base sp held m 3 [c] = some z0 := k0
  have k1' : DataW.trod enc Tryz.prog W base sp held m 3 [c'] = some z1 := k1
  obtain ⟨a, e0, q0, _⟩ := DataW.trod_int Tryz.underlying3 k0'
  obtain ⟨b, e1, q1, _⟩ := DataW.trod_int Tryz.underlying3 k1'
  simp only [List.cons.injEq, and_true] at e0 e1
  subst e0 e1
  simp only [Prod.mk.injEq] at hz
  exact ⟨by rw [hz.2, q0, q1]; rfl, a, b, trivial, rfl⟩
end Go.Proofs.YtbkbncapgljfaaaGreatDoor
