/- A fraction among the arguments. -/
import Derived.Test.YthdoadkdofgenaaGreatDoorIvU
namespace Go.Proofs.YthdoadkdofgenaaGreatDoor
open Go Go.RowKit Go.Shelf Go.ChangeShapes Go.WideShapes Go.ChangeAt Go.WideMaps Go.WideElems Go.Joins Go.Deep

set_option maxRecDepth 10000 in
/-- A fraction among the arguments: two ints. -/
theorem open_frac {H : Type} {enc : TypeId × Value → H} {W : World} {base : Nat} {sp : Nat → Bool} {held : Bool} {r : Reach} {b0 : Nat} {v : Value} {d : DataW H} {p : List MemPlace} (hv : Value.okWide Tryz.prog W r b0 23 v) (h : DataW.Trod enc Tryz.prog W base sp held 23 v d p) :
    p = [] ∧ ∃ a b : Int, True ∧ v = .agg #[.int .i64 a, .int .i64 b] := by
  obtain ⟨cs, rfl, hsz⟩ := WideShapes.okWide_struct Tryz.underlying23 hv
  rw [show Tryz.prog.cellsOf 23 = 2 by kernel_rfl] at hsz
  obtain ⟨fuel, hf⟩ := h
  obtain ⟨z0, z1, m, hz, _, k0, k1⟩ := trod_struct2 Tryz.underlying23 hf
  obtain ⟨l, rfl⟩ : ∃ l : List Value, cs = l.toArray := ⟨cs.toList, by simp⟩
  have hl : l.length = 2 := by simpa using hsz
  match l, hl with
  | [c, c'], _ =>
  have k0' : DataW.trod enc Tryz.prog W base sp held m 3 [c] = some z0 := k0
  have k1' : DataW.trod enc Tryz.prog W base sp held m 3 [c'] = some z1 := k1
  obtain ⟨a, e0, q0, _⟩ := DataW.trod_int Tryz.underlying3 k0'
  obtain ⟨b, e1, q1, _⟩ := DataW.trod_int Tryz.underlying3 k1'
  simp only [List.cons.injEq, and_true] at e0 e1
  subst e0 e1
  simp only [Prod.mk.injEq] at hz
  exact ⟨by rw [hz.2, q0, q1]; rfl, a, b, trivial, rfl⟩
set_option maxRecDepth 10000 in
/-- A plan among the arguments: three small ints and a byte. -/
theorem open_plan {H : Type} {enc : TypeId × Value → H} {W : World} {base : Nat} {sp : Nat → Bool} {held : Bool} {r : Reach} {b0 : Nat} {v : Value} {d : DataW H} {p : List MemPlace} (hv : Value.okWide Tryz.prog W r b0 67 v) (h : DataW.Trod enc Tryz.prog W base sp held 67 v d p) :
    p = [] ∧ ∃ a b c u : Int, ((-128 ≤ a ∧ a ≤ 127) ∧ (-128 ≤ b ∧ b ≤ 127) ∧ (-128 ≤ c ∧ c ≤ 127) ∧ (0 ≤ u ∧ u ≤ 255)) ∧ v = .agg #[.int .i8 a, .int .i8 b, .int .i8 c, .int .u8 u] := by
  obtain ⟨cs, rfl, hsz⟩ := WideShapes.okWide_struct Tryz.underlying67 hv
  rw [show Tryz.prog.cellsOf 67 = 4 by kernel_rfl] at hsz
  obtain ⟨fuel, hf⟩ := h
  obtain ⟨z0, z1, m, hz, _, k0, k1⟩ := trod_struct2 Tryz.underlying67 hf
  obtain ⟨l, rfl⟩ : ∃ l : List Value, cs = l.toArray := ⟨cs.toList, by simp⟩
  have hl : l.length = 4 := by simpa using hsz
  match l, hl with
  | [c0, c1, c2, c3], _ =>
  have k0' : DataW.trod enc Tryz.prog W base sp held m 65 [c0, c1, c2] = some z0 := k0
  have k1' : DataW.trod enc Tryz.prog W base sp held m 5 [c3] = some z1 := k1
  obtain ⟨xs, m', _, hx, _, hn, hi⟩ := DataW.trod_array Tryz.underlying65 k0'
  match xs, hn with
  | [x0, x1, x2], _ =>
  have i0 : DataW.trod enc Tryz.prog W base sp held m' 64 [c0] = some x0 := hi 0 (by decide)
  have i1 : DataW.trod enc Tryz.prog W base sp held m' 64 [c1] = some x1 := hi 1 (by decide)
  have i2 : DataW.trod enc Tryz.prog W base sp held m' 64 [c2] = some x2 := hi 2 (by decide)
  obtain ⟨a, e0, q0, w0⟩ := DataW.trod_int Tryz.underlying64 i0
  obtain ⟨b, e1, q1, w1⟩ := DataW.trod_int Tryz.underlying64 i1
  obtain ⟨c, e2, q2, w2⟩ := DataW.trod_int Tryz.underlying64 i2
  obtain ⟨u, e3, q3, w3⟩ := DataW.trod_int Tryz.underlying5 k1'
  simp only [List.cons.injEq, and_true] at e0 e1 e2 e3
  subst e0 e1 e2 e3
  simp only [Prod.mk.injEq] at hz
  exact ⟨by rw [hz.2, hx, q0, q1, q2, q3]; rfl, a, b, c, u, ⟨bounds_i8 w0, bounds_i8 w1, bounds_i8 w2, bounds_u8 w3⟩, rfl⟩
end Go.Proofs.YthdoadkdofgenaaGreatDoor
