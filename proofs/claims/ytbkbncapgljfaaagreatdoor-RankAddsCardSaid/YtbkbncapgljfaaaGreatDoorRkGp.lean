/- A rank's plan among the arguments. -/
import Derived.Test.YtbkbncapgljfaaaGreatDoorRkT
namespace Go.Proofs.YtbkbncapgljfaaaGreatDoor
open Go Go.RowKit Go.Shelf Go.ChangeShapes Go.WideShapes Go.ChangeAt Go.WideMaps Go.WideElems Go.Joins Go.Deep

variable {H : Type} {enc : TypeId × Value → H}
set_option maxRecDepth 10000 in
theorem open_rplan {W : World} {base : Nat} {sp : Nat → Bool} {held : Bool} {r : Reach} {b0 : Nat} {v : Value} {d : DataW H} {p : List MemPlace} (hv : Value.okWide Tryz.prog W r b0 47 v) (h : DataW.Trod enc Tryz.prog W base sp held 47 v d p) :
    p = [] ∧ ∃ t ft f q w0 w1 w2 w3 w4 : Int, (0 ≤ t ∧ t ≤ 255) ∧ (0 ≤ ft ∧ ft ≤ 255) ∧ (-128 ≤ f ∧ f ≤ 127) ∧ (0 ≤ q ∧ q ≤ 255) ∧ (0 ≤ w0 ∧ w0 ≤ 255) ∧ (0 ≤ w1 ∧ w1 ≤ 255) ∧ (0 ≤ w2 ∧ w2 ≤ 255) ∧ (0 ≤ w3 ∧ w3 ≤ 255) ∧ (0 ≤ w4 ∧ w4 ≤ 255) ∧ v = .agg #[.int .u8 t, .int .u8 ft, .int .i8 f, .int .u8 q, .int .u8 w0, .int .u8 w1, .int .u8 w2, .int .u8 w3, .int .u8 w4] := by
  obtain ⟨cs, rfl, hsz⟩ := WideShapes.okWide_struct Tryz.underlying47 hv
  rw [show Tryz.prog.cellsOf 47 = 9 by kernel_rfl] at hsz
  obtain ⟨fuel, hf⟩ := h
  obtain ⟨z0, z1, z2, z3, z4, m, hz, _, k0, k1, k2, k3, k4⟩ := trod_struct5 Tryz.underlying47 hf
  obtain ⟨l, rfl⟩ : ∃ l : List Value, cs = l.toArray := ⟨cs.toList, by simp⟩
  have hl : l.length = 9 := by simpa using hsz
  match l, hl with
  | [c0, c1, c2, c3, c4, c5, c6, c7, c8], _ =>
  have q0 : DataW.trod enc Tryz.prog W base sp held m 5 [c0] = some z0 := k0
  have q1 : DataW.trod enc Tryz.prog W base sp held m 5 [c1] = some z1 := k1
  have q2 : DataW.trod enc Tryz.prog W base sp held m 44 [c2] = some z2 := k2
  have q3 : DataW.trod enc Tryz.prog W base sp held m 5 [c3] = some z3 := k3
  have q4 : DataW.trod enc Tryz.prog W base sp held m 45 [c4, c5, c6, c7, c8] = some z4 := k4
  obtain ⟨xs, m', _, hx, _, hn, hi⟩ := DataW.trod_array Tryz.underlying45 q4
  match xs, hn with
  | [x0, x1, x2, x3, x4], _ =>
  have i0 : DataW.trod enc Tryz.prog W base sp held m' 5 [c4] = some x0 := hi 0 (by decide)
  have i1 : DataW.trod enc Tryz.prog W base sp held m' 5 [c5] = some x1 := hi 1 (by decide)
  have i2 : DataW.trod enc Tryz.prog W base sp held m' 5 [c6] = some x2 := hi 2 (by decide)
  have i3 : DataW.trod enc Tryz.prog W base sp held m' 5 [c7] = some x3 := hi 3 (by decide)
  have i4 : DataW.trod enc Tryz.prog W base sp held m' 5 [c8] = some x4 := hi 4 (by decide)
  obtain ⟨t, e0, p0, v0⟩ := DataW.trod_int Tryz.underlying5 q0
  obtain ⟨ft, e1, p1, v1⟩ := DataW.trod_int Tryz.underlying5 q1
  obtain ⟨f, e2, p2, v2⟩ := DataW.trod_int Tryz.underlying44 q2
  obtain ⟨q, e3, p3, v3⟩ := DataW.trod_int Tryz.underlying5 q3
  obtain ⟨w0, e4, p4, v4⟩ := DataW.trod_int Tryz.underlying5 i0
  obtain ⟨w1, e5, p5, v5⟩ := DataW.trod_int Tryz.underlying5 i1
  obtain ⟨w2, e6, p6, v6⟩ := DataW.trod_int Tryz.underlying5 i2
  obtain ⟨w3, e7, p7, v7⟩ := DataW.trod_int Tryz.underlying5 i3
  obtain ⟨w4, e8, p8, v8⟩ := DataW.trod_int Tryz.underlying5 i4
  simp only [List.cons.injEq, and_true] at e0 e1 e2 e3 e4 e5 e6 e7 e8
  subst e0 e1 e2 e3 e4 e5 e6 e7 e8
  simp only [Prod.mk.injEq] at hz
  exact ⟨by rw [hz.2, p0, p1, p2, p3, hx, p4, p5, p6, p7, p8]; rfl, t, ft, f, q, w0, w1, w2, w3, w4, bounds_u8 v0, bounds_u8 v1, bounds_i8 v2, bounds_u8 v3, bounds_u8 v4, bounds_u8 v5, bounds_u8 v6, bounds_u8 v7, bounds_u8 v8, rfl⟩
end Go.Proofs.YtbkbncapgljfaaaGreatDoor
