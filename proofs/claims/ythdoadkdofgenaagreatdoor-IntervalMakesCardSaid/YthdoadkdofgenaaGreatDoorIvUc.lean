/- Arrays of ints among the arguments. -/
import Derived.Test.YthdoadkdofgenaaGreatDoorIvU
namespace Go.Proofs.YthdoadkdofgenaaGreatDoor
open Go Go.RowKit Go.Shelf Go.ChangeShapes Go.WideShapes Go.ChangeAt Go.WideMaps Go.WideElems Go.Joins Go.Deep

theorem okWide_arr {P : Program} {w : World} {r : Reach} {base : Nat} {t e : TypeId} {n : Nat} {v : Value} (ht : P.underlying t = some (.array n e)) (h : Value.okWide P w r base t v) : ∃ cs, v = .agg cs ∧ cs.size = P.cellsOf t := by
  simp only [Value.okWide, ht] at h
  obtain ⟨cs, h1, h2, _⟩ := h
  exact ⟨cs, h1, h2⟩
set_option maxRecDepth 10000 in
/-- An array of ints among the arguments. -/
theorem open_i3 {H : Type} {enc : TypeId × Value → H} {W : World} {base : Nat} {sp : Nat → Bool} {held : Bool} {r : Reach} {b0 : Nat} {v : Value} {d : DataW H} {p : List MemPlace} (hv : Value.okWide Tryz.prog W r b0 27 v) (h : DataW.Trod enc Tryz.prog W base sp held 27 v d p) :
    p = [] ∧ ∃ a0 a1 a2 : Int, ((-9223372036854775808 ≤ a0 ∧ a0 ≤ 9223372036854775807) ∧ (-9223372036854775808 ≤ a1 ∧ a1 ≤ 9223372036854775807) ∧ (-9223372036854775808 ≤ a2 ∧ a2 ≤ 9223372036854775807)) ∧ v = .agg #[.int .i64 a0, .int .i64 a1, .int .i64 a2] := by
  obtain ⟨cs, rfl, hsz⟩ := okWide_arr Tryz.underlying27 hv
  rw [show Tryz.prog.cellsOf 27 = 3 by kernel_rfl] at hsz
  obtain ⟨fuel, hf⟩ := h
  obtain ⟨xs, m', _, hx, _, hn, hi⟩ := DataW.trod_array Tryz.underlying27 hf
  obtain ⟨l, rfl⟩ : ∃ l : List Value, cs = l.toArray := ⟨cs.toList, by simp⟩
  have hl : l.length = 3 := by simpa using hsz
  match l, hl with
  | [c0, c1, c2], _ =>
  match xs, hn with
  | [x0, x1, x2], _ =>
  have i0 : DataW.trod enc Tryz.prog W base sp held m' 3 [c0] = some x0 := hi 0 (by decide)
  obtain ⟨a0, e0, q0, w0⟩ := DataW.trod_int Tryz.underlying3 i0
  have i1 : DataW.trod enc Tryz.prog W base sp held m' 3 [c1] = some x1 := hi 1 (by decide)
  obtain ⟨a1, e1, q1, w1⟩ := DataW.trod_int Tryz.underlying3 i1
  have i2 : DataW.trod enc Tryz.prog W base sp held m' 3 [c2] = some x2 := hi 2 (by decide)
  obtain ⟨a2, e2, q2, w2⟩ := DataW.trod_int Tryz.underlying3 i2
  simp only [List.cons.injEq, and_true] at e0 e1 e2
  subst e0 e1 e2
  simp only [Prod.mk.injEq] at hx
  exact ⟨by rw [hx.2, q0, q1, q2]; rfl, a0, a1, a2, ⟨bounds_i64 w0, bounds_i64 w1, bounds_i64 w2⟩, rfl⟩
set_option maxRecDepth 10000 in
/-- An array of ints among the arguments. -/
theorem open_i2 {H : Type} {enc : TypeId × Value → H} {W : World} {base : Nat} {sp : Nat → Bool} {held : Bool} {r : Reach} {b0 : Nat} {v : Value} {d : DataW H} {p : List MemPlace} (hv : Value.okWide Tryz.prog W r b0 44 v) (h : DataW.Trod enc Tryz.prog W base sp held 44 v d p) :
    p = [] ∧ ∃ a0 a1 : Int, ((-9223372036854775808 ≤ a0 ∧ a0 ≤ 9223372036854775807) ∧ (-9223372036854775808 ≤ a1 ∧ a1 ≤ 9223372036854775807)) ∧ v = .agg #[.int .i64 a0, .int .i64 a1] := by
  obtain ⟨cs, rfl, hsz⟩ := okWide_arr Tryz.underlying44 hv
  rw [show Tryz.prog.cellsOf 44 = 2 by kernel_rfl] at hsz
  obtain ⟨fuel, hf⟩ := h
  obtain ⟨xs, m', _, hx, _, hn, hi⟩ := DataW.trod_array Tryz.underlying44 hf
  obtain ⟨l, rfl⟩ : ∃ l : List Value, cs = l.toArray := ⟨cs.toList, by simp⟩
  have hl : l.length = 2 := by simpa using hsz
  match l, hl with
  | [c0, c1], _ =>
  match xs, hn with
  | [x0, x1], _ =>
  have i0 : DataW.trod enc Tryz.prog W base sp held m' 3 [c0] = some x0 := hi 0 (by decide)
  obtain ⟨a0, e0, q0, w0⟩ := DataW.trod_int Tryz.underlying3 i0
  have i1 : DataW.trod enc Tryz.prog W base sp held m' 3 [c1] = some x1 := hi 1 (by decide)
  obtain ⟨a1, e1, q1, w1⟩ := DataW.trod_int Tryz.underlying3 i1
  simp only [List.cons.injEq, and_true] at e0 e1
  subst e0 e1
  simp only [Prod.mk.injEq] at hx
  exact ⟨by rw [hx.2, q0, q1]; rfl, a0, a1, ⟨bounds_i64 w0, bounds_i64 w1⟩, rfl⟩
end Go.Proofs.YthdoadkdofgenaaGreatDoor
