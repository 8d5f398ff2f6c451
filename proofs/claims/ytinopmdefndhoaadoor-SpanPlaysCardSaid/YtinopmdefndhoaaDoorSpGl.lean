/- From the row's condition on the listed variable to what the walks ask of it; players, sets, compasses and plans among the arguments. -/
import Derived.Test.YtinopmdefndhoaaDoorRows
import Derived.Test.YtinopmdefndhoaaDoorNsE
import Derived.Lib.LaidTab
import Derived.LaidLaws
import Derived.LaidMore
import Derived.OpenShut
import Derived.Stop.LaidErr
import Derived.Shelf.Vars
import Derived.Stop.Joined
import Derived.Handed
import Derived.Lib.SmallJoins
import Derived.Carry
import Derived.ProofKit
namespace Go.Proofs.YtinopmdefndhoaaDoor
open Go Go.RowKit Go.Shelf Go.ChangeShapes Go.WideShapes Go.ChangeAt Go.WideMaps Go.WideElems Go.Joins Go.Deep

theorem gl_of_laid {W : World} (h : laidMet Tryd.prog [("math/bits.deBruijn64tab", Rows.laid_math_bits_deBruijn64tab)] W) : Gl W := by
  have h1 : Lib.TabIs Tryd.prog W "math/bits.deBruijn64tab" .u8 (Lib.deBruijn64tab.map fun n : Nat => (n : Int)) := Lib.tabIs_of_head (g := 0) (n := 64) (e := 5) (by kernel_rfl) rfl (by kernel_rfl) Tryd.underlying5 (by kernel_rfl) (by kernel_rfl) h
  refine ⟨?_, fun j hj => ?_⟩
  · have h := h1
    unfold Lib.TabIs World.var? at h
    rw [show Tryd.prog.globalNamed "math/bits.deBruijn64tab" = some 0 by kernel_rfl] at h
    simp only [Option.bind_some] at h
    cases hh : W.heap[0]? with
    | none => rw [hh] at h; cases h
    | some o => exact (Array.getElem?_eq_some_iff.1 hh).1
  · have := h1.cell (g := 0) (by kernel_rfl) j (by simpa using hj)
    rw [this]
    simp [List.getD_eq_getElem?_getD, List.getElem?_map]
    rw [List.getElem?_eq_getElem hj]
    simp

variable {H : Type} {enc : TypeId × Value → H}
set_option maxRecDepth 10000 in
/-- A player among the arguments. -/
theorem open_player {W : World} {base : Nat} {sp : Nat → Bool} {held : Bool} {r : Reach} {b0 : Nat} {v : Value} {d : DataW H} {p : List MemPlace} (hv : Value.okWide Tryd.prog W r b0 23 v) (h : DataW.Trod enc Tryd.prog W base sp held 23 v d p) :
    p = [] ∧ ∃ a0 a1 a2 a3 : Int, (True) ∧ v = .agg #[.int .i64 a0, .int .i64 a1, .int .i64 a2, .int .i64 a3] := by
  obtain ⟨cs, rfl, hsz⟩ := WideShapes.okWide_struct Tryd.underlying23 hv
  rw [show Tryd.prog.cellsOf 23 = 4 by kernel_rfl] at hsz
  obtain ⟨fuel, hf⟩ := h
  obtain ⟨z0, z1, z2, z3, m, hz, _, k0, k1, k2, k3⟩ := trod_struct4 Tryd.underlying23 hf
  obtain ⟨l, rfl⟩ : ∃ l : List Value, cs = l.toArray := ⟨cs.toList, by simp⟩
  have hl : l.length = 4 := by simpa using hsz
  match l, hl with
  | [c0, c1, c2, c3], _ =>
  have q0 : DataW.trod enc Tryd.prog W base sp held m 3 [c0] = some z0 := k0
  have q1 : DataW.trod enc Tryd.prog W base sp held m 3 [c1] = some z1 := k1
  have q2 : DataW.trod enc Tryd.prog W base sp held m 3 [c2] = some z2 := k2
  have q3 : DataW.trod enc Tryd.prog W base sp held m 3 [c3] = some z3 := k3
  obtain ⟨a0, e0, r0, w0⟩ := DataW.trod_int Tryd.underlying3 q0
  obtain ⟨a1, e1, r1, w1⟩ := DataW.trod_int Tryd.underlying3 q1
  obtain ⟨a2, e2, r2, w2⟩ := DataW.trod_int Tryd.underlying3 q2
  obtain ⟨a3, e3, r3, w3⟩ := DataW.trod_int Tryd.underlying3 q3
  simp only [List.cons.injEq, and_true] at e0 e1 e2 e3
  subst e0 e1 e2 e3
  simp only [Prod.mk.injEq] at hz
  exact ⟨by rw [hz.2, r0, r1, r2, r3]; rfl, a0, a1, a2, a3, trivial, rfl⟩
set_option maxRecDepth 10000 in
/-- A set among the arguments. -/
theorem open_notes {W : World} {base : Nat} {sp : Nat → Bool} {held : Bool} {r : Reach} {b0 : Nat} {v : Value} {d : DataW H} {p : List MemPlace} (hv : Value.okWide Tryd.prog W r b0 26 v) (h : DataW.Trod enc Tryd.prog W base sp held 26 v d p) :
    p = [] ∧ ∃ a0 a1 : Int, ((0 ≤ a0 ∧ a0 ≤ 18446744073709551615) ∧ (0 ≤ a1 ∧ a1 ≤ 18446744073709551615)) ∧ v = .agg #[.int .u64 a0, .int .u64 a1] := by
  obtain ⟨cs, rfl, hsz⟩ := WideShapes.okWide_struct Tryd.underlying26 hv
  rw [show Tryd.prog.cellsOf 26 = 2 by kernel_rfl] at hsz
  obtain ⟨fuel, hf⟩ := h
  obtain ⟨z0, z1, m, hz, _, k0, k1⟩ := trod_struct2 Tryd.underlying26 hf
  obtain ⟨l, rfl⟩ : ∃ l : List Value, cs = l.toArray := ⟨cs.toList, by simp⟩
  have hl : l.length = 2 := by simpa using hsz
  match l, hl with
  | [c0, c1], _ =>
  have q0 : DataW.trod enc Tryd.prog W base sp held m 24 [c0] = some z0 := k0
  have q1 : DataW.trod enc Tryd.prog W base sp held m 24 [c1] = some z1 := k1
  obtain ⟨a0, e0, r0, w0⟩ := DataW.trod_int Tryd.underlying24 q0
  obtain ⟨a1, e1, r1, w1⟩ := DataW.trod_int Tryd.underlying24 q1
  simp only [List.cons.injEq, and_true] at e0 e1
  subst e0 e1
  simp only [Prod.mk.injEq] at hz
  exact ⟨by rw [hz.2, r0, r1]; rfl, a0, a1, ⟨bounds_u64 w0, bounds_u64 w1⟩, rfl⟩
set_option maxRecDepth 10000 in
/-- A compass among the arguments. -/
theorem open_comp {W : World} {base : Nat} {sp : Nat → Bool} {held : Bool} {r : Reach} {b0 : Nat} {v : Value} {d : DataW H} {p : List MemPlace} (hv : Value.okWide Tryd.prog W r b0 45 v) (h : DataW.Trod enc Tryd.prog W base sp held 45 v d p) :
    p = [] ∧ ∃ a0 a1 : Int, (True) ∧ v = .agg #[.int .i64 a0, .int .i64 a1] := by
  obtain ⟨cs, rfl, hsz⟩ := WideShapes.okWide_struct Tryd.underlying45 hv
  rw [show Tryd.prog.cellsOf 45 = 2 by kernel_rfl] at hsz
  obtain ⟨fuel, hf⟩ := h
  obtain ⟨z0, z1, m, hz, _, k0, k1⟩ := trod_struct2 Tryd.underlying45 hf
  obtain ⟨l, rfl⟩ : ∃ l : List Value, cs = l.toArray := ⟨cs.toList, by simp⟩
  have hl : l.length = 2 := by simpa using hsz
  match l, hl with
  | [c0, c1], _ =>
  have q0 : DataW.trod enc Tryd.prog W base sp held m 3 [c0] = some z0 := k0
  have q1 : DataW.trod enc Tryd.prog W base sp held m 3 [c1] = some z1 := k1
  obtain ⟨a0, e0, r0, w0⟩ := DataW.trod_int Tryd.underlying3 q0
  obtain ⟨a1, e1, r1, w1⟩ := DataW.trod_int Tryd.underlying3 q1
  simp only [List.cons.injEq, and_true] at e0 e1
  subst e0 e1
  simp only [Prod.mk.injEq] at hz
  exact ⟨by rw [hz.2, r0, r1]; rfl, a0, a1, trivial, rfl⟩
set_option maxRecDepth 10000 in
/-- A plan among the arguments. -/
theorem open_plan {W : World} {base : Nat} {sp : Nat → Bool} {held : Bool} {r : Reach} {b0 : Nat} {v : Value} {d : DataW H} {p : List MemPlace} (hv : Value.okWide Tryd.prog W r b0 61 v) (h : DataW.Trod enc Tryd.prog W base sp held 61 v d p) :
    p = [] ∧ ∃ a0 a1 : Int, ((0 ≤ a0 ∧ a0 ≤ 255) ∧ (0 ≤ a1 ∧ a1 ≤ 65535)) ∧ v = .agg #[.int .u8 a0, .int .u16 a1] := by
  obtain ⟨cs, rfl, hsz⟩ := WideShapes.okWide_struct Tryd.underlying61 hv
  rw [show Tryd.prog.cellsOf 61 = 2 by kernel_rfl] at hsz
  obtain ⟨fuel, hf⟩ := h
  obtain ⟨z0, z1, m, hz, _, k0, k1⟩ := trod_struct2 Tryd.underlying61 hf
  obtain ⟨l, rfl⟩ : ∃ l : List Value, cs = l.toArray := ⟨cs.toList, by simp⟩
  have hl : l.length = 2 := by simpa using hsz
  match l, hl with
  | [c0, c1], _ =>
  have q0 : DataW.trod enc Tryd.prog W base sp held m 5 [c0] = some z0 := k0
  have q1 : DataW.trod enc Tryd.prog W base sp held m 59 [c1] = some z1 := k1
  obtain ⟨a0, e0, r0, w0⟩ := DataW.trod_int Tryd.underlying5 q0
  obtain ⟨a1, e1, r1, w1⟩ := DataW.trod_int Tryd.underlying59 q1
  simp only [List.cons.injEq, and_true] at e0 e1
  subst e0 e1
  simp only [Prod.mk.injEq] at hz
  exact ⟨by rw [hz.2, r0, r1]; rfl, a0, a1, ⟨bounds_u8 w0, bounds_u16 w1⟩, rfl⟩
/-- The door of a row with listed tables: the call is made in a world of the program's shape, in which the tables lie. -/
theorem door_shaped {C : Checked} {os : Os} {f : FuncId} {fn : Func} {s : ChangeSpec} {lays : List (String × DataW Unit)} (own : ownKnob C.prog.godebug = none) (started : os.Started) (noInit : C.prog.inits.idxOf? f = none) (hfn : C.prog.funcs[f]? = some fn)
    (wit : ∃ (w : World) (tape : Tape) (i : Input), w.os = os ∧ (w.forCall tape i).Shaped C.prog ∧ i.vars = [] ∧ Input.okWide C.prog (w.forCall tape i) .any w.heap.size f i ∧
      ((s.pre enc C.prog fn [] false (w.forCall tape i).memory i.args ∧ laidMetH C.prog lays (w.forCall tape i).memory) ∧ sizedMet enc C.prog fn (OpenSpec.ofChange s) false (w.forCall tape i).memory i.args) ∧ ({} : Assume).holds C.prog (lone (Frame.enter C.prog f i.args .normal) [] (w.forCall tape i)))
    (go : ∀ (W : World) (base : Nat) (args : Array Value) (ds gs : List (DataW H)) (before : List MemPlace), W.ShapedOpen C.prog → laidMetH C.prog lays W →
      (∀ (j : Nat) t v, fn.params[j]? = some t → args[j]? = some v → Value.okWide C.prog W .any base t v) →
      DataW.Whole enc C.prog fn.params.toList s.vars false W args.toList ds gs before →
      Calls C.prog f args W fun e W' => ∃ v, e = .returned v ∧ s.post enc C.prog fn false true false false W args v W') :
    ReturnsInHanded {} C os f .any (fun w args => (s.pre enc C.prog fn [] false w args ∧ laidMetH C.prog lays w) ∧ sizedMet enc C.prog fn (OpenSpec.ofChange s) false w args) (s.post enc C.prog fn false true false false) := by
  refine returnsInHanded_of_calls own started noInit wit ?_
  rintro w tape i - shape - ⟨_, _, _, fn', h1, _, _, _, _, good⟩ ⟨⟨⟨ds, gs, before, whole, _⟩, lay⟩, _⟩ -
  cases Option.some.inj (h1.symm.trans hfn)
  refine (go _ w.heap.size i.args ds gs before shape (laidMetH.of_heap (by rfl) lay) good (DataW.Whole.of_heap (by rfl) whole)).mono ?_
  rintro e W' ⟨v, rfl, hp⟩
  exact ChangeSpec.post_blind hp

end Go.Proofs.YtinopmdefndhoaaDoor
