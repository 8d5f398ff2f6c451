/- What the walks of pitch's laws ask of memory, out of the listed variables; feet among the arguments. -/
import Derived.Test.YtkoljddejjfbiaaGreatDoorRows
import Derived.Test.YtkoljddejjfbiaaGreatDoorPtH
import Derived.Lib.LaidTab
import Derived.LaidLaws
import Derived.LaidMore
import Derived.OpenShut
import Derived.Stop.LaidErr
import Derived.Shelf.Vars
import Derived.Stop.Joined
import Derived.Handed
import Derived.Lib.SmallJoins
import Derived.Carry
import Derived.ProofKit
namespace Go.Proofs.YtkoljddejjfbiaaGreatDoor
open Go Go.RowKit Go.Shelf Go.ChangeShapes Go.WideShapes Go.ChangeAt Go.WideMaps Go.WideElems Go.Joins Go.Deep

theorem gi_of5 {W : World} {d d2 : DataW Unit} {nm : String} {r : List (String × DataW Unit)} (hs : W.ShapedOpen Tryz.prog) (h : laidMet Tryz.prog ((nm, d) :: ("math/bits.deBruijn64tab", d2) :: ("internal/strconv.uint64pow10", Rows.laid_internal_strconv_uint64pow10) :: r) W) : Gi W := by
  obtain ⟨m, hm⟩ := Go.Proofs.cell_of_shapedOpen_int (P := Tryz.prog) (g := 6) (t := 3) (zero := #[.int .i64 0]) hs (of_decide_eq_true (by kernel_rfl)) (by kernel_rfl) rfl (by kernel_rfl) (by kernel_rfl) Tryz.underlying3
  refine ⟨Lib.tabIs_of_head (g := 5) (n := 20) (e := 69) (by kernel_rfl) rfl (by kernel_rfl) Tryz.underlying69 (by kernel_rfl) (by kernel_rfl) h.tail.tail, ⟨m, hm⟩, ?_⟩
  have := World.block_lt_of_cell? _ _ hm
  exact this
theorem tz_of5 {W : World} {d : DataW Unit} {nm : String} {r : List (String × DataW Unit)} (h : laidMet Tryz.prog ((nm, d) :: ("math/bits.deBruijn64tab", Rows.laid_math_bits_deBruijn64tab) :: r) W) : TabAt 2 Lib.deBruijn64tab W := by
  have h1 : Lib.TabIs Tryz.prog W "math/bits.deBruijn64tab" .u8 (Lib.deBruijn64tab.map fun n : Nat => (n : Int)) := Lib.tabIs_of_head (g := 2) (n := 64) (e := 5) (by kernel_rfl) rfl (by kernel_rfl) Tryz.underlying5 (by kernel_rfl) (by kernel_rfl) h.tail
  intro j hj
  have := h1.cell (g := 2) (by kernel_rfl) j (by simpa using hj)
  rw [this]
  simp [List.getD_eq_getElem?_getD, List.getElem?_map]
  rw [List.getElem?_eq_getElem hj]
  simp

theorem pg_of5 {W : World} {d : DataW Unit} {nm : String} {r : List (String × DataW Unit)} (hs : W.ShapedOpen Tryz.prog) (h : laidMet Tryz.prog ((nm, d) :: ("math/bits.deBruijn64tab", Rows.laid_math_bits_deBruijn64tab) :: ("internal/strconv.uint64pow10", Rows.laid_internal_strconv_uint64pow10) :: r) W) : Pg W :=
  ⟨gi_of5 hs h, tz_of5 h⟩
set_option maxRecDepth 10000 in
theorem open_frac {H : Type} {enc : TypeId × Value → H} {W : World} {base : Nat} {sp : Nat → Bool} {held : Bool} {r : Reach} {b0 : Nat} {v : Value} {d : DataW H} {p : List MemPlace} (hv : Value.okWide Tryz.prog W r b0 23 v) (h : DataW.Trod enc Tryz.prog W base sp held 23 v d p) :
    p = [] ∧ ∃ a b : Int, True ∧ v = .agg #[.int .i64 a, .int .i64 b] := by
  obtain ⟨cs, rfl, hsz⟩ := WideShapes.okWide_struct Tryz.underlying23 hv
  rw [show Tryz.prog.cellsOf 23 = 2 by kernel_rfl] at hsz
  obtain ⟨fuel, hf⟩ := h
  obtain ⟨z0, z1, m, hz, _, k0, k1⟩ := trod_struct2 Tryz.underlying23 hf
  obtain ⟨l, rfl⟩ : ∃ l : List Value, cs = l.toArray := ⟨cs.toList, by simp⟩
  have hl : l.length = 2 := by simpa using hsz
  match l, hl with
  | [c, c'], _ =>
  have k0' : DataW.trod enc Tryz.prog W base sp held m 3 [c] = some z0 := k0
  have k1' : DataW.trod enc Tryz.prog W base sp held m 3 [c'] = some z1 := k1
  obtain ⟨a, e0, q0, _⟩ := DataW.trod_int Tryz.underlying3 k0'
  obtain ⟨b, e1, q1, _⟩ := DataW.trod_int Tryz.underlying3 k1'
  simp only [List.cons.injEq, and_true] at e0 e1
  subst e0 e1
  simp only [Prod.mk.injEq] at hz
  exact ⟨by rw [hz.2, q0, q1]; rfl, a, b, trivial, rfl⟩

variable {H : Type} {enc : TypeId × Value → H}
/-- The door of a row with listed tables: the call is made in a world of the program's shape, in which the tables lie. -/
theorem door_shaped {C : Checked} {os : Os} {f : FuncId} {fn : Func} {s : ChangeSpec} {lays : List (String × DataW Unit)} (own : ownKnob C.prog.godebug = none) (started : os.Started) (noInit : C.prog.inits.idxOf? f = none) (hfn : C.prog.funcs[f]? = some fn)
    (wit : ∃ (w : World) (tape : Tape) (i : Input), w.os = os ∧ (w.forCall tape i).Shaped C.prog ∧ i.vars = [] ∧ Input.okWide C.prog (w.forCall tape i) .any w.heap.size f i ∧
      ((s.pre enc C.prog fn [] false (w.forCall tape i).memory i.args ∧ laidMetH C.prog lays (w.forCall tape i).memory) ∧ sizedMet enc C.prog fn (OpenSpec.ofChange s) false (w.forCall tape i).memory i.args) ∧ ({} : Assume).holds C.prog (lone (Frame.enter C.prog f i.args .normal) [] (w.forCall tape i)))
    (go : ∀ (W : World) (base : Nat) (args : Array Value) (ds gs : List (DataW H)) (before : List MemPlace), W.ShapedOpen C.prog → laidMetH C.prog lays W →
      (∀ (j : Nat) t v, fn.params[j]? = some t → args[j]? = some v → Value.okWide C.prog W .any base t v) →
      DataW.Whole enc C.prog fn.params.toList s.vars false W args.toList ds gs before →
      Calls C.prog f args W fun e W' => ∃ v, e = .returned v ∧ s.post enc C.prog fn false true false false W args v W') :
    ReturnsInHanded {} C os f .any (fun w args => (s.pre enc C.prog fn [] false w args ∧ laidMetH C.prog lays w) ∧ sizedMet enc C.prog fn (OpenSpec.ofChange s) false w args) (s.post enc C.prog fn false true false false) := by
  refine returnsInHanded_of_calls own started noInit wit ?_
  rintro w tape i - shape - ⟨_, _, _, fn', h1, _, _, _, _, good⟩ ⟨⟨⟨ds, gs, before, whole, _⟩, lay⟩, _⟩ -
  cases Option.some.inj (h1.symm.trans hfn)
  refine (go _ w.heap.size i.args ds gs before shape (laidMetH.of_heap (by rfl) lay) good (DataW.Whole.of_heap (by rfl) whole)).mono ?_
  rintro e W' ⟨v, rfl, hp⟩
  exact ChangeSpec.post_blind hp
end Go.Proofs.YtkoljddejjfbiaaGreatDoor
