/- What the walks ask of memory, out of the listed tables and the world's shape; a row's door that hands on both. -/
import Derived.Test.YtnchodofgaaeeaaGreatDoorRows
import Derived.Test.YtnchodofgaaeeaaGreatDoorImC
import Derived.Lib.LaidTab
import Derived.LaidLaws
import Derived.LaidMore
import Derived.Stop.LaidErr
import Derived.Shelf.Vars
import Derived.Stop.Joined
import Derived.Handed
namespace Go.Proofs.YtnchodofgaaeeaaGreatDoor
open Go Go.RowKit Go.Shelf

theorem gi_of {W : World} {d d2 : DataW Unit} {nm nm2 : String} {r : List (String × DataW Unit)} (hs : W.ShapedOpen Tryz.prog) (h : laidMet Tryz.prog ((nm, d) :: (nm2, d2) :: ("internal/strconv.uint64pow10", Rows.laid_internal_strconv_uint64pow10) :: r) W) : Gi W := by
  obtain ⟨m, hm⟩ := Go.Proofs.cell_of_shapedOpen_int (P := Tryz.prog) (g := 2) (t := 3) (zero := #[.int .i64 0]) hs (of_decide_eq_true (by kernel_rfl)) (by kernel_rfl) rfl (by kernel_rfl) (by kernel_rfl) Tryz.underlying3
  refine ⟨Lib.tabIs_of_head (g := 3) (n := 20) (e := 106) (by kernel_rfl) rfl (by kernel_rfl) Tryz.underlying106 (by kernel_rfl) (by kernel_rfl) h.tail.tail, ⟨m, hm⟩, ?_⟩
  rcases Nat.lt_or_ge 2 W.heap.size with h1 | h1
  · exact h1
  · have : W.heap[2]? = none := Array.getElem?_eq_none h1
    simp [World.cell?, this] at hm

variable {H : Type} {enc : TypeId × Value → H}
/-- The door of a row with listed tables: the call is made in a world of the program's shape, in which the tables lie. -/
theorem door_shaped {C : Checked} {os : Os} {f : FuncId} {fn : Func} {s : ChangeSpec} {lays : List (String × DataW Unit)} (own : ownKnob C.prog.godebug = none) (started : os.Started) (noInit : C.prog.inits.idxOf? f = none) (hfn : C.prog.funcs[f]? = some fn)
    (wit : ∃ (w : World) (tape : Tape) (i : Input), w.os = os ∧ (w.forCall tape i).Shaped C.prog ∧ i.vars = [] ∧ Input.okWide C.prog (w.forCall tape i) .any w.heap.size f i ∧
      ((s.pre enc C.prog fn [] false (w.forCall tape i).memory i.args ∧ laidMetH C.prog lays (w.forCall tape i).memory) ∧ sizedMet enc C.prog fn (OpenSpec.ofChange s) false (w.forCall tape i).memory i.args) ∧ ({} : Assume).holds C.prog (lone (Frame.enter C.prog f i.args .normal) [] (w.forCall tape i)))
    (go : ∀ (W : World) (base : Nat) (args : Array Value) (ds gs : List (DataW H)) (before : List MemPlace), W.ShapedOpen C.prog → laidMetH C.prog lays W →
      (∀ (j : Nat) t v, fn.params[j]? = some t → args[j]? = some v → Value.okWide C.prog W .any base t v) →
      DataW.Whole enc C.prog fn.params.toList s.vars false W args.toList ds gs before →
      Calls C.prog f args W fun e W' => ∃ v, e = .returned v ∧ s.post enc C.prog fn false true false false W args v W') :
    ReturnsInHanded {} C os f .any (fun w args => (s.pre enc C.prog fn [] false w args ∧ laidMetH C.prog lays w) ∧ sizedMet enc C.prog fn (OpenSpec.ofChange s) false w args) (s.post enc C.prog fn false true false false) := by
  refine returnsInHanded_of_calls own started noInit wit ?_
  rintro w tape i - shape - ⟨_, _, _, fn', h1, _, _, _, _, good⟩ ⟨⟨⟨ds, gs, before, whole, _⟩, lay⟩, _⟩ -
  cases Option.some.inj (h1.symm.trans hfn)
  refine (go _ w.heap.size i.args ds gs before shape (laidMetH.of_heap (by rfl) lay) good (DataW.Whole.of_heap (by rfl) whole)).mono ?_
  rintro e W' ⟨v, rfl, hp⟩
  exact ChangeSpec.post_blind hp
end Go.Proofs.YtnchodofgaaeeaaGreatDoor
