/- What the walks of interval's laws ask of memory, out of the listed variables; a size among the arguments. -/
import Derived.Test.YthdoadkdofgenaaGreatDoorRows
import Derived.Test.YthdoadkdofgenaaGreatDoorIvQ
import Derived.Lib.LaidTab
import Derived.LaidLaws
import Derived.LaidMore
import Derived.OpenShut
import Derived.Stop.LaidErr
import Derived.Shelf.Vars
import Derived.Stop.Joined
import Derived.Handed
import Derived.Lib.SmallJoins
import Derived.Carry
import Derived.ProofKit
namespace Go.Proofs.YthdoadkdofgenaaGreatDoor
open Go Go.RowKit Go.Shelf Go.ChangeShapes Go.WideShapes Go.ChangeAt Go.WideMaps Go.WideElems Go.Joins Go.Deep

theorem chunks {α : Type} (k : Nat) : ∀ (rs : List (List α)) (cs : List α), cs.length = rs.length * k → (∀ i r, rs[i]? = some r → (cs.drop (i * k)).take k = r) → cs = rs.flatten
  | [], cs, h, _ => by
    have : cs.length = 0 := by simpa using h
    simpa using List.length_eq_zero_iff.1 this
  | r :: rs, cs, h, hr => by
    have h0 := hr 0 r rfl
    rw [Nat.zero_mul, List.drop_zero] at h0
    have h1 : (cs.drop k).length = rs.length * k := by
      rw [List.length_drop, h, List.length_cons, Nat.add_mul, Nat.one_mul]
      omega
    have h2 := chunks k rs (cs.drop k) h1 (fun i r' hi => by
      have := hr (i + 1) r' (by simpa using hi)
      rw [List.drop_drop]
      rwa [show (i + 1) * k = k + i * k by rw [Nat.add_mul, Nat.one_mul, Nat.add_comm]] at this)
    rw [List.flatten_cons, ← h2, ← h0, List.take_append_drop]
theorem array_of_list {α : Type} {a : Array α} {l : List α} (h : a.toList = l) : a = l.toArray := by rw [← h, Array.toArray_toList]

def rowD (r : ByteArray × Int × Int × Int) : DataW Unit := .agg [.lit (.string r.1.data.toList), Lib.tabData .i64 [r.2.1, r.2.2.1, r.2.2.2]]
def rowV (r : ByteArray × Int × Int × Int) : List Value := [.string r.1, .int .i64 r.2.1, .int .i64 r.2.2.1, .int .i64 r.2.2.2]
set_option maxRecDepth 100000 in
theorem nmrow_of {W : World} {base : Nat} {sp : Nat → Bool} {held : Bool} {enc : TypeId × Value → Unit} {fuel : Nat} {cs : List Value} {r : ByteArray × Int × Int × Int} {p : List MemPlace}
    (h : DataW.trod enc Tryz.prog W base sp held fuel 90 cs = some (rowD r, p)) : cs = rowV r := by
  obtain ⟨y0, y1, n, hx, hl, h0, h1⟩ := trod_struct2 Tryz.underlying90 h
  rw [show Tryz.prog.cellsOf 90 = 4 by kernel_rfl] at hl
  match cs, hl with
  | [c0, c1, c2, c3], _ =>
  simp only [Prod.mk.injEq, rowD, DataW.agg.injEq, List.cons.injEq, and_true] at hx
  have e0 : DataW.trod enc Tryz.prog W base sp held n 9 [c0] = some y0 := h0
  have e1 : DataW.trod enc Tryz.prog W base sp held n 27 [c1, c2, c3] = some y1 := h1
  obtain ⟨s, hs, hy, _⟩ := DataW.trod_string Tryz.underlying9 e0
  have e2 : DataW.trod enc Tryz.prog W base sp held n 27 [c1, c2, c3] = some (Lib.tabData .i64 [r.2.1, r.2.2.1, r.2.2.2], y1.2) := by
    rw [e1, hx.1.2]
  have e3 := Lib.cells_of_tab Tryz.underlying27 Tryz.underlying3 (by kernel_rfl) (by kernel_rfl) e2
  have e4 : s = r.1 := by
    have := hx.1.1
    rw [hy] at this
    simp only [DataW.lit.injEq, Lit.string.injEq] at this
    exact (ByteArray.ext (Array.toList_inj.1 this)).symm
  simp only [List.cons.injEq, and_true] at hs
  rw [hs, e4]
  unfold rowV
  rw [e3]
  rfl
set_option maxRecDepth 100000 in
theorem nm_of {W : World} {r : List (String × DataW Unit)} (h : laidMet Tryz.prog (("bombarde/interval.names", Rows.laid_bombarde_interval_names) :: r) W) : Nm W := by
  obtain ⟨ps, ⟨g', t', cs, fuel, p, q, hg', ht', hvar, hd, _, _⟩, _⟩ := h
  obtain rfl := Option.some.inj ((show Tryz.prog.globalNamed "bombarde/interval.names" = some 0 by kernel_rfl).symm.trans hg')
  obtain rfl := Option.some.inj ((show (Tryz.prog.globals[0]?).map (·.type) = some 91 by kernel_rfl).symm.trans ht')
  obtain ⟨xs, m, rfl, hx, hl, hn, hi⟩ := DataW.trod_array Tryz.underlying91 hd
  have hD : (Rows.laid_bombarde_interval_names : DataW Unit) = .agg (NL.map rowD) := by kernel_rfl
  rw [hD] at hx
  simp only [Prod.mk.injEq, DataW.agg.injEq] at hx
  have hcs : cs.toList = (NL.map rowV).flatten := by
    refine chunks 4 _ _ (by rw [hl]; kernel_rfl) fun i r hr => ?_
    rw [List.getElem?_map] at hr
    cases hk : NL[i]? with
    | none => rw [hk] at hr; cases hr
    | some rr =>
      rw [hk] at hr
      simp only [Option.map_some, Option.some.injEq] at hr
      have hi11 : i < 11 := (List.getElem?_eq_some_iff.1 hk).1
      have hxi := hi i hi11
      rw [show Tryz.prog.cellsOf 90 = 4 by kernel_rfl] at hxi
      have hm : (xs.map (·.1))[i]? = some (rowD rr) := by rw [← hx.1, List.getElem?_map, hk]; rfl
      rw [List.getElem?_map] at hm
      cases hq : xs[i]? with
      | none => rw [hq] at hm; cases hm
      | some y =>
        rw [hq] at hm hxi
        simp only [Option.map_some, Option.some.injEq] at hm
        rw [← hr]
        obtain ⟨y1, y2⟩ := y
        simp only at hm
        subst hm
        exact nmrow_of hxi
  have hC : cs = namesC := by rw [array_of_list hcs]; kernel_rfl
  unfold World.var? at hvar
  rw [show Tryz.prog.globalNamed "bombarde/interval.names" = some 0 by kernel_rfl] at hvar
  simp only [Option.bind_some] at hvar
  unfold Nm
  split at hvar
  · rename_i c t fr hh
    cases hvar
    exact ⟨_, _, by rw [hh, hC]⟩
  · cases hvar
theorem gi_of5 {W : World} {d d2 : DataW Unit} {nm : String} {r : List (String × DataW Unit)} (hs : W.ShapedOpen Tryz.prog) (h : laidMet Tryz.prog ((nm, d) :: ("math/bits.deBruijn64tab", d2) :: ("internal/strconv.uint64pow10", Rows.laid_internal_strconv_uint64pow10) :: r) W) : Gi W := by
  obtain ⟨m, hm⟩ := Go.Proofs.cell_of_shapedOpen_int (P := Tryz.prog) (g := 4) (t := 3) (zero := #[.int .i64 0]) hs (of_decide_eq_true (by kernel_rfl)) (by kernel_rfl) rfl (by kernel_rfl) (by kernel_rfl) Tryz.underlying3
  refine ⟨Lib.tabIs_of_head (g := 3) (n := 20) (e := 98) (by kernel_rfl) rfl (by kernel_rfl) Tryz.underlying98 (by kernel_rfl) (by kernel_rfl) h.tail.tail, ⟨m, hm⟩, ?_⟩
  obtain ⟨ps, ⟨g', t', cs, fuel, p, q, hg', ht', hvar, hd, _, _⟩, _⟩ := h.tail
  unfold World.var? at hvar
  rw [show Tryz.prog.globalNamed "math/bits.deBruijn64tab" = some 6 by kernel_rfl] at hvar
  simp only [Option.bind_some] at hvar
  split at hvar
  · rename_i c t fr hh
    have := (Array.getElem?_eq_some_iff.1 hh).1
    omega
  · cases hvar

variable {H : Type} {enc : TypeId × Value → H}
set_option maxRecDepth 10000 in
/-- A size among the arguments: six ints. -/
theorem open_size {W : World} {base : Nat} {sp : Nat → Bool} {held : Bool} {r : Reach} {b0 : Nat} {v : Value} {d : DataW H} {p : List MemPlace} (hv : Value.okWide Tryz.prog W r b0 25 v) (h : DataW.Trod enc Tryz.prog W base sp held 25 v d p) :
    p = [] ∧ ∃ a b c d e f : Int, v = .agg #[.int .i64 a, .int .i64 b, .int .i64 c, .int .i64 d, .int .i64 e, .int .i64 f] := by
  obtain ⟨cs, rfl, hsz⟩ := WideShapes.okWide_struct Tryz.underlying25 hv
  rw [show Tryz.prog.cellsOf 25 = 6 by kernel_rfl] at hsz
  obtain ⟨fuel, hf⟩ := h
  obtain ⟨y0, y1, y2, n, hx, _, h0, h1, h2⟩ := trod_struct3 Tryz.underlying25 hf
  obtain ⟨l, rfl⟩ : ∃ l : List Value, cs = l.toArray := ⟨cs.toList, by simp⟩
  have hl : l.length = 6 := by simpa using hsz
  match l, hl with
  | [c0, c1, c2, c3, c4, c5], _ =>
  have fr : ∀ (c c' : Value) (y : DataW H × List MemPlace), DataW.trod enc Tryz.prog W base sp held n 23 [c, c'] = some y → y.2 = [] ∧ ∃ a b : Int, c = .int .i64 a ∧ c' = .int .i64 b := by
    intro c c' y hy
    obtain ⟨z0, z1, m, hz, _, k0, k1⟩ := trod_struct2 Tryz.underlying23 hy
    have k0' : DataW.trod enc Tryz.prog W base sp held m 3 [c] = some z0 := k0
    have k1' : DataW.trod enc Tryz.prog W base sp held m 3 [c'] = some z1 := k1
    obtain ⟨a, e0, q0, _⟩ := DataW.trod_int Tryz.underlying3 k0'
    obtain ⟨b, e1, q1, _⟩ := DataW.trod_int Tryz.underlying3 k1'
    simp only [List.cons.injEq, and_true] at e0 e1
    rw [hz, q0, q1]
    exact ⟨rfl, a, b, e0, e1⟩
  obtain ⟨p0, a, b, rfl, rfl⟩ := fr c0 c1 y0 h0
  obtain ⟨p1, c, d, rfl, rfl⟩ := fr c2 c3 y1 h1
  obtain ⟨p2, e, f, rfl, rfl⟩ := fr c4 c5 y2 h2
  simp only [Prod.mk.injEq] at hx
  exact ⟨by rw [hx.2, p0, p1, p2]; rfl, a, b, c, d, e, f, rfl⟩
/-- The door of a row with listed tables: the call is made in a world of the program's shape, in which the tables lie. -/
theorem door_shaped {C : Checked} {os : Os} {f : FuncId} {fn : Func} {s : ChangeSpec} {lays : List (String × DataW Unit)} (own : ownKnob C.prog.godebug = none) (started : os.Started) (noInit : C.prog.inits.idxOf? f = none) (hfn : C.prog.funcs[f]? = some fn)
    (wit : ∃ (w : World) (tape : Tape) (i : Input), w.os = os ∧ (w.forCall tape i).Shaped C.prog ∧ i.vars = [] ∧ Input.okWide C.prog (w.forCall tape i) .any w.heap.size f i ∧
      ((s.pre enc C.prog fn [] false (w.forCall tape i).memory i.args ∧ laidMetH C.prog lays (w.forCall tape i).memory) ∧ sizedMet enc C.prog fn (OpenSpec.ofChange s) false (w.forCall tape i).memory i.args) ∧ ({} : Assume).holds C.prog (lone (Frame.enter C.prog f i.args .normal) [] (w.forCall tape i)))
    (go : ∀ (W : World) (base : Nat) (args : Array Value) (ds gs : List (DataW H)) (before : List MemPlace), W.ShapedOpen C.prog → laidMetH C.prog lays W →
      (∀ (j : Nat) t v, fn.params[j]? = some t → args[j]? = some v → Value.okWide C.prog W .any base t v) →
      DataW.Whole enc C.prog fn.params.toList s.vars false W args.toList ds gs before →
      Calls C.prog f args W fun e W' => ∃ v, e = .returned v ∧ s.post enc C.prog fn false true false false W args v W') :
    ReturnsInHanded {} C os f .any (fun w args => (s.pre enc C.prog fn [] false w args ∧ laidMetH C.prog lays w) ∧ sizedMet enc C.prog fn (OpenSpec.ofChange s) false w args) (s.post enc C.prog fn false true false false) := by
  refine returnsInHanded_of_calls own started noInit wit ?_
  rintro w tape i - shape - ⟨_, _, _, fn', h1, _, _, _, _, good⟩ ⟨⟨⟨ds, gs, before, whole, _⟩, lay⟩, _⟩ -
  cases Option.some.inj (h1.symm.trans hfn)
  refine (go _ w.heap.size i.args ds gs before shape (laidMetH.of_heap (by rfl) lay) good (DataW.Whole.of_heap (by rfl) whole)).mono ?_
  rintro e W' ⟨v, rfl, hp⟩
  exact ChangeSpec.post_blind hp
end Go.Proofs.YthdoadkdofgenaaGreatDoor
