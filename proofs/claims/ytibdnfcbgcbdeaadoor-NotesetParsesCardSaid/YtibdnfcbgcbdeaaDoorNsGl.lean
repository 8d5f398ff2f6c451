/- From the row's condition on the listed variables to what the walks ask of them. -/
import Derived.Test.YtibdnfcbgcbdeaaDoorNsB
import Derived.Test.YtibdnfcbgcbdeaaDoorRows
import Derived.Lib.LaidTab
import Derived.LaidLaws
import Derived.Stop.LaidErr
namespace Go.Proofs.YtibdnfcbgcbdeaaDoor
open Go Go.RowKit Go.Shelf

/-- An array of texts as a row lists it. -/
def strData {H : Type} (ss : List ByteArray) : DataW H := .agg (ss.map fun s => .lit (.string s.data.toList))

theorem cells_of_strings {H : Type} {enc : TypeId × Value → H} {P : Program} {w : World} {base : Nat} {sp : Nat → Bool} {held : Bool} {fuel : Nat} {t e : TypeId} {n : Nat} {cs : List Value} {ss : List ByteArray} {p : List MemPlace}
    (ht : P.underlying t = some (.array n e)) (he : P.underlying e = some .string) (hce : P.cellsOf e = 1) (hct : P.cellsOf t = n)
    (h : DataW.trod enc P w base sp held fuel t cs = some (strData ss, p)) : cs = ss.map fun s => Value.string s := by
  cases fuel with
  | zero => simp [DataW.trod] at h
  | succ fuel =>
    simp only [DataW.trod, ht, hce, hct, Nat.mul_one] at h
    split at h
    · rename_i hl
      obtain ⟨xs, hm, hx⟩ := Option.map_eq_some_iff.1 h
      have h1 : xs.map (·.1) = ss.map fun s => (DataW.lit (.string s.data.toList) : DataW H) := by
        have := congrArg Prod.fst hx
        simpa [strData] using this
      have h2 : xs.length = n := by simpa using Lib.mapM_length hm
      have h3 : ss.length = n := by
        have := congrArg List.length h1
        simp at this
        omega
      refine List.ext_getElem? fun i => ?_
      by_cases hi : i < n
      · obtain ⟨b, hb, hf⟩ := Lib.mapM_at hm i i (by simp [hi])
        obtain ⟨s, hc, rfl, _⟩ := DataW.trod_string he hf
        have g1 : cs[i]? = some (.string s) := by
          have := congrArg (·[0]?) hc
          simpa [List.getElem?_take, List.getElem?_drop] using this
        have g2 : (xs.map (·.1))[i]? = some (DataW.lit (.string s.data.toList) : DataW H) := by simp [hb]
        rw [h1] at g2
        simp only [List.getElem?_map, Option.map_eq_some_iff] at g2
        obtain ⟨s', hs', es⟩ := g2
        have : s' = s := by
          injection es with es
          injection es with es
          cases s'; cases s
          exact congrArg ByteArray.mk (Array.toList_inj.1 es)
        subst this
        simp [g1, hs']
      · rw [List.getElem?_eq_none (by omega), List.getElem?_eq_none (by simp; omega)]
    · cases h

theorem strs_of_head {P : Program} {W : World} {name : String} {ss : List ByteArray} {rest : List (String × DataW Unit)} {g : Nat} {t e : TypeId} {n : Nat}
    (hg : P.globalNamed name = some g) (hty : (P.globals[g]?).map (·.type) = some t) (ht : P.underlying t = some (.array n e)) (he : P.underlying e = some .string) (hce : P.cellsOf e = 1) (hct : P.cellsOf t = n)
    (h : laidMet P ((name, strData ss) :: rest) W) : W.var? P name = some (ss.map fun s => Value.string s).toArray := by
  obtain ⟨ps, ⟨g', t', cs, fuel, p, q, hg', ht', hvar, hd, _, _⟩, _⟩ := h
  obtain rfl := Option.some.inj (hg.symm.trans hg')
  obtain rfl := Option.some.inj (hty.symm.trans ht')
  rw [hvar, ← cells_of_strings ht he hce hct hd]

theorem gl_of_tabs {W : World} (h1 : Lib.TabIs Tryd.prog W "math/bits.deBruijn64tab" .u8 (Lib.deBruijn64tab.map fun n : Nat => (n : Int))) (h2 : Lib.TabIs Tryd.prog W "internal/strconv.uint64pow10" .u64 Lib.pow10Tab)
    (h3 : W.var? Tryd.prog "bombarde/noteset.letters" = some (letters.map fun s => Value.string s).toArray) : Gl W where
  size := by
    have h := h2
    unfold Lib.TabIs World.var? at h
    rw [show Tryd.prog.globalNamed "internal/strconv.uint64pow10" = some 2 by kernel_rfl] at h
    simp only [Option.bind_some] at h
    cases hh : W.heap[2]? with
    | none => rw [hh] at h; cases h
    | some o => have := (Array.getElem?_eq_some_iff.1 hh).1; omega
  tz := fun j hj => by
    have := h1.cell (g := 1) (by kernel_rfl) j (by simpa using hj)
    rw [this]
    simp [List.getD_eq_getElem?_getD, List.getElem?_map]
    rw [List.getElem?_eq_getElem hj]
    simp
  names := fun j v hv => by
    have := World.var?_cell (g := 0) (by kernel_rfl) h3 j
    rw [this]
    simp [hv]
  p10 := h2

theorem gl_of_laid {W : World} {d : DataW Unit} {nm : String} (h : laidMet Tryd.prog [(nm, d), ("math/bits.deBruijn64tab", Rows.laid_math_bits_deBruijn64tab), ("internal/strconv.uint64pow10", Rows.laid_internal_strconv_uint64pow10), ("bombarde/noteset.letters", Rows.laid_bombarde_noteset_letters)] W) : Gl W :=
  gl_of_tabs
    (Lib.tabIs_of_head (g := 1) (n := 64) (e := 5) (by kernel_rfl) rfl (by kernel_rfl) Tryd.underlying5 (by kernel_rfl) (by kernel_rfl) h.tail)
    (Lib.tabIs_of_head (g := 2) (n := 20) (e := 32) (by kernel_rfl) rfl (by kernel_rfl) Tryd.underlying32 (by kernel_rfl) (by kernel_rfl) h.tail.tail)
    (strs_of_head (g := 0) (n := 12) (e := 9) (ss := letters) (by kernel_rfl) rfl (by kernel_rfl) Tryd.underlying9 (by kernel_rfl) (by kernel_rfl) h.tail.tail.tail)
end Go.Proofs.YtibdnfcbgcbdeaaDoor
