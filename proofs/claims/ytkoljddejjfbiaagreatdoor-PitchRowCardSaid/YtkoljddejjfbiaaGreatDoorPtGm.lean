/- The usual feet, out of the listed variable. -/
import Derived.Test.YtkoljddejjfbiaaGreatDoorPtGl
import Derived.Test.YtkoljddejjfbiaaGreatDoorPtP
namespace Go.Proofs.YtkoljddejjfbiaaGreatDoor
open Go Go.RowKit Go.Shelf Go.ChangeShapes Go.WideShapes Go.ChangeAt Go.WideMaps Go.WideElems Go.Joins Go.Deep

theorem chunks {α : Type} (k : Nat) : ∀ (rs : List (List α)) (cs : List α), cs.length = rs.length * k → (∀ i r, rs[i]? = some r → (cs.drop (i * k)).take k = r) → cs = rs.flatten
  | [], cs, h, _ => by
    have : cs.length = 0 := by simpa using h
    simpa using List.length_eq_zero_iff.1 this
  | r :: rs, cs, h, hr => by
    have h0 := hr 0 r rfl
    rw [Nat.zero_mul, List.drop_zero] at h0
    have h1 : (cs.drop k).length = rs.length * k := by
      rw [List.length_drop, h, List.length_cons, Nat.add_mul, Nat.one_mul]
      omega
    have h2 := chunks k rs (cs.drop k) h1 (fun i r' hi => by
      have := hr (i + 1) r' (by simpa using hi)
      rw [List.drop_drop]
      rwa [show (i + 1) * k = k + i * k by rw [Nat.add_mul, Nat.one_mul, Nat.add_comm]] at this)
    rw [List.flatten_cons, ← h2, ← h0, List.take_append_drop]
theorem array_of_list {α : Type} {a : Array α} {l : List α} (h : a.toList = l) : a = l.toArray := by rw [← h, Array.toArray_toList]
def rowD (t : Int × Int × Int) : DataW Unit := .agg [.lit (.int .i64 t.1), .lit (.int .i64 t.2.1)]
def rowV (t : Int × Int × Int) : List Value := [.int .i64 t.1, .int .i64 t.2.1]
set_option maxRecDepth 100000 in
theorem usrow_of {W : World} {base : Nat} {sp : Nat → Bool} {held : Bool} {enc : TypeId × Value → Unit} {fuel : Nat} {cs : List Value} {r : Int × Int × Int} {p : List MemPlace}
    (h : DataW.trod enc Tryz.prog W base sp held fuel 23 cs = some (rowD r, p)) : cs = rowV r := by
  obtain ⟨y0, y1, n, hx, hl, h0, h1⟩ := trod_struct2 Tryz.underlying23 h
  rw [show Tryz.prog.cellsOf 23 = 2 by kernel_rfl] at hl
  match cs, hl with
  | [c0, c1], _ =>
  simp only [Prod.mk.injEq, rowD, DataW.agg.injEq, List.cons.injEq, and_true] at hx
  have e0 : DataW.trod enc Tryz.prog W base sp held n 3 [c0] = some y0 := h0
  have e1 : DataW.trod enc Tryz.prog W base sp held n 3 [c1] = some y1 := h1
  obtain ⟨a, f0, q0, _⟩ := DataW.trod_int Tryz.underlying3 e0
  obtain ⟨b, f1, q1, _⟩ := DataW.trod_int Tryz.underlying3 e1
  have g0 := hx.1.1
  have g1 := hx.1.2
  rw [q0] at g0
  rw [q1] at g1
  simp only [DataW.lit.injEq, Lit.int.injEq, true_and] at g0 g1
  simp only [List.cons.injEq, and_true] at f0 f1
  rw [f0, f1, ← g0, ← g1]
  rfl
set_option maxRecDepth 100000 in
theorem us_of_laid {W : World} {r : List (String × DataW Unit)} (h : laidMet Tryz.prog (("bombarde/pitch.usual", Rows.laid_bombarde_pitch_usual) :: r) W) : Us W := by
  obtain ⟨ps, ⟨g', t', cs, fuel, p, q, hg', ht', hvar, hd, _, _⟩, _⟩ := h
  obtain rfl := Option.some.inj ((show Tryz.prog.globalNamed "bombarde/pitch.usual" = some 0 by kernel_rfl).symm.trans hg')
  obtain rfl := Option.some.inj ((show (Tryz.prog.globals[0]?).map (·.type) = some 89 by kernel_rfl).symm.trans ht')
  obtain ⟨xs, m, rfl, hx, hl, hn, hi⟩ := DataW.trod_array Tryz.underlying89 hd
  have hD : (Rows.laid_bombarde_pitch_usual : DataW Unit) = .agg (us.map rowD) := by kernel_rfl
  rw [hD] at hx
  simp only [Prod.mk.injEq, DataW.agg.injEq] at hx
  have hcs : cs.toList = (us.map rowV).flatten := by
    refine chunks 2 _ _ (by rw [hl]; kernel_rfl) fun i r hr => ?_
    rw [List.getElem?_map] at hr
    cases hk : us[i]? with
    | none => rw [hk] at hr; cases hr
    | some rr =>
      rw [hk] at hr
      simp only [Option.map_some, Option.some.injEq] at hr
      have hi22 : i < 22 := (List.getElem?_eq_some_iff.1 hk).1
      have hxi := hi i hi22
      rw [show Tryz.prog.cellsOf 23 = 2 by kernel_rfl] at hxi
      have hm : (xs.map (·.1))[i]? = some (rowD rr) := by rw [← hx.1, List.getElem?_map, hk]; rfl
      rw [List.getElem?_map] at hm
      cases hq : xs[i]? with
      | none => rw [hq] at hm; cases hm
      | some y =>
        rw [hq] at hm hxi
        simp only [Option.map_some, Option.some.injEq] at hm
        rw [← hr]
        obtain ⟨y1, y2⟩ := y
        simp only at hm
        subst hm
        exact usrow_of hxi
  have hC : cs = usC := by rw [array_of_list hcs]; kernel_rfl
  unfold World.var? at hvar
  rw [show Tryz.prog.globalNamed "bombarde/pitch.usual" = some 0 by kernel_rfl] at hvar
  simp only [Option.bind_some] at hvar
  unfold Us
  split at hvar
  · rename_i c t fr hh
    cases hvar
    exact ⟨_, _, by rw [hh, hC]⟩
  · cases hvar
end Go.Proofs.YtkoljddejjfbiaaGreatDoor
