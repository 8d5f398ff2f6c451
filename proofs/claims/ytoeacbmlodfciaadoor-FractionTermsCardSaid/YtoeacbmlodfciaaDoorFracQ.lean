/- FractionSimplest: for every two described fractions the law returns true; no condition. -/
import Derived.Test.YtoeacbmlodfciaaDoorFracI
import Derived.Test.YtoeacbmlodfciaaDoorFracS
import Derived.Deep.DeepCutAuto
namespace Go.Proofs.YtoeacbmlodfciaaDoor
open Go.RowKit

/-- a block of two cells that is only read -/
structure Rd (w : World) (b : Nat) (x y : Value) : Prop where
  fst : w.cell? ⟨b, 0, none⟩ = some x
  snd : w.cell? ⟨b, 1, none⟩ = some y
  lt : b < w.heap.size
theorem Rd.below {w w1 : World} {b : Nat} {x y : Value} (h : Rd w b x y) (hb : Below w.heap.size w w1) : Rd w1 b x y :=
  ⟨(hb.cell (p := ⟨b, 0, none⟩) h.lt).trans h.fst, (hb.cell (p := ⟨b, 1, none⟩) h.lt).trans h.snd, Nat.lt_of_lt_of_le h.lt hb.size⟩
theorem Rd.alloc {w : World} {b : Nat} {x y : Value} (h : Rd w b x y) (o : Obj) : Rd (w.alloc o) b x y :=
  h.below ((Below.refl _ _).alloc (Nat.le_refl _) o)
theorem Rd.new (w : World) (x y : Value) (T : TypeId) : Rd (w.alloc (.cells #[x, y] T)) w.heap.size x y := ⟨by simp, by simp, by simp⟩
theorem below_alloc {w1 W : World} {o : Obj} (h : Below w1.heap.size w1 W) : Below w1.heap.size w1 (W.alloc o) := h.alloc h.size o
theorem below_store {w1 W : World} {b i : Nat} {v : Value} (h : Below w1.heap.size w1 W) (hb : w1.heap.size ≤ b) : Below w1.heap.size w1 (W.setCell ⟨b, i, none⟩ v) := h.setCell (p := ⟨b, i, none⟩) hb v

end Go.Proofs.YtoeacbmlodfciaaDoor
