/- divideMagnitudes: the three arms together. -/
import Derived.Test.YtnchodofgaaeeaaGreatDoorImP5
namespace Go.Proofs.YtnchodofgaaeeaaGreatDoor
open Go Go.RowKit Go.Shelf

theorem divM_any (sx : Option Addr) (cx bx ox X : Nat) (sy : Option Addr) (cpy by_ oy Y : Nat) (hY : 0 < Y) (w : World) (hx : Row w sx (nd X) cx bx ox X) (hy : Row w sy (nd Y) cpy by_ oy Y) (hn : nd X ≤ 300000) :
    Calls Tryz.prog 77 #[.slice sx (nd X) cx, .slice sy (nd Y) cpy] w fun e w' => (∃ v1 v2, e = .returned (.tuple #[v1, v2]) ∧ Mag w' v1 (X / Y) ∧ Mag w' v2 (X % Y)) ∧ Below w.heap.size w w' := by
  have h1 : 1 ≤ nd Y := by have := Im.nd_pos bb2 hY; unfold nd; omega
  by_cases hl : nd X < nd Y
  · exact divM_less sx cx bx ox X sy cpy by_ oy Y hl w hx (by omega)
  · by_cases h2 : nd Y = 1
    · exact divM_one sx cx bx ox X sy cpy by_ oy Y h2 (by omega) w hx hy (by omega)
    · exact divM_long sx cx bx ox X sy cpy by_ oy Y (nd Y - 2) (nd X - nd Y) (by omega) (by omega) w hx hy hn
end Go.Proofs.YtnchodofgaaeeaaGreatDoor
