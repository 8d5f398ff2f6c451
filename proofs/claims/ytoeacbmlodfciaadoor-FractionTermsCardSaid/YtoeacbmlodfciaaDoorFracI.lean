/- Described fractions are right; FractionSums: for every two described fractions the law returns true; no condition. -/
import Derived.Test.YtoeacbmlodfciaaDoorFracH
import Derived.Deep.RegionHeld3
namespace Go.Proofs.YtoeacbmlodfciaaDoor
open Go.RowKit

set_option maxHeartbeats 1000000 in
theorem small_any (p q : Int) (w : World) (h1 : -32768 ≤ p) (h2 : p ≤ 32767) (h3 : 0 ≤ q) (h4 : q ≤ 255) :
    Calls Tryd.prog 10 #[.agg #[.int .i16 p, .int .u8 q]] w fun e w' => e = .returned (.agg #[.int .i64 (FracMath.sn p q), .int .i64 (FracMath.sd p q)]) ∧ Below w.heap.size w w' := by
  have m := fun W => ref_make_any p (q + 1) W (by omega) (by omega) (by omega) (by omega)
  rw [FracMath.mk_small h1 h2 h3 h4] at m
  have M := Lib.hid m
  clear m
  generalize FracMath.sn p q = x at M ⊢
  generalize FracMath.sd p q = y at M ⊢
  go_enter Tryd.func10, Tryd.ntmps10
  go_wp2_with fail
  refine (M.out _).mono ?_
  rintro e w1 ⟨rfl, hb1⟩
  obtain ⟨r0, r1, rl, rf⟩ := (Two.new (w.alloc _) (.int .i64 0) (.int .i64 0) 27).below hb1
  simp at r0 r1 rl rf
  have hz1 := hb1.size
  simp at hz1
  go_wp2
  exact bodyPost_ret (v := .agg #[.int .i64 x, .int .i64 y]) (by simp [results, Tryd.results10, go_sem, r0, r1, rl]) rfl ⟨rfl, (((((((Below.refl _ _).alloc (Nat.le_refl _) _).alloc (by go_size) _).trans (hb1.mono (by go_size))).setCell (by go_size) _).setCell (by go_size) _).alloc (by go_size) _)⟩

theorem held_next {W w1 w2 : World} {B C : Nat} {x y z u : Value} (hb : Below W.heap.size W w2)
    (h : W.cell? ⟨B, 0, none⟩ = some x ∧ W.cell? ⟨B, 1, none⟩ = some y ∧ W.cell? ⟨C, 0, none⟩ = some z ∧ W.cell? ⟨C, 1, none⟩ = some u ∧ B < W.heap.size ∧ C < W.heap.size ∧ Below w1.heap.size w1 W) :
    w2.cell? ⟨B, 0, none⟩ = some x ∧ w2.cell? ⟨B, 1, none⟩ = some y ∧ w2.cell? ⟨C, 0, none⟩ = some z ∧ w2.cell? ⟨C, 1, none⟩ = some u ∧ B < w2.heap.size ∧ C < w2.heap.size ∧ Below w1.heap.size w1 w2 := by
  obtain ⟨h0, h1, h2, h3, h4, h5, h6⟩ := h
  have hz := hb.size
  exact ⟨(hb.cell (p := ⟨B, 0, none⟩) h4).trans h0, (hb.cell (p := ⟨B, 1, none⟩) h4).trans h1, (hb.cell (p := ⟨C, 0, none⟩) h5).trans h2, (hb.cell (p := ⟨C, 1, none⟩) h5).trans h3, by omega, by omega, h6.trans (hb.mono h6.size)⟩

theorem held_last {W w1 : World} {B C : Nat} {x y z u : Value}
    (h : W.cell? ⟨B, 0, none⟩ = some x ∧ W.cell? ⟨B, 1, none⟩ = some y ∧ W.cell? ⟨C, 0, none⟩ = some z ∧ W.cell? ⟨C, 1, none⟩ = some u ∧ B < W.heap.size ∧ C < W.heap.size ∧ Below w1.heap.size w1 W) : Below w1.heap.size w1 W := h.2.2.2.2.2.2

end Go.Proofs.YtoeacbmlodfciaaDoor
