/- Described fractions are right; FractionSums: for every two described fractions the law returns true; no condition. -/
import Derived.Test.YtlfnhknnfajknabDoorFracH
import Derived.Deep.RegionHeld3
namespace Go.Proofs.YtlfnhknnfajknabDoor
open Go.RowKit

set_option maxHeartbeats 1000000 in
theorem small_any (p q : Int) (w : World) (h1 : -32768 ≤ p) (h2 : p ≤ 32767) (h3 : 0 ≤ q) (h4 : q ≤ 255) :
    Calls Tryd.prog 17 #[.agg #[.int .i16 p, .int .u8 q]] w fun e w' => e = .returned (.agg #[.int .i64 (FracMath.sn p q), .int .i64 (FracMath.sd p q)]) ∧ Below w.heap.size w w' := by
  have m := fun W => ref_make_any p (q + 1) W (by omega) (by omega) (by omega) (by omega)
  rw [FracMath.mk_small h1 h2 h3 h4] at m
  have M := Lib.hid m
  clear m
  generalize FracMath.sn p q = x at M ⊢
  generalize FracMath.sd p q = y at M ⊢
  go_enter Tryd.func17, Tryd.ntmps17
  go_wp2_with fail
  refine (M.out _).mono ?_
  rintro e w1 ⟨rfl, hb1⟩
  obtain ⟨r0, r1, rl, rf⟩ := (Two.new (w.alloc _) (.int .i64 0) (.int .i64 0) 28).below hb1
  simp at r0 r1 rl rf
  have hz1 := hb1.size
  simp at hz1
  go_wp2
  exact bodyPost_ret (v := .agg #[.int .i64 x, .int .i64 y]) (by simp [results, Tryd.results17, go_sem, r0, r1, rl]) rfl ⟨rfl, (((((((Below.refl _ _).alloc (Nat.le_refl _) _).alloc (by go_size) _).trans (hb1.mono (by go_size))).setCell (by go_size) _).setCell (by go_size) _).alloc (by go_size) _)⟩

theorem held_next {W w1 w2 : World} {B C : Nat} {x y z u : Value} (hb : Below W.heap.size W w2)
    (h : W.cell? ⟨B, 0, none⟩ = some x ∧ W.cell? ⟨B, 1, none⟩ = some y ∧ W.cell? ⟨C, 0, none⟩ = some z ∧ W.cell? ⟨C, 1, none⟩ = some u ∧ B < W.heap.size ∧ C < W.heap.size ∧ Below w1.heap.size w1 W) :
    w2.cell? ⟨B, 0, none⟩ = some x ∧ w2.cell? ⟨B, 1, none⟩ = some y ∧ w2.cell? ⟨C, 0, none⟩ = some z ∧ w2.cell? ⟨C, 1, none⟩ = some u ∧ B < w2.heap.size ∧ C < w2.heap.size ∧ Below w1.heap.size w1 w2 := by
  obtain ⟨h0, h1, h2, h3, h4, h5, h6⟩ := h
  have hz := hb.size
  exact ⟨(hb.cell (p := ⟨B, 0, none⟩) h4).trans h0, (hb.cell (p := ⟨B, 1, none⟩) h4).trans h1, (hb.cell (p := ⟨C, 0, none⟩) h5).trans h2, (hb.cell (p := ⟨C, 1, none⟩) h5).trans h3, by omega, by omega, h6.trans (hb.mono h6.size)⟩

theorem held_last {W w1 : World} {B C : Nat} {x y z u : Value}
    (h : W.cell? ⟨B, 0, none⟩ = some x ∧ W.cell? ⟨B, 1, none⟩ = some y ∧ W.cell? ⟨C, 0, none⟩ = some z ∧ W.cell? ⟨C, 1, none⟩ = some u ∧ B < W.heap.size ∧ C < W.heap.size ∧ Below w1.heap.size w1 W) : Below w1.heap.size w1 W := h.2.2.2.2.2.2

set_option maxHeartbeats 2000000 in
theorem fractionSums_walk (p q r s : Int) (w : World) (h1 : -32768 ≤ p) (h2 : p ≤ 32767) (h3 : 0 ≤ q) (h4 : q ≤ 255) (h5 : -32768 ≤ r) (h6 : r ≤ 32767) (h7 : 0 ≤ s) (h8 : s ≤ 255) :
    Calls Tryd.prog 3 #[.agg #[.int .i16 p, .int .u8 q], .agg #[.int .i16 r, .int .u8 s]] w fun e w' => e = .returned (.bool true) ∧ Below w.heap.size w w' := by
  have C := Lib.hid fun W => calculates_right (FracMath.sn p q) (FracMath.sd p q) (FracMath.sn r s) (FracMath.sd r s) W (FracMath.small_right h1 h2 h3 h4) (FracMath.small_right h5 h6 h7 h8)
  have X := Lib.hid fun W => small_any p q W h1 h2 h3 h4
  have Y := Lib.hid fun W => small_any r s W h5 h6 h7 h8
  go_enter Tryd.func3, Tryd.ntmps3
  go_wp2_with fail
  refine (known_any _).mono ?_
  rintro e w1 ⟨rfl, hb1⟩
  obtain ⟨a0, a1, al, _⟩ := ((Two.new w (.int .i16 p) (.int .u8 q) 24).alloc _).below hb1
  obtain ⟨b0, b1, bl, _⟩ := (Two.new (w.alloc _) (.int .i16 r) (.int .u8 s) 24).below hb1
  simp at b0 b1 bl
  have hz1 := hb1.size
  simp at hz1
  go_wp2
  go_region_held3 (fun w' => w'.cell? ⟨w.heap.size, 0, none⟩ = some (.int .i16 p) ∧ w'.cell? ⟨w.heap.size, 1, none⟩ = some (.int .u8 q) ∧ w'.cell? ⟨w.heap.size + 1, 0, none⟩ = some (.int .i16 r) ∧ w'.cell? ⟨w.heap.size + 1, 1, none⟩ = some (.int .u8 s) ∧ w.heap.size < w'.heap.size ∧ w.heap.size + 1 < w'.heap.size ∧ Below w1.heap.size w1 w') (first | exact ⟨a0, a1, b0, b1, al, bl, (Below.refl _ _).drew⟩ | (refine held_next hb2 ?_; assumption))
    (first | (go_at_call 16; refine (C.out _).mono ?_; rintro e w2 ⟨rfl, hb2⟩) | (go_at_call_of 17 (Value.agg #[.int .i16 p, .int .u8 q]); refine (X.out _).mono ?_; rintro e w2 ⟨rfl, hb2⟩) | (go_at_call 17; refine (Y.out _).mono ?_; rintro e w2 ⟨rfl, hb2⟩))
  go_wp2
  go_ret
  have hl : Below w1.heap.size w1 _ := held_last (B := w.heap.size) (C := w.heap.size + 1) (x := .int .i16 p) (y := .int .u8 q) (z := .int .i16 r) (u := .int .u8 s) (by assumption)
  exact ⟨rfl, ((((Below.refl _ _).alloc (Nat.le_refl _) _).alloc (by go_size) _).trans (hb1.mono (by go_size))).trans (hl.mono (by omega))⟩
end Go.Proofs.YtlfnhknnfajknabDoor
