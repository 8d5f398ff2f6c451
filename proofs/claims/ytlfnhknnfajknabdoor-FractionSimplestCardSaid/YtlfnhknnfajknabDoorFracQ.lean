/- FractionSimplest: for every two described fractions the law returns true; no condition. -/
import Derived.Test.YtlfnhknnfajknabDoorFracI
import Derived.Test.YtlfnhknnfajknabDoorFracS
import Derived.Deep.DeepCutAuto
namespace Go.Proofs.YtlfnhknnfajknabDoor
open Go.RowKit

/-- a block of two cells that is only read -/
structure Rd (w : World) (b : Nat) (x y : Value) : Prop where
  fst : w.cell? ⟨b, 0, none⟩ = some x
  snd : w.cell? ⟨b, 1, none⟩ = some y
  lt : b < w.heap.size
theorem Rd.below {w w1 : World} {b : Nat} {x y : Value} (h : Rd w b x y) (hb : Below w.heap.size w w1) : Rd w1 b x y :=
  ⟨(hb.cell (p := ⟨b, 0, none⟩) h.lt).trans h.fst, (hb.cell (p := ⟨b, 1, none⟩) h.lt).trans h.snd, Nat.lt_of_lt_of_le h.lt hb.size⟩
theorem Rd.alloc {w : World} {b : Nat} {x y : Value} (h : Rd w b x y) (o : Obj) : Rd (w.alloc o) b x y :=
  h.below ((Below.refl _ _).alloc (Nat.le_refl _) o)
theorem Rd.new (w : World) (x y : Value) (T : TypeId) : Rd (w.alloc (.cells #[x, y] T)) w.heap.size x y := ⟨by simp, by simp, by simp⟩
theorem below_alloc {w1 W : World} {o : Obj} (h : Below w1.heap.size w1 W) : Below w1.heap.size w1 (W.alloc o) := h.alloc h.size o
theorem below_store {w1 W : World} {b i : Nat} {v : Value} (h : Below w1.heap.size w1 W) (hb : w1.heap.size ≤ b) : Below w1.heap.size w1 (W.setCell ⟨b, i, none⟩ v) := h.setCell (p := ⟨b, i, none⟩) hb v

set_option maxHeartbeats 4000000 in
theorem simplestLaw_order (p q r s a b c d : Int) (w : World) 
    (hX : ∀ W : World, Calls Tryd.prog 17 #[.agg #[.int .i16 p, .int .u8 q]] W fun e w' => e = .returned (.agg #[.int .i64 a, .int .i64 b]) ∧ Below W.heap.size W w')
    (hY : ∀ W : World, Calls Tryd.prog 17 #[.agg #[.int .i16 r, .int .u8 s]] W fun e w' => e = .returned (.agg #[.int .i64 c, .int .i64 d]) ∧ Below W.heap.size W w')
    (hS : ∀ W : World, Calls Tryd.prog 31 #[.agg #[.int .i64 a, .int .i64 b], .agg #[.int .i64 c, .int .i64 d]] W fun e w' => e = .returned (.tuple #[.agg #[.int .i64 0, .int .i64 0], .int .i64 6]) ∧ Below W.heap.size W w')
    (hO : ∀ W : World, Calls Tryd.prog 31 #[.agg #[.int .i64 a, .int .i64 b], .agg #[.int .i64 a, .int .i64 b]] W fun e w' => e = .returned (.tuple #[.agg #[.int .i64 a, .int .i64 b], .int .i64 0]) ∧ Below W.heap.size W w')
    (hK : ∀ W : World, Calls Tryd.prog 22 #[.agg #[.int .i64 a, .int .i64 b], .agg #[.int .i64 c, .int .i64 d]] W fun e w' => e = .returned (.int .i64 1) ∧ Below W.heap.size W w') :
    Calls Tryd.prog 8 #[.agg #[.int .i16 p, .int .u8 q], .agg #[.int .i16 r, .int .u8 s]] w fun e w' => e = .returned (.bool true) ∧ Below w.heap.size w w' := by
  have X := Lib.hid hX
  have Y := Lib.hid hY
  have S := Lib.hid hS
  have O := Lib.hid hO
  have K := Lib.hid hK
  clear hX hY hS hO hK
  go_enter Tryd.func8, Tryd.ntmps8
  go_wp2_with fail
  refine (known_any _).mono ?_
  rintro e w1 ⟨rfl, hb1⟩
  obtain ⟨a0, a1, al, _⟩ := ((Two.new w (.int .i16 p) (.int .u8 q) 24).alloc _).below hb1
  obtain ⟨b0, b1, bl, _⟩ := (Two.new (w.alloc _) (.int .i16 r) (.int .u8 s) 24).below hb1
  simp at b0 b1 bl
  have hz1 := hb1.size
  simp at hz1
  have HS := Lib.hid (show ∀ W : World, Below w1.heap.size w1 W → (W.cell? ⟨w.heap.size, 0, none⟩ = some (.int .i16 p) ∧ W.cell? ⟨w.heap.size, 1, none⟩ = some (.int .u8 q) ∧ W.cell? ⟨w.heap.size + 1, 0, none⟩ = some (.int .i16 r) ∧ W.cell? ⟨w.heap.size + 1, 1, none⟩ = some (.int .u8 s) ∧ Below w1.heap.size w1 W) from fun W hW => ⟨(hW.cell (p := ⟨w.heap.size, 0, none⟩) al).trans a0, (hW.cell (p := ⟨w.heap.size, 1, none⟩) al).trans a1, (hW.cell (p := ⟨w.heap.size + 1, 0, none⟩) bl).trans b0, (hW.cell (p := ⟨w.heap.size + 1, 1, none⟩) bl).trans b1, hW⟩)
  have HL := Lib.hid (show ∀ W : World, (W.cell? ⟨w.heap.size, 0, none⟩ = some (.int .i16 p) ∧ W.cell? ⟨w.heap.size, 1, none⟩ = some (.int .u8 q) ∧ W.cell? ⟨w.heap.size + 1, 0, none⟩ = some (.int .i16 r) ∧ W.cell? ⟨w.heap.size + 1, 1, none⟩ = some (.int .u8 s) ∧ Below w1.heap.size w1 W) → Below w1.heap.size w1 W from fun W h => h.2.2.2.2)
  have HN := Lib.hid (show ∀ W W' : World, Below W.heap.size W W' → (W.cell? ⟨w.heap.size, 0, none⟩ = some (.int .i16 p) ∧ W.cell? ⟨w.heap.size, 1, none⟩ = some (.int .u8 q) ∧ W.cell? ⟨w.heap.size + 1, 0, none⟩ = some (.int .i16 r) ∧ W.cell? ⟨w.heap.size + 1, 1, none⟩ = some (.int .u8 s) ∧ Below w1.heap.size w1 W) → Below w1.heap.size w1 W' from fun W W' hb h => h.2.2.2.2.trans (hb.mono h.2.2.2.2.size))
  have t2 : ∀ n : Nat, n < n + 1 + 1 := fun n => by omega
  go_upto_region 3 with fail
  go_cut [5, 6] (fun s5 s6 wx => ∃ x y : Nat, s5 = .pointer (some ⟨x, 0, none⟩) ∧ s6 = .pointer (some ⟨y, 0, none⟩) ∧ Rd wx x (.int .i64 a) (.int .i64 b) ∧ Rd wx y (.int .i64 c) (.int .i64 d) ∧ Below w1.heap.size w1 wx)
  case first =>
    go_region_held3 (fun w' => w'.cell? ⟨w.heap.size, 0, none⟩ = some (.int .i16 p) ∧ w'.cell? ⟨w.heap.size, 1, none⟩ = some (.int .u8 q) ∧ w'.cell? ⟨w.heap.size + 1, 0, none⟩ = some (.int .i16 r) ∧ w'.cell? ⟨w.heap.size + 1, 1, none⟩ = some (.int .u8 s) ∧ Below w1.heap.size w1 w') ((refine HS.out _ ?_; (repeat' (first | (with_reducible exact hB3) | (with_reducible exact hB2) | (with_reducible exact (Below.refl _ _).drew) | (with_reducible exact Below.refl _ _) | (with_reducible refine Below.drew ?_) | (with_reducible refine below_store ?_ ?_) | (with_reducible refine below_alloc ?_))); all_goals (first | (with_reducible exact z3) | (with_reducible exact z2) | (with_reducible exact Nat.le_refl _) | (with_reducible exact Nat.le_succ_of_le z3) | (with_reducible exact Nat.le_succ_of_le z2) | (with_reducible exact Nat.le_succ _))))
      (first | (go_at_call_of 17 (Value.agg #[.int .i16 p, .int .u8 q]); refine (X.out _).mono ?_; rintro e w2 ⟨rfl, hb2⟩; have hB2 := HN.out _ _ hb2 (by assumption); have z2 := hB2.size; obtain ⟨hc2, hf2⟩ := bcell hb2; (try (have e20a := hc2 (w1.heap.size) 0 (by go_size); have e20b := hc2 (w1.heap.size) 1 (by go_size); have e20f := hf2 (w1.heap.size) 0 (by go_size); have e20g := hf2 (w1.heap.size) 1 (by go_size); have e20l : w1.heap.size < w2.heap.size := by (have hh := hb2.size; (try simp at hh); omega))); (try simp at e20a e20b e20f e20g); (try (have e21a := hc2 (w1.heap.size + 1) 0 (by go_size); have e21b := hc2 (w1.heap.size + 1) 1 (by go_size); have e21f := hf2 (w1.heap.size + 1) 0 (by go_size); have e21g := hf2 (w1.heap.size + 1) 1 (by go_size); have e21l : w1.heap.size + 1 < w2.heap.size := by (have hh := hb2.size; (try simp at hh); omega))); (try simp at e21a e21b e21f e21g); clear hc2 hf2) | (go_at_call 17; refine (Y.out _).mono ?_; rintro e w3 ⟨rfl, hb3⟩; have hB3 := HN.out _ _ hb3 (by assumption); have z3 := hB3.size; obtain ⟨hc3, hf3⟩ := bcell hb3; (try (have e30a := hc3 (w1.heap.size) 0 (by go_size); have e30b := hc3 (w1.heap.size) 1 (by go_size); have e30f := hf3 (w1.heap.size) 0 (by go_size); have e30g := hf3 (w1.heap.size) 1 (by go_size); have e30l : w1.heap.size < w3.heap.size := by (have hh := hb3.size; (try simp at hh); omega))); (try simp at e30a e30b e30f e30g); (try (have e31a := hc3 (w1.heap.size + 1) 0 (by go_size); have e31b := hc3 (w1.heap.size + 1) 1 (by go_size); have e31f := hf3 (w1.heap.size + 1) 0 (by go_size); have e31g := hf3 (w1.heap.size + 1) 1 (by go_size); have e31l : w1.heap.size + 1 < w3.heap.size := by (have hh := hb3.size; (try simp at hh); omega))); (try simp at e31a e31b e31f e31g); (try (have e32a := hc3 (w2.heap.size) 0 (by go_size); have e32b := hc3 (w2.heap.size) 1 (by go_size); have e32f := hf3 (w2.heap.size) 0 (by go_size); have e32g := hf3 (w2.heap.size) 1 (by go_size); have e32l : w2.heap.size < w3.heap.size := by (have hh := hb3.size; (try simp at hh); omega))); (try simp at e32a e32b e32f e32g); (try (have e33a := hc3 (w2.heap.size + 1) 0 (by go_size); have e33b := hc3 (w2.heap.size + 1) 1 (by go_size); have e33f := hf3 (w2.heap.size + 1) 0 (by go_size); have e33g := hf3 (w2.heap.size + 1) 1 (by go_size); have e33l : w2.heap.size + 1 < w3.heap.size := by (have hh := hb3.size; (try simp at hh); omega))); (try simp at e33a e33b e33f e33g); clear hc3 hf3))
    all_goals (go_wp2_with fail; go_meet; refine ⟨_, _, rfl, rfl, ⟨?_, ?_, ?_⟩, ⟨?_, ?_, ?_⟩, ?_⟩)
    all_goals (first | (exact HL.out _ (by assumption)) | go_size | (go_simp; done) | (simp [*]; done))
  case rest =>
    obtain ⟨x, y, rfl, rfl, X0, Y0, hB⟩ := hcut
    have xa := X0.fst
    have xb := X0.snd
    have xl := X0.lt
    have ya := Y0.fst
    have yb := Y0.snd
    have yl := Y0.lt
    have hzB := hB.size
    go_wp2_with fail
    refine (S.out _).mono ?_
    rintro e w4 ⟨rfl, hb4⟩
    have hz4 := hb4.size
    have X4 := (X0).below hb4
    have Y4 := (Y0).below hb4
    clear xa xb xl ya yb yl
    have xa := X4.fst
    have xb := X4.snd
    have xl := X4.lt
    have ya := Y4.fst
    have yb := Y4.snd
    have yl := Y4.lt
    go_wp2_with fail
    refine (O.out _).mono ?_
    rintro e w5 ⟨rfl, hb5⟩
    have hz5 := hb5.size
    simp only [World.size_alloc] at hz5
    have X5 := (X4.alloc _).below hb5
    have Y5 := (Y4.alloc _).below hb5
    have Z5 := (Rd.new w4 (.int .i64 0) (.int .i64 0) 28).below hb5
    clear xa xb xl ya yb yl
    have xa := X5.fst
    have xb := X5.snd
    have xl := X5.lt
    have ya := Y5.fst
    have yb := Y5.snd
    have yl := Y5.lt
    have za := Z5.fst
    have zb := Z5.snd
    have zl := Z5.lt
    go_wp2_with fail
    refine (K.out _).mono ?_
    rintro e w6 ⟨rfl, hb6⟩
    have hz6 := hb6.size
    simp only [World.size_alloc] at hz6
    have X6 := (X5.alloc _).below hb6
    have Y6 := (Y5.alloc _).below hb6
    have Z6 := (Z5.alloc _).below hb6
    clear xa xb xl ya yb yl za zb zl
    have xa := X6.fst
    have xb := X6.snd
    have xl := X6.lt
    have ya := Y6.fst
    have yb := Y6.snd
    have yl := Y6.lt
    have za := Z6.fst
    have zb := Z6.snd
    have zl := Z6.lt
    go_wp2
    go_ret
    exact ⟨rfl, (((((((((Below.refl _ _).alloc (Nat.le_refl _) _).alloc (by go_size) _).trans (hb1.mono (by go_size))).trans (hB.mono (by omega))).trans (hb4.mono (by omega))).alloc (by omega) _).trans (hb5.mono (by go_size))).alloc (by omega) _).trans (hb6.mono (by go_size))⟩

set_option maxHeartbeats 4000000 in
theorem simplestLaw_ok (p q r s a b c d m0 m1 v : Int) (w : World) (hv : v ≤ 0)
    (hX : ∀ W : World, Calls Tryd.prog 17 #[.agg #[.int .i16 p, .int .u8 q]] W fun e w' => e = .returned (.agg #[.int .i64 a, .int .i64 b]) ∧ Below W.heap.size W w')
    (hY : ∀ W : World, Calls Tryd.prog 17 #[.agg #[.int .i16 r, .int .u8 s]] W fun e w' => e = .returned (.agg #[.int .i64 c, .int .i64 d]) ∧ Below W.heap.size W w')
    (hS : ∀ W : World, Calls Tryd.prog 31 #[.agg #[.int .i64 a, .int .i64 b], .agg #[.int .i64 c, .int .i64 d]] W fun e w' => e = .returned (.tuple #[.agg #[.int .i64 m0, .int .i64 m1], .int .i64 0]) ∧ Below W.heap.size W w')
    (hO : ∀ W : World, Calls Tryd.prog 31 #[.agg #[.int .i64 a, .int .i64 b], .agg #[.int .i64 a, .int .i64 b]] W fun e w' => e = .returned (.tuple #[.agg #[.int .i64 a, .int .i64 b], .int .i64 0]) ∧ Below W.heap.size W w')
    (hK : ∀ W : World, Calls Tryd.prog 22 #[.agg #[.int .i64 a, .int .i64 b], .agg #[.int .i64 c, .int .i64 d]] W fun e w' => e = .returned (.int .i64 v) ∧ Below W.heap.size W w')
    (hR : ∀ W : World, Calls Tryd.prog 32 #[.agg #[.int .i64 a, .int .i64 b], .agg #[.int .i64 c, .int .i64 d]] W fun e w' => e = .returned (.agg #[.int .i64 m0, .int .i64 m1]) ∧ Below W.heap.size W w') :
    Calls Tryd.prog 8 #[.agg #[.int .i16 p, .int .u8 q], .agg #[.int .i16 r, .int .u8 s]] w fun e w' => e = .returned (.bool true) ∧ Below w.heap.size w w' := by
  have X := Lib.hid hX
  have Y := Lib.hid hY
  have S := Lib.hid hS
  have O := Lib.hid hO
  have K := Lib.hid hK
  have R := Lib.hid hR
  clear hR
  clear hX hY hS hO hK
  go_enter Tryd.func8, Tryd.ntmps8
  go_wp2_with fail
  refine (known_any _).mono ?_
  rintro e w1 ⟨rfl, hb1⟩
  obtain ⟨a0, a1, al, _⟩ := ((Two.new w (.int .i16 p) (.int .u8 q) 24).alloc _).below hb1
  obtain ⟨b0, b1, bl, _⟩ := (Two.new (w.alloc _) (.int .i16 r) (.int .u8 s) 24).below hb1
  simp at b0 b1 bl
  have hz1 := hb1.size
  simp at hz1
  have HS := Lib.hid (show ∀ W : World, Below w1.heap.size w1 W → (W.cell? ⟨w.heap.size, 0, none⟩ = some (.int .i16 p) ∧ W.cell? ⟨w.heap.size, 1, none⟩ = some (.int .u8 q) ∧ W.cell? ⟨w.heap.size + 1, 0, none⟩ = some (.int .i16 r) ∧ W.cell? ⟨w.heap.size + 1, 1, none⟩ = some (.int .u8 s) ∧ Below w1.heap.size w1 W) from fun W hW => ⟨(hW.cell (p := ⟨w.heap.size, 0, none⟩) al).trans a0, (hW.cell (p := ⟨w.heap.size, 1, none⟩) al).trans a1, (hW.cell (p := ⟨w.heap.size + 1, 0, none⟩) bl).trans b0, (hW.cell (p := ⟨w.heap.size + 1, 1, none⟩) bl).trans b1, hW⟩)
  have HL := Lib.hid (show ∀ W : World, (W.cell? ⟨w.heap.size, 0, none⟩ = some (.int .i16 p) ∧ W.cell? ⟨w.heap.size, 1, none⟩ = some (.int .u8 q) ∧ W.cell? ⟨w.heap.size + 1, 0, none⟩ = some (.int .i16 r) ∧ W.cell? ⟨w.heap.size + 1, 1, none⟩ = some (.int .u8 s) ∧ Below w1.heap.size w1 W) → Below w1.heap.size w1 W from fun W h => h.2.2.2.2)
  have HN := Lib.hid (show ∀ W W' : World, Below W.heap.size W W' → (W.cell? ⟨w.heap.size, 0, none⟩ = some (.int .i16 p) ∧ W.cell? ⟨w.heap.size, 1, none⟩ = some (.int .u8 q) ∧ W.cell? ⟨w.heap.size + 1, 0, none⟩ = some (.int .i16 r) ∧ W.cell? ⟨w.heap.size + 1, 1, none⟩ = some (.int .u8 s) ∧ Below w1.heap.size w1 W) → Below w1.heap.size w1 W' from fun W W' hb h => h.2.2.2.2.trans (hb.mono h.2.2.2.2.size))
  have t2 : ∀ n : Nat, n < n + 1 + 1 := fun n => by omega
  go_upto_region 3 with fail
  go_cut [5, 6] (fun s5 s6 wx => ∃ x y : Nat, s5 = .pointer (some ⟨x, 0, none⟩) ∧ s6 = .pointer (some ⟨y, 0, none⟩) ∧ Rd wx x (.int .i64 a) (.int .i64 b) ∧ Rd wx y (.int .i64 c) (.int .i64 d) ∧ Below w1.heap.size w1 wx)
  case first =>
    go_region_held3 (fun w' => w'.cell? ⟨w.heap.size, 0, none⟩ = some (.int .i16 p) ∧ w'.cell? ⟨w.heap.size, 1, none⟩ = some (.int .u8 q) ∧ w'.cell? ⟨w.heap.size + 1, 0, none⟩ = some (.int .i16 r) ∧ w'.cell? ⟨w.heap.size + 1, 1, none⟩ = some (.int .u8 s) ∧ Below w1.heap.size w1 w') ((refine HS.out _ ?_; (repeat' (first | (with_reducible exact hB3) | (with_reducible exact hB2) | (with_reducible exact (Below.refl _ _).drew) | (with_reducible exact Below.refl _ _) | (with_reducible refine Below.drew ?_) | (with_reducible refine below_store ?_ ?_) | (with_reducible refine below_alloc ?_))); all_goals (first | (with_reducible exact z3) | (with_reducible exact z2) | (with_reducible exact Nat.le_refl _) | (with_reducible exact Nat.le_succ_of_le z3) | (with_reducible exact Nat.le_succ_of_le z2) | (with_reducible exact Nat.le_succ _))))
      (first | (go_at_call_of 17 (Value.agg #[.int .i16 p, .int .u8 q]); refine (X.out _).mono ?_; rintro e w2 ⟨rfl, hb2⟩; have hB2 := HN.out _ _ hb2 (by assumption); have z2 := hB2.size; obtain ⟨hc2, hf2⟩ := bcell hb2; (try (have e20a := hc2 (w1.heap.size) 0 (by go_size); have e20b := hc2 (w1.heap.size) 1 (by go_size); have e20f := hf2 (w1.heap.size) 0 (by go_size); have e20g := hf2 (w1.heap.size) 1 (by go_size); have e20l : w1.heap.size < w2.heap.size := by (have hh := hb2.size; (try simp at hh); omega))); (try simp at e20a e20b e20f e20g); (try (have e21a := hc2 (w1.heap.size + 1) 0 (by go_size); have e21b := hc2 (w1.heap.size + 1) 1 (by go_size); have e21f := hf2 (w1.heap.size + 1) 0 (by go_size); have e21g := hf2 (w1.heap.size + 1) 1 (by go_size); have e21l : w1.heap.size + 1 < w2.heap.size := by (have hh := hb2.size; (try simp at hh); omega))); (try simp at e21a e21b e21f e21g); clear hc2 hf2) | (go_at_call 17; refine (Y.out _).mono ?_; rintro e w3 ⟨rfl, hb3⟩; have hB3 := HN.out _ _ hb3 (by assumption); have z3 := hB3.size; obtain ⟨hc3, hf3⟩ := bcell hb3; (try (have e30a := hc3 (w1.heap.size) 0 (by go_size); have e30b := hc3 (w1.heap.size) 1 (by go_size); have e30f := hf3 (w1.heap.size) 0 (by go_size); have e30g := hf3 (w1.heap.size) 1 (by go_size); have e30l : w1.heap.size < w3.heap.size := by (have hh := hb3.size; (try simp at hh); omega))); (try simp at e30a e30b e30f e30g); (try (have e31a := hc3 (w1.heap.size + 1) 0 (by go_size); have e31b := hc3 (w1.heap.size + 1) 1 (by go_size); have e31f := hf3 (w1.heap.size + 1) 0 (by go_size); have e31g := hf3 (w1.heap.size + 1) 1 (by go_size); have e31l : w1.heap.size + 1 < w3.heap.size := by (have hh := hb3.size; (try simp at hh); omega))); (try simp at e31a e31b e31f e31g); (try (have e32a := hc3 (w2.heap.size) 0 (by go_size); have e32b := hc3 (w2.heap.size) 1 (by go_size); have e32f := hf3 (w2.heap.size) 0 (by go_size); have e32g := hf3 (w2.heap.size) 1 (by go_size); have e32l : w2.heap.size < w3.heap.size := by (have hh := hb3.size; (try simp at hh); omega))); (try simp at e32a e32b e32f e32g); (try (have e33a := hc3 (w2.heap.size + 1) 0 (by go_size); have e33b := hc3 (w2.heap.size + 1) 1 (by go_size); have e33f := hf3 (w2.heap.size + 1) 0 (by go_size); have e33g := hf3 (w2.heap.size + 1) 1 (by go_size); have e33l : w2.heap.size + 1 < w3.heap.size := by (have hh := hb3.size; (try simp at hh); omega))); (try simp at e33a e33b e33f e33g); clear hc3 hf3))
    all_goals (go_wp2_with fail; go_meet; refine ⟨_, _, rfl, rfl, ⟨?_, ?_, ?_⟩, ⟨?_, ?_, ?_⟩, ?_⟩)
    all_goals (first | (exact HL.out _ (by assumption)) | go_size | (go_simp; done) | (simp [*]; done))
  case rest =>
    obtain ⟨x, y, rfl, rfl, X0, Y0, hB⟩ := hcut
    have xa := X0.fst
    have xb := X0.snd
    have xl := X0.lt
    have ya := Y0.fst
    have yb := Y0.snd
    have yl := Y0.lt
    have hzB := hB.size
    go_wp2_with fail
    refine (S.out _).mono ?_
    rintro e w4 ⟨rfl, hb4⟩
    have hz4 := hb4.size
    have X4 := (X0).below hb4
    have Y4 := (Y0).below hb4
    clear xa xb xl ya yb yl
    have xa := X4.fst
    have xb := X4.snd
    have xl := X4.lt
    have ya := Y4.fst
    have yb := Y4.snd
    have yl := Y4.lt
    go_wp2_with fail
    refine (O.out _).mono ?_
    rintro e w5 ⟨rfl, hb5⟩
    have hz5 := hb5.size
    simp only [World.size_alloc] at hz5
    have X5 := (X4.alloc _).below hb5
    have Y5 := (Y4.alloc _).below hb5
    have Z5 := (Rd.new w4 (.int .i64 m0) (.int .i64 m1) 28).below hb5
    clear xa xb xl ya yb yl
    have xa := X5.fst
    have xb := X5.snd
    have xl := X5.lt
    have ya := Y5.fst
    have yb := Y5.snd
    have yl := Y5.lt
    have za := Z5.fst
    have zb := Z5.snd
    have zl := Z5.lt
    go_wp2_with fail
    refine (K.out _).mono ?_
    rintro e w6 ⟨rfl, hb6⟩
    have hz6 := hb6.size
    simp only [World.size_alloc] at hz6
    have X6 := (X5.alloc _).below hb6
    have Y6 := (Y5.alloc _).below hb6
    have Z6 := (Z5.alloc _).below hb6
    clear xa xb xl ya yb yl za zb zl
    have xa := X6.fst
    have xb := X6.snd
    have xl := X6.lt
    have ya := Y6.fst
    have yb := Y6.snd
    have yl := Y6.lt
    have za := Z6.fst
    have zb := Z6.snd
    have zl := Z6.lt
    have GS := Lib.hid (show ∀ W : World, Below w6.heap.size w6 W → (W.cell? ⟨w4.heap.size, 0, none⟩ = some (.int .i64 m0) ∧ W.cell? ⟨w4.heap.size, 1, none⟩ = some (.int .i64 m1) ∧ W.cell? ⟨x, 0, none⟩ = some (.int .i64 a) ∧ W.cell? ⟨x, 1, none⟩ = some (.int .i64 b) ∧ W.cell? ⟨y, 0, none⟩ = some (.int .i64 c) ∧ W.cell? ⟨y, 1, none⟩ = some (.int .i64 d) ∧ Below w6.heap.size w6 W) from fun W hW => ⟨(hW.cell (p := ⟨w4.heap.size, 0, none⟩) zl).trans za, (hW.cell (p := ⟨w4.heap.size, 1, none⟩) zl).trans zb, (hW.cell (p := ⟨x, 0, none⟩) xl).trans xa, (hW.cell (p := ⟨x, 1, none⟩) xl).trans xb, (hW.cell (p := ⟨y, 0, none⟩) yl).trans ya, (hW.cell (p := ⟨y, 1, none⟩) yl).trans yb, hW⟩)
    have GL := Lib.hid (show ∀ W : World, (W.cell? ⟨w4.heap.size, 0, none⟩ = some (.int .i64 m0) ∧ W.cell? ⟨w4.heap.size, 1, none⟩ = some (.int .i64 m1) ∧ W.cell? ⟨x, 0, none⟩ = some (.int .i64 a) ∧ W.cell? ⟨x, 1, none⟩ = some (.int .i64 b) ∧ W.cell? ⟨y, 0, none⟩ = some (.int .i64 c) ∧ W.cell? ⟨y, 1, none⟩ = some (.int .i64 d) ∧ Below w6.heap.size w6 W) → Below w6.heap.size w6 W from fun W h => h.2.2.2.2.2.2)
    go_wp2
    go_region_held3 (fun w' => w'.cell? ⟨w4.heap.size, 0, none⟩ = some (.int .i64 m0) ∧ w'.cell? ⟨w4.heap.size, 1, none⟩ = some (.int .i64 m1) ∧ w'.cell? ⟨x, 0, none⟩ = some (.int .i64 a) ∧ w'.cell? ⟨x, 1, none⟩ = some (.int .i64 b) ∧ w'.cell? ⟨y, 0, none⟩ = some (.int .i64 c) ∧ w'.cell? ⟨y, 1, none⟩ = some (.int .i64 d) ∧ Below w6.heap.size w6 w') (first | exact GS.out _ (Below.refl _ _).drew | exact GS.out _ hB7)
      (first | (go_at_call 32; refine (R.out _).mono ?_; rintro e w7 ⟨rfl, hb7⟩; have hB7 : Below w6.heap.size w6 w7 := Below.trans (Below.refl _ _).drew hb7))
    all_goals (go_wp2; go_ret; exact ⟨rfl, ((((((((((Below.refl _ _).alloc (Nat.le_refl _) _).alloc (by go_size) _).trans (hb1.mono (by go_size))).trans (hB.mono (by omega))).trans (hb4.mono (by omega))).alloc (by omega) _).trans (hb5.mono (by go_size))).alloc (by omega) _).trans (hb6.mono (by go_size))).trans ((GL.out _ (by assumption)).mono (by omega))⟩)

theorem fractionSimplest_walk (p q r s : Int) (w : World) (h1 : -32768 ≤ p) (h2 : p ≤ 32767) (h3 : 0 ≤ q) (h4 : q ≤ 255) (h5 : -32768 ≤ r) (h6 : r ≤ 32767) (h7 : 0 ≤ s) (h8 : s ≤ 255) :
    Calls Tryd.prog 8 #[.agg #[.int .i16 p, .int .u8 q], .agg #[.int .i16 r, .int .u8 s]] w fun e w' => e = .returned (.bool true) ∧ Below w.heap.size w w' := by
  have X := fun W => small_any p q W h1 h2 h3 h4
  have Y := fun W => small_any r s W h5 h6 h7 h8
  have rx := FracMath.small_right h1 h2 h3 h4
  have ry := FracMath.small_right h5 h6 h7 h8
  generalize FracMath.sn p q = a at X rx
  generalize FracMath.sd p q = b at X rx
  generalize FracMath.sn r s = c at Y ry
  generalize FracMath.sd r s = d at Y ry
  obtain ⟨k1, k2, k3, k4, _⟩ := FracMath.right_of rx
  obtain ⟨l1, l2, l3, l4, _⟩ := FracMath.right_of ry
  have fad := FracMath.prod_bd (x := a) (y := d) ⟨by omega, by omega⟩ ⟨by omega, by omega⟩
  have fcb := FracMath.prod_bd (x := c) (y := b) ⟨by omega, by omega⟩ ⟨by omega, by omega⟩
  have K := fun W => ref_compare_any a b c d W fad.1 fad.2 fcb.1 fcb.2
  have O := fun W => simplest_self a b W rx
  by_cases ho : a * d ≤ c * b
  · have hv := FracMath.cmpI_le ho
    by_cases hp : 1 ≤ a
    · exact simplestLaw_ok p q r s a b c d _ _ _ w hv X Y (fun W => simplest_pos a b c d W rx ry ho hp) O K (fun W => ref_simplest_pos a b c d W rx ry ho hp)
    · by_cases hn : c < 0
      · exact simplestLaw_ok p q r s a b c d _ _ _ w hv X Y (fun W => simplest_neg a b c d W rx ry ho hn) O K (fun W => ref_simplest_neg a b c d W rx ry ho hn)
      · exact simplestLaw_ok p q r s a b c d _ _ _ w hv X Y (fun W => simplest_zero a b c d W rx ry ho (by omega) (by omega)) O K (fun W => ref_simplest_zero a b c d W rx ry (by omega) (by omega))
  · rw [FracMath.cmpI_gt (by omega)] at K
    exact simplestLaw_order p q r s a b c d w X Y (fun W => simplest_order a b c d W rx ry (by omega)) O K
end Go.Proofs.YtlfnhknnfajknabDoor
