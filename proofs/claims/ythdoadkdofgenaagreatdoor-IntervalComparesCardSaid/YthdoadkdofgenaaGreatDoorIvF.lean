/- Contracts of Check, whole, Of, plus, minus, pairOf. -/
import Derived.Test.YthdoadkdofgenaaGreatDoorIvD
namespace Go.Proofs.YthdoadkdofgenaaGreatDoor
open Go Go.RowKit Go.Shelf

def rdA (n2 d2 n3 d3 n5 d5 : Int) : Int := if Iv.rdE n2 d2 n3 d3 n5 d5 = 0 then Iv.up n2 d2 (Iv.D3 d2 d3 d5) else 0
def rdB (n2 d2 n3 d3 n5 d5 : Int) : Int := if Iv.rdE n2 d2 n3 d3 n5 d5 = 0 then Iv.up n3 d3 (Iv.D3 d2 d3 d5) else 0
def rdC (n2 d2 n3 d3 n5 d5 : Int) : Int := if Iv.rdE n2 d2 n3 d3 n5 d5 = 0 then Iv.up n5 d5 (Iv.D3 d2 d3 d5) else 0
def rdD (n2 d2 n3 d3 n5 d5 : Int) : Int := if Iv.rdE n2 d2 n3 d3 n5 d5 = 0 then ((Iv.D3 d2 d3 d5 : Nat) : Int) else 0
theorem rdV_eq (n2 d2 n3 d3 n5 d5 : Int) : rdV n2 d2 n3 d3 n5 d5 = .agg #[.int .i64 (rdA n2 d2 n3 d3 n5 d5), .int .i64 (rdB n2 d2 n3 d3 n5 d5), .int .i64 (rdC n2 d2 n3 d3 n5 d5), .int .i64 (rdD n2 d2 n3 d3 n5 d5)] := by
  unfold rdV rdA rdB rdC rdD
  by_cases h : Iv.rdE n2 d2 n3 d3 n5 d5 = 0
  · simp only [if_pos h]
  · simp only [if_neg h]
theorem rd_parts (n2 d2 n3 d3 n5 d5 : Int) (w : World) :
    Calls Tryz.prog 39 #[.agg #[.int .i64 n2, .int .i64 d2, .int .i64 n3, .int .i64 d3, .int .i64 n5, .int .i64 d5]] w fun e w' => e = .returned (.tuple #[.agg #[.int .i64 (rdA n2 d2 n3 d3 n5 d5), .int .i64 (rdB n2 d2 n3 d3 n5 d5), .int .i64 (rdC n2 d2 n3 d3 n5 d5), .int .i64 (rdD n2 d2 n3 d3 n5 d5)], .int .i64 (Iv.rdE n2 d2 n3 d3 n5 d5)]) ∧ Below w.heap.size w w' := by
  have h := ivparts_any n2 d2 n3 d3 n5 d5 w
  rwa [rdV_eq] at h
/-- The bounds of what is read. -/
theorem rd_bounds (n2 d2 n3 d3 n5 d5 : Int) : -6000 ≤ rdA n2 d2 n3 d3 n5 d5 ∧ rdA n2 d2 n3 d3 n5 d5 ≤ 6000 ∧ -6000 ≤ rdB n2 d2 n3 d3 n5 d5 ∧ rdB n2 d2 n3 d3 n5 d5 ≤ 6000 ∧ -6000 ≤ rdC n2 d2 n3 d3 n5 d5 ∧ rdC n2 d2 n3 d3 n5 d5 ≤ 6000 ∧ rdD n2 d2 n3 d3 n5 d5 ≤ 240 ∧ (Iv.rdE n2 d2 n3 d3 n5 d5 = 0 → 0 < rdD n2 d2 n3 d3 n5 d5) := by
  unfold rdA rdB rdC rdD
  by_cases h : Iv.rdE n2 d2 n3 d3 n5 d5 = 0
  · simp only [if_pos h]
    have h' := h
    unfold Iv.rdE at h'
    split at h'
    · rename_i hr
      split at h'
      · rename_i hi
        unfold Iv.inB at hi
        simp only [decide_eq_true_eq] at hi
        simp only [Bool.and_eq_true] at hr
        have p := Iv.D3_pos (d := d2) (e := d3) (f := d5) (by have := FracMath.right_of hr.1.1; omega) (by have := FracMath.right_of hr.1.2; omega) (by have := FracMath.right_of hr.2; omega)
        refine ⟨hi.1, hi.2.1, hi.2.2.1, hi.2.2.2.1, hi.2.2.2.2.1, hi.2.2.2.2.2.1, hi.2.2.2.2.2.2, fun _ => by omega⟩
      · exact absurd h' (by decide)
    · exact absurd h' (by decide)
  · simp only [if_neg h]
    omega
set_option maxHeartbeats 1000000 in
theorem ivcheck_any (n2 d2 n3 d3 n5 d5 : Int) (w : World) :
    Calls Tryz.prog 14 #[.agg #[.int .i64 n2, .int .i64 d2, .int .i64 n3, .int .i64 d3, .int .i64 n5, .int .i64 d5]] w fun e w' => e = .returned (.int .i64 (Iv.rdE n2 d2 n3 d3 n5 d5)) ∧ Below w.heap.size w w' := by
  have PA := Lib.hid (fun W => rd_parts n2 d2 n3 d3 n5 d5 W)
  generalize Iv.rdE n2 d2 n3 d3 n5 d5 = E at *
  generalize rdA n2 d2 n3 d3 n5 d5 = a at *
  generalize rdB n2 d2 n3 d3 n5 d5 = b at *
  generalize rdC n2 d2 n3 d3 n5 d5 = c at *
  generalize rdD n2 d2 n3 d3 n5 d5 = d at *
  go_enter Tryz.func14, Tryz.ntmps14
  go_wp2_with fail
  refine (PA.out _).mono ?_
  rintro e w1 ⟨rfl, hb1⟩
  have hs := hb1.size
  go_wp2
  go_ret
  exact ⟨rfl, (((Below.refl _ w).alloc (Nat.le_refl _) _).trans (hb1.mono (by simp))).alloc (by simp at hs; omega) _⟩

/-- What size makes of parts: six numbers and an error. -/
def szE (a b c : Int) (D : Nat) : Int := if Iv.okB a b c D then 0 else 4
def szN (x a b c : Int) (D : Nat) : Int := if Iv.okB a b c D then FracMath.qn x D else 0
def szD (x a b c : Int) (D : Nat) : Int := if Iv.okB a b c D then FracMath.qd x D else 0
theorem ivsize_any (a b c : Int) (D : Nat) (w : World) (ha1 : -9223372036854775807 ≤ a) (ha2 : a ≤ 9223372036854775807) (hb1 : -9223372036854775807 ≤ b) (hb2 : b ≤ 9223372036854775807) (hc1 : -9223372036854775807 ≤ c) (hc2 : c ≤ 9223372036854775807) (hD1 : 0 < D) (hD2 : D ≤ 9223372036854775807) :
    Calls Tryz.prog 45 #[.agg #[.int .i64 a, .int .i64 b, .int .i64 c, .int .i64 (D : Int)]] w fun e w' => e = .returned (.tuple #[.agg #[.int .i64 (szN a a b c D), .int .i64 (szD a a b c D), .int .i64 (szN b a b c D), .int .i64 (szD b a b c D), .int .i64 (szN c a b c D), .int .i64 (szD c a b c D)], .int .i64 (szE a b c D)]) ∧ Below w.heap.size w w' := by
  unfold szE szN szD
  cases h : Iv.okB a b c D with
  | true => simp only [if_true]; exact ivsize_yes a b c D w ha1 ha2 hb1 hb2 hc1 hc2 hD1 hD2 h
  | false => simp only [Bool.false_eq_true, if_false]; exact ivsize_no a b c D w ha1 ha2 hb1 hb2 hc1 hc2 (by omega) (by omega) h

set_option maxRecDepth 10000 in
set_option maxHeartbeats 2000000 in
theorem ivwhole_any (a b c : Int) (w : World) (ha1 : -9223372036854775807 ≤ a) (ha2 : a ≤ 9223372036854775807) (hb1 : -9223372036854775807 ≤ b) (hb2 : b ≤ 9223372036854775807) (hc1 : -9223372036854775807 ≤ c) (hc2 : c ≤ 9223372036854775807) :
    Calls Tryz.prog 40 #[.agg #[.int .i64 a, .int .i64 b, .int .i64 c]] w fun e w' => e = .returned (.tuple #[.agg #[.int .i64 (szN a a b c 1), .int .i64 (szD a a b c 1), .int .i64 (szN b a b c 1), .int .i64 (szD b a b c 1), .int .i64 (szN c a b c 1), .int .i64 (szD c a b c 1)], .int .i64 (szE a b c 1)]) ∧ Below w.heap.size w w' := by
  have SI := Lib.hid (fun W => ivsize_any a b c 1 W ha1 ha2 hb1 hb2 hc1 hc2 (by decide) (by decide))
  rw [show ((1 : Nat) : Int) = 1 from rfl] at SI
  generalize szN a a b c 1 = s0 at *
  generalize szD a a b c 1 = s1 at *
  generalize szN b a b c 1 = s2 at *
  generalize szD b a b c 1 = s3 at *
  generalize szN c a b c 1 = s4 at *
  generalize szD c a b c 1 = s5 at *
  generalize szE a b c 1 = sE at *
  obtain ⟨D, hD⟩ : ∃ D, w.heap.size = D := ⟨_, rfl⟩
  go_enter Tryz.func40, Tryz.ntmps40
  go_wp2_with fail
  refine (SI.out _).mono ?_
  rintro e w1 ⟨rfl, hb1'⟩
  have h1 : w1.heap[D + 1]? = some (.cells #[.int .i64 0, .int .i64 0, .int .i64 0, .int .i64 0, .int .i64 0, .int .i64 0] 25) := (hb1'.block (D + 1) (by simp [hD])).trans (heap_new (by simp [hD]))
  have hw1 : Below D w w1 := (((Below.refl _ w).alloc (by omega) _).alloc (by simp; omega) _).trans (hb1'.mono (by simp; omega))
  have r0 := cell6_0 h1
  have g0 := free6_0 h1
  have r1 := cell6_1 h1
  have g1 := free6_1 h1
  have r2 := cell6_2 h1
  have g2 := free6_2 h1
  have r3 := cell6_3 h1
  have g3 := free6_3 h1
  have r4 := cell6_4 h1
  have g4 := free6_4 h1
  have r5 := cell6_5 h1
  have g5 := free6_5 h1
  have HW := Lib.hid ((((((hw1.setCell (p := ⟨D + 1, 0, none⟩) (by simp) (.int .i64 s0)).setCell (p := ⟨D + 1, 1, none⟩) (by simp) (.int .i64 s1)).setCell (p := ⟨D + 1, 2, none⟩) (by simp) (.int .i64 s2)).setCell (p := ⟨D + 1, 3, none⟩) (by simp) (.int .i64 s3)).setCell (p := ⟨D + 1, 4, none⟩) (by simp) (.int .i64 s4)).setCell (p := ⟨D + 1, 5, none⟩) (by simp) (.int .i64 s5))
  have hE := (set6_5 (x := .int .i64 s5) (set6_4 (x := .int .i64 s4) (set6_3 (x := .int .i64 s3) (set6_2 (x := .int .i64 s2) (set6_1 (x := .int .i64 s1) (set6_0 (x := .int .i64 s0) h1))))))
  have z0 := cell6_0 hE
  have z1 := cell6_1 hE
  have z2 := cell6_2 hE
  have z3 := cell6_3 hE
  have z4 := cell6_4 hE
  have z5 := cell6_5 hE
  clear h1 hE hw1 hb1'
  go_wp2
  refine bodyPost_ret (v := .tuple #[.agg #[.int .i64 s0, .int .i64 s1, .int .i64 s2, .int .i64 s3, .int .i64 s4, .int .i64 s5], .int .i64 sE]) (by simp [results, Tryz.results40, go_sem, z0, z1, z2, z3, z4, z5]) rfl ⟨rfl, by rw [hD]; exact HW.out⟩
set_option maxRecDepth 10000 in
set_option maxHeartbeats 2000000 in
theorem ivof_any (a b c : Int) (w : World) (ha1 : -9223372036854775807 ≤ a) (ha2 : a ≤ 9223372036854775807) (hb1 : -9223372036854775807 ≤ b) (hb2 : b ≤ 9223372036854775807) (hc1 : -9223372036854775807 ≤ c) (hc2 : c ≤ 9223372036854775807) :
    Calls Tryz.prog 15 #[.int .i64 a, .int .i64 b, .int .i64 c] w fun e w' => e = .returned (.tuple #[.agg #[.int .i64 (szN a a b c 1), .int .i64 (szD a a b c 1), .int .i64 (szN b a b c 1), .int .i64 (szD b a b c 1), .int .i64 (szN c a b c 1), .int .i64 (szD c a b c 1)], .int .i64 (szE a b c 1)]) ∧ Below w.heap.size w w' := by
  have SI := Lib.hid (fun W => ivwhole_any a b c W ha1 ha2 hb1 hb2 hc1 hc2)
  generalize szN a a b c 1 = s0 at *
  generalize szD a a b c 1 = s1 at *
  generalize szN b a b c 1 = s2 at *
  generalize szD b a b c 1 = s3 at *
  generalize szN c a b c 1 = s4 at *
  generalize szD c a b c 1 = s5 at *
  generalize szE a b c 1 = sE at *
  obtain ⟨D, hD⟩ : ∃ D, w.heap.size = D := ⟨_, rfl⟩
  go_enter Tryz.func15, Tryz.ntmps15
  go_wp2_with fail
  refine (SI.out _).mono ?_
  rintro e w1 ⟨rfl, hb1'⟩
  have h1 : w1.heap[D]? = some (.cells #[.int .i64 0, .int .i64 0, .int .i64 0, .int .i64 0, .int .i64 0, .int .i64 0] 25) := (hb1'.block D (by simp [hD])).trans (heap_new hD.symm)
  have hw1 : Below D w w1 := ((Below.refl _ w).alloc (by omega) _).trans (hb1'.mono (by simp; omega))
  have r0 := cell6_0 h1
  have g0 := free6_0 h1
  have r1 := cell6_1 h1
  have g1 := free6_1 h1
  have r2 := cell6_2 h1
  have g2 := free6_2 h1
  have r3 := cell6_3 h1
  have g3 := free6_3 h1
  have r4 := cell6_4 h1
  have g4 := free6_4 h1
  have r5 := cell6_5 h1
  have g5 := free6_5 h1
  have HW := Lib.hid ((((((hw1.setCell (p := ⟨D, 0, none⟩) (by simp) (.int .i64 s0)).setCell (p := ⟨D, 1, none⟩) (by simp) (.int .i64 s1)).setCell (p := ⟨D, 2, none⟩) (by simp) (.int .i64 s2)).setCell (p := ⟨D, 3, none⟩) (by simp) (.int .i64 s3)).setCell (p := ⟨D, 4, none⟩) (by simp) (.int .i64 s4)).setCell (p := ⟨D, 5, none⟩) (by simp) (.int .i64 s5))
  have hE := (set6_5 (x := .int .i64 s5) (set6_4 (x := .int .i64 s4) (set6_3 (x := .int .i64 s3) (set6_2 (x := .int .i64 s2) (set6_1 (x := .int .i64 s1) (set6_0 (x := .int .i64 s0) h1))))))
  have z0 := cell6_0 hE
  have z1 := cell6_1 hE
  have z2 := cell6_2 hE
  have z3 := cell6_3 hE
  have z4 := cell6_4 hE
  have z5 := cell6_5 hE
  clear h1 hE hw1 hb1'
  go_wp2
  refine bodyPost_ret (v := .tuple #[.agg #[.int .i64 s0, .int .i64 s1, .int .i64 s2, .int .i64 s3, .int .i64 s4, .int .i64 s5], .int .i64 sE]) (by simp [results, Tryz.results15, go_sem, z0, z1, z2, z3, z4, z5]) rfl ⟨rfl, by rw [hD]; exact HW.out⟩
theorem ivplus_any (x y : Int) (w : World) (h1 : -9223372036854775808 ≤ x + y) (h2 : x + y ≤ 9223372036854775807) :
    Calls Tryz.prog 42 #[.int .i64 x, .int .i64 y] w fun e w' => e = .returned (.int .i64 (x + y)) ∧ w' = w := by
  go_enter Tryz.func42, Tryz.ntmps42
  go_wp2
  go_ret
  exact ⟨rfl, rfl⟩
theorem ivminus_any (x y : Int) (w : World) (h1 : -9223372036854775808 ≤ x - y) (h2 : x - y ≤ 9223372036854775807) :
    Calls Tryz.prog 43 #[.int .i64 x, .int .i64 y] w fun e w' => e = .returned (.int .i64 (x - y)) ∧ w' = w := by
  go_enter Tryz.func43, Tryz.ntmps43
  go_wp2
  go_ret
  exact ⟨rfl, rfl⟩
end Go.Proofs.YthdoadkdofgenaaGreatDoor
/- The contract of pairOf. -/
namespace Go.Proofs.YthdoadkdofgenaaGreatDoor
open Go Go.RowKit Go.Shelf

def prI (P Q : Value) : Nat → Value → World → Prop
  | 0, v, _ => v = P
  | 1, v, _ => v = Q
  | 4, v, _ => v = .int .i64 0
  | _, _, _ => True
theorem prI_up (P Q : Value) {R : World → Prop} : ∀ (j : Nat) (v : Value) (A B : World), R A → R B → prI P Q j v A → prI P Q j v B
  | 0, _, _, _, _, _, h => h
  | 1, _, _, _, _, _, h => h
  | 2, _, _, _, _, _, _ => trivial
  | 3, _, _, _, _, _, _ => trivial
  | 4, _, _, _, _, _, h => h
  | _ + 5, _, _, _, _, _, _ => trivial
def PrR (D : Nat) (w : World) (a b c d p q r s : Int) (A : World) : Prop :=
  Below D w A ∧ A.heap[D + 1 + 1]? = some (.cells #[.int .i64 a, .int .i64 b, .int .i64 c, .int .i64 d] 73) ∧ A.heap[D + 1 + 1 + 1]? = some (.cells #[.int .i64 p, .int .i64 q, .int .i64 r, .int .i64 s] 73)

set_option maxRecDepth 10000 in
set_option maxHeartbeats 4000000 in
theorem ivpair_e1 (x0 x1 x2 x3 x4 x5 y0 y1 y2 y3 y4 y5 : Int) (w : World) (he : Iv.rdE x0 x1 x2 x3 x4 x5 ≠ 0) :
    Calls Tryz.prog 48 #[.agg #[.int .i64 x0, .int .i64 x1, .int .i64 x2, .int .i64 x3, .int .i64 x4, .int .i64 x5], .agg #[.int .i64 y0, .int .i64 y1, .int .i64 y2, .int .i64 y3, .int .i64 y4, .int .i64 y5]] w fun e w' => e = .returned (.tuple #[.agg #[.int .i64 0, .int .i64 0, .int .i64 0, .int .i64 0], .agg #[.int .i64 0, .int .i64 0, .int .i64 0, .int .i64 0], .int .i64 (Iv.rdE x0 x1 x2 x3 x4 x5)]) ∧ Below w.heap.size w w' := by
  have PA := Lib.hid (fun W => rd_parts x0 x1 x2 x3 x4 x5 W)
  have PB := Lib.hid (fun W => rd_parts y0 y1 y2 y3 y4 y5 W)
  generalize rdA x0 x1 x2 x3 x4 x5 = a at *
  generalize rdB x0 x1 x2 x3 x4 x5 = b at *
  generalize rdC x0 x1 x2 x3 x4 x5 = c at *
  generalize rdD x0 x1 x2 x3 x4 x5 = d at *
  generalize Iv.rdE x0 x1 x2 x3 x4 x5 = E at *
  generalize rdA y0 y1 y2 y3 y4 y5 = p at *
  generalize rdB y0 y1 y2 y3 y4 y5 = q at *
  generalize rdC y0 y1 y2 y3 y4 y5 = r at *
  generalize rdD y0 y1 y2 y3 y4 y5 = s at *
  generalize Iv.rdE y0 y1 y2 y3 y4 y5 = G at *
  have hne : (E == 0) = false := by rw [beq_eq_false_iff_ne]; exact he
  obtain ⟨D, hD⟩ : ∃ D, w.heap.size = D := ⟨_, rfl⟩
  go_enter Tryz.func48, Tryz.ntmps48
  go_wp2_with fail
  refine (PA.out _).mono ?_
  rintro e w1 ⟨rfl, hb1⟩
  have h3 : w1.heap[D + 1]? = some (.cells #[.int .i64 y0, .int .i64 y1, .int .i64 y2, .int .i64 y3, .int .i64 y4, .int .i64 y5] 25) := (hb1.block (D + 1) (by simp [hD])).trans (heap_old (heap_old (heap_new (by simp [hD]))))
  have h4 : w1.heap[D + 1 + 1]? = some (.cells #[.int .i64 0, .int .i64 0, .int .i64 0, .int .i64 0] 73) := (hb1.block (D + 1 + 1) (by simp [hD])).trans (heap_old (heap_new (by simp [hD])))
  have h5 : w1.heap[D + 1 + 1 + 1]? = some (.cells #[.int .i64 0, .int .i64 0, .int .i64 0, .int .i64 0] 73) := (hb1.block (D + 1 + 1 + 1) (by simp [hD])).trans (heap_new (by simp [hD]))
  have hw1 : Below D w w1 := ((((Below.refl _ w).alloc (by omega) _).alloc (by simp; omega) _).alloc (by simp; omega) _).alloc (by simp; omega) _ |>.trans (hb1.mono (by simp; omega))
  have c0 := cell4_0 h4
  have c1 := cell4_1 h4
  have c2 := cell4_2 h4
  have c3 := cell4_3 h4
  have f0 := free4_0 h4
  have f1 := free4_1 h4
  have f2 := free4_2 h4
  have f3 := free4_3 h4
  have k0 := cell4_0 h5
  have k1 := cell4_1 h5
  have k2 := cell4_2 h5
  have k3 := cell4_3 h5
  have g0 := free4_0 h5
  have g1 := free4_1 h5
  have g2 := free4_2 h5
  have g3 := free4_3 h5
  have H4 := (set4_3 (x := .int .i64 0) (set4_2 (x := .int .i64 0) (set4_1 (x := .int .i64 0) (set4_0 (x := .int .i64 0) ((set4_3 (x := .int .i64 d) (set4_2 (x := .int .i64 c) (set4_1 (x := .int .i64 b) (set4_0 (x := .int .i64 a) (h4))))))))))
  have H5 := (set4_3 (x := .int .i64 0) (set4_2 (x := .int .i64 0) (set4_1 (x := .int .i64 0) (set4_0 (x := .int .i64 0) (h5)))))
  obtain ⟨U, hU⟩ : ∃ U, ((((((((((((w1.setCell ⟨D + 1 + 1, 0, none⟩ (.int .i64 a)).setCell ⟨D + 1 + 1, 1, none⟩ (.int .i64 b)).setCell ⟨D + 1 + 1, 2, none⟩ (.int .i64 c)).setCell ⟨D + 1 + 1, 3, none⟩ (.int .i64 d)).setCell ⟨D + 1 + 1, 0, none⟩ (.int .i64 0)).setCell ⟨D + 1 + 1, 1, none⟩ (.int .i64 0)).setCell ⟨D + 1 + 1, 2, none⟩ (.int .i64 0)).setCell ⟨D + 1 + 1, 3, none⟩ (.int .i64 0)).setCell ⟨D + 1 + 1 + 1, 0, none⟩ (.int .i64 0)).setCell ⟨D + 1 + 1 + 1, 1, none⟩ (.int .i64 0)).setCell ⟨D + 1 + 1 + 1, 2, none⟩ (.int .i64 0)).setCell ⟨D + 1 + 1 + 1, 3, none⟩ (.int .i64 0)) = U := ⟨_, rfl⟩
  have hwU : Below D w U := by rw [← hU]; exact ((((((((((((hw1.setCell (p := ⟨D + 1 + 1, 0, none⟩) (by simp; omega) (.int .i64 a)).setCell (p := ⟨D + 1 + 1, 1, none⟩) (by simp; omega) (.int .i64 b)).setCell (p := ⟨D + 1 + 1, 2, none⟩) (by simp; omega) (.int .i64 c)).setCell (p := ⟨D + 1 + 1, 3, none⟩) (by simp; omega) (.int .i64 d)).setCell (p := ⟨D + 1 + 1, 0, none⟩) (by simp; omega) (.int .i64 0)).setCell (p := ⟨D + 1 + 1, 1, none⟩) (by simp; omega) (.int .i64 0)).setCell (p := ⟨D + 1 + 1, 2, none⟩) (by simp; omega) (.int .i64 0)).setCell (p := ⟨D + 1 + 1, 3, none⟩) (by simp; omega) (.int .i64 0)).setCell (p := ⟨D + 1 + 1 + 1, 0, none⟩) (by simp; omega) (.int .i64 0)).setCell (p := ⟨D + 1 + 1 + 1, 1, none⟩) (by simp; omega) (.int .i64 0)).setCell (p := ⟨D + 1 + 1 + 1, 2, none⟩) (by simp; omega) (.int .i64 0)).setCell (p := ⟨D + 1 + 1 + 1, 3, none⟩) (by simp; omega) (.int .i64 0))
  have h4U : U.heap[D + 1 + 1]? = some (.cells #[.int .i64 0, .int .i64 0, .int .i64 0, .int .i64 0] 73) := by rw [← hU]; exact (set_other (by omega)).trans ((set_other (by omega)).trans ((set_other (by omega)).trans ((set_other (by omega)).trans (H4))))
  have h5U : U.heap[D + 1 + 1 + 1]? = some (.cells #[.int .i64 0, .int .i64 0, .int .i64 0, .int .i64 0] 73) := by rw [← hU]; exact (set4_3 (x := .int .i64 0) (set4_2 (x := .int .i64 0) (set4_1 (x := .int .i64 0) (set4_0 (x := .int .i64 0) ((set_other (by omega)).trans ((set_other (by omega)).trans ((set_other (by omega)).trans ((set_other (by omega)).trans ((set_other (by omega)).trans ((set_other (by omega)).trans ((set_other (by omega)).trans ((set_other (by omega)).trans (h5)))))))))))))
  have HU := Lib.hid hU
  have HW := Lib.hid hwU
  have yy0 := cell4_0 h4U
  have yy1 := cell4_1 h4U
  have yy2 := cell4_2 h4U
  have yy3 := cell4_3 h4U
  have z0 := cell4_0 h5U
  have z1 := cell4_1 h5U
  have z2 := cell4_2 h5U
  have z3 := cell4_3 h5U
  clear h3 h4 h5 hw1 hb1 H4 H5 hwU h4U h5U hU
  go_wp2
  rw [HU.out]
  refine bodyPost_ret (v := .tuple #[.agg #[.int .i64 0, .int .i64 0, .int .i64 0, .int .i64 0], .agg #[.int .i64 0, .int .i64 0, .int .i64 0, .int .i64 0], .int .i64 E]) (by simp [results, Tryz.results48, go_sem, yy0, yy1, yy2, yy3, z0, z1, z2, z3]) rfl ⟨rfl, by rw [hD]; exact HW.out⟩

theorem cell_eq {U V : World} (h : U = V) {a : Addr} {x : Value} (e : V.cell? a = some x) : U.cell? a = some x := by rw [h]; exact e
set_option maxRecDepth 10000 in
set_option maxHeartbeats 4000000 in
theorem ivpair_e2 (x0 x1 x2 x3 x4 x5 y0 y1 y2 y3 y4 y5 : Int) (w : World) (he : Iv.rdE x0 x1 x2 x3 x4 x5 = 0) (hf : Iv.rdE y0 y1 y2 y3 y4 y5 ≠ 0) :
    Calls Tryz.prog 48 #[.agg #[.int .i64 x0, .int .i64 x1, .int .i64 x2, .int .i64 x3, .int .i64 x4, .int .i64 x5], .agg #[.int .i64 y0, .int .i64 y1, .int .i64 y2, .int .i64 y3, .int .i64 y4, .int .i64 y5]] w fun e w' => e = .returned (.tuple #[.agg #[.int .i64 0, .int .i64 0, .int .i64 0, .int .i64 0], .agg #[.int .i64 0, .int .i64 0, .int .i64 0, .int .i64 0], .int .i64 (Iv.rdE y0 y1 y2 y3 y4 y5)]) ∧ Below w.heap.size w w' := by
  have PA := Lib.hid (fun W => rd_parts x0 x1 x2 x3 x4 x5 W)
  have PB := Lib.hid (fun W => rd_parts y0 y1 y2 y3 y4 y5 W)
  generalize rdA x0 x1 x2 x3 x4 x5 = a at *
  generalize rdB x0 x1 x2 x3 x4 x5 = b at *
  generalize rdC x0 x1 x2 x3 x4 x5 = c at *
  generalize rdD x0 x1 x2 x3 x4 x5 = d at *
  generalize Iv.rdE x0 x1 x2 x3 x4 x5 = E at *
  generalize rdA y0 y1 y2 y3 y4 y5 = p at *
  generalize rdB y0 y1 y2 y3 y4 y5 = q at *
  generalize rdC y0 y1 y2 y3 y4 y5 = r at *
  generalize rdD y0 y1 y2 y3 y4 y5 = s at *
  generalize Iv.rdE y0 y1 y2 y3 y4 y5 = G at *
  subst he
  have hne : (G == 0) = false := by rw [beq_eq_false_iff_ne]; exact hf
  obtain ⟨D, hD⟩ : ∃ D, w.heap.size = D := ⟨_, rfl⟩
  go_enter Tryz.func48, Tryz.ntmps48
  go_wp2_with fail
  refine (PA.out _).mono ?_
  rintro e w1 ⟨rfl, hb1⟩
  have h3 : w1.heap[D + 1]? = some (.cells #[.int .i64 y0, .int .i64 y1, .int .i64 y2, .int .i64 y3, .int .i64 y4, .int .i64 y5] 25) := (hb1.block (D + 1) (by simp [hD])).trans (heap_old (heap_old (heap_new (by simp [hD]))))
  have h4 : w1.heap[D + 1 + 1]? = some (.cells #[.int .i64 0, .int .i64 0, .int .i64 0, .int .i64 0] 73) := (hb1.block (D + 1 + 1) (by simp [hD])).trans (heap_old (heap_new (by simp [hD])))
  have h5 : w1.heap[D + 1 + 1 + 1]? = some (.cells #[.int .i64 0, .int .i64 0, .int .i64 0, .int .i64 0] 73) := (hb1.block (D + 1 + 1 + 1) (by simp [hD])).trans (heap_new (by simp [hD]))
  have hw1 : Below D w w1 := ((((Below.refl _ w).alloc (by omega) _).alloc (by simp; omega) _).alloc (by simp; omega) _).alloc (by simp; omega) _ |>.trans (hb1.mono (by simp; omega))
  have c0 := cell4_0 h4
  have c1 := cell4_1 h4
  have c2 := cell4_2 h4
  have c3 := cell4_3 h4
  have f0 := free4_0 h4
  have f1 := free4_1 h4
  have f2 := free4_2 h4
  have f3 := free4_3 h4
  have h3U : ((((w1.setCell ⟨D + 1 + 1, 0, none⟩ (.int .i64 a)).setCell ⟨D + 1 + 1, 1, none⟩ (.int .i64 b)).setCell ⟨D + 1 + 1, 2, none⟩ (.int .i64 c)).setCell ⟨D + 1 + 1, 3, none⟩ (.int .i64 d)).heap[D + 1]? = some (.cells #[.int .i64 y0, .int .i64 y1, .int .i64 y2, .int .i64 y3, .int .i64 y4, .int .i64 y5] 25) := (set_other (by omega)).trans ((set_other (by omega)).trans ((set_other (by omega)).trans ((set_other (by omega)).trans (h3))))
  have m0 := cell6_0 h3U
  have m1 := cell6_1 h3U
  have m2 := cell6_2 h3U
  have m3 := cell6_3 h3U
  have m4 := cell6_4 h3U
  have m5 := cell6_5 h3U
  have h4U : ((((w1.setCell ⟨D + 1 + 1, 0, none⟩ (.int .i64 a)).setCell ⟨D + 1 + 1, 1, none⟩ (.int .i64 b)).setCell ⟨D + 1 + 1, 2, none⟩ (.int .i64 c)).setCell ⟨D + 1 + 1, 3, none⟩ (.int .i64 d)).heap[D + 1 + 1]? = some (.cells #[.int .i64 a, .int .i64 b, .int .i64 c, .int .i64 d] 73) := (set4_3 (x := .int .i64 d) (set4_2 (x := .int .i64 c) (set4_1 (x := .int .i64 b) (set4_0 (x := .int .i64 a) (h4)))))
  have h5U : ((((w1.setCell ⟨D + 1 + 1, 0, none⟩ (.int .i64 a)).setCell ⟨D + 1 + 1, 1, none⟩ (.int .i64 b)).setCell ⟨D + 1 + 1, 2, none⟩ (.int .i64 c)).setCell ⟨D + 1 + 1, 3, none⟩ (.int .i64 d)).heap[D + 1 + 1 + 1]? = some (.cells #[.int .i64 0, .int .i64 0, .int .i64 0, .int .i64 0] 73) := (set_other (by omega)).trans ((set_other (by omega)).trans ((set_other (by omega)).trans ((set_other (by omega)).trans (h5))))
  have hwU : Below D w ((((w1.setCell ⟨D + 1 + 1, 0, none⟩ (.int .i64 a)).setCell ⟨D + 1 + 1, 1, none⟩ (.int .i64 b)).setCell ⟨D + 1 + 1, 2, none⟩ (.int .i64 c)).setCell ⟨D + 1 + 1, 3, none⟩ (.int .i64 d)) := ((((hw1.setCell (p := ⟨D + 1 + 1, 0, none⟩) (by simp; omega) (.int .i64 a)).setCell (p := ⟨D + 1 + 1, 1, none⟩) (by simp; omega) (.int .i64 b)).setCell (p := ⟨D + 1 + 1, 2, none⟩) (by simp; omega) (.int .i64 c)).setCell (p := ⟨D + 1 + 1, 3, none⟩) (by simp; omega) (.int .i64 d))
  clear h3 h4 h5 hw1 hb1
  go_wp2_with fail
  obtain ⟨U, hU⟩ : ∃ U, ((((w1.setCell ⟨D + 1 + 1, 0, none⟩ (.int .i64 a)).setCell ⟨D + 1 + 1, 1, none⟩ (.int .i64 b)).setCell ⟨D + 1 + 1, 2, none⟩ (.int .i64 c)).setCell ⟨D + 1 + 1, 3, none⟩ (.int .i64 d)) = U := ⟨_, rfl⟩
  rw [hU] at h3U h4U h5U hwU m0 m1 m2 m3 m4 m5 ⊢
  clear hU c0 c1 c2 c3 f0 f1 f2 f3
  refine (PB.out _).mono ?_
  rintro e w2 ⟨rfl, hb2⟩
  have hs2 := hb2.size
  have hDU : D + 1 + 1 + 1 < U.heap.size := (Array.getElem?_eq_some_iff.1 h5U).1
  have h4 := (hb2.block (D + 1 + 1) (by omega)).trans h4U
  have h5 := (hb2.block (D + 1 + 1 + 1) (by omega)).trans h5U
  have hw2 := hwU.trans (hb2.mono (by omega))
  clear h3U h4U h5U hwU hb2 m0 m1 m2 m3 m4 m5 PA PB
  have c0 := cell4_0 h4
  have c1 := cell4_1 h4
  have c2 := cell4_2 h4
  have c3 := cell4_3 h4
  have f0 := free4_0 h4
  have f1 := free4_1 h4
  have f2 := free4_2 h4
  have f3 := free4_3 h4
  have k0 := cell4_0 h5
  have k1 := cell4_1 h5
  have k2 := cell4_2 h5
  have k3 := cell4_3 h5
  have g0 := free4_0 h5
  have g1 := free4_1 h5
  have g2 := free4_2 h5
  have g3 := free4_3 h5
  obtain ⟨V, hV⟩ : ∃ V, ((((((((((((w2.setCell ⟨D + 1 + 1 + 1, 0, none⟩ (.int .i64 p)).setCell ⟨D + 1 + 1 + 1, 1, none⟩ (.int .i64 q)).setCell ⟨D + 1 + 1 + 1, 2, none⟩ (.int .i64 r)).setCell ⟨D + 1 + 1 + 1, 3, none⟩ (.int .i64 s)).setCell ⟨D + 1 + 1, 0, none⟩ (.int .i64 0)).setCell ⟨D + 1 + 1, 1, none⟩ (.int .i64 0)).setCell ⟨D + 1 + 1, 2, none⟩ (.int .i64 0)).setCell ⟨D + 1 + 1, 3, none⟩ (.int .i64 0)).setCell ⟨D + 1 + 1 + 1, 0, none⟩ (.int .i64 0)).setCell ⟨D + 1 + 1 + 1, 1, none⟩ (.int .i64 0)).setCell ⟨D + 1 + 1 + 1, 2, none⟩ (.int .i64 0)).setCell ⟨D + 1 + 1 + 1, 3, none⟩ (.int .i64 0)) = V := ⟨_, rfl⟩
  have HW := Lib.hid (show Below D w V by rw [← hV]; exact ((((((((((((hw2.setCell (p := ⟨D + 1 + 1 + 1, 0, none⟩) (by simp; omega) (.int .i64 p)).setCell (p := ⟨D + 1 + 1 + 1, 1, none⟩) (by simp; omega) (.int .i64 q)).setCell (p := ⟨D + 1 + 1 + 1, 2, none⟩) (by simp; omega) (.int .i64 r)).setCell (p := ⟨D + 1 + 1 + 1, 3, none⟩) (by simp; omega) (.int .i64 s)).setCell (p := ⟨D + 1 + 1, 0, none⟩) (by simp; omega) (.int .i64 0)).setCell (p := ⟨D + 1 + 1, 1, none⟩) (by simp; omega) (.int .i64 0)).setCell (p := ⟨D + 1 + 1, 2, none⟩) (by simp; omega) (.int .i64 0)).setCell (p := ⟨D + 1 + 1, 3, none⟩) (by simp; omega) (.int .i64 0)).setCell (p := ⟨D + 1 + 1 + 1, 0, none⟩) (by simp; omega) (.int .i64 0)).setCell (p := ⟨D + 1 + 1 + 1, 1, none⟩) (by simp; omega) (.int .i64 0)).setCell (p := ⟨D + 1 + 1 + 1, 2, none⟩) (by simp; omega) (.int .i64 0)).setCell (p := ⟨D + 1 + 1 + 1, 3, none⟩) (by simp; omega) (.int .i64 0)))
  have hE4 : V.heap[D + 1 + 1]? = some (.cells #[.int .i64 0, .int .i64 0, .int .i64 0, .int .i64 0] 73) := by rw [← hV]; exact (set_other (by omega)).trans ((set_other (by omega)).trans ((set_other (by omega)).trans ((set_other (by omega)).trans ((set4_3 (x := .int .i64 0) (set4_2 (x := .int .i64 0) (set4_1 (x := .int .i64 0) (set4_0 (x := .int .i64 0) ((set_other (by omega)).trans ((set_other (by omega)).trans ((set_other (by omega)).trans ((set_other (by omega)).trans (h4)))))))))))))
  have hE5 : V.heap[D + 1 + 1 + 1]? = some (.cells #[.int .i64 0, .int .i64 0, .int .i64 0, .int .i64 0] 73) := by rw [← hV]; exact (set4_3 (x := .int .i64 0) (set4_2 (x := .int .i64 0) (set4_1 (x := .int .i64 0) (set4_0 (x := .int .i64 0) ((set_other (by omega)).trans ((set_other (by omega)).trans ((set_other (by omega)).trans ((set_other (by omega)).trans ((set4_3 (x := .int .i64 s) (set4_2 (x := .int .i64 r) (set4_1 (x := .int .i64 q) (set4_0 (x := .int .i64 p) (h5))))))))))))))
  have HV := Lib.hid hV
  have yy0 := cell4_0 hE4
  have yy1 := cell4_1 hE4
  have yy2 := cell4_2 hE4
  have yy3 := cell4_3 hE4
  have z0 := cell4_0 hE5
  have z1 := cell4_1 hE5
  have z2 := cell4_2 hE5
  have z3 := cell4_3 hE5
  clear h4 h5 hw2 hE4 hE5 hV hs2 hDU
  go_wp2
  rw [HV.out]
  refine bodyPost_ret (v := .tuple #[.agg #[.int .i64 0, .int .i64 0, .int .i64 0, .int .i64 0], .agg #[.int .i64 0, .int .i64 0, .int .i64 0, .int .i64 0], .int .i64 G]) (by simp [results, Tryz.results48, go_sem, yy0, yy1, yy2, yy3, z0, z1, z2, z3]) rfl ⟨rfl, by rw [hD]; exact HW.out⟩
set_option maxRecDepth 10000 in
set_option maxHeartbeats 4000000 in
theorem ivpair_ok (x0 x1 x2 x3 x4 x5 y0 y1 y2 y3 y4 y5 : Int) (w : World) (he : Iv.rdE x0 x1 x2 x3 x4 x5 = 0) (hf : Iv.rdE y0 y1 y2 y3 y4 y5 = 0) :
    Calls Tryz.prog 48 #[.agg #[.int .i64 x0, .int .i64 x1, .int .i64 x2, .int .i64 x3, .int .i64 x4, .int .i64 x5], .agg #[.int .i64 y0, .int .i64 y1, .int .i64 y2, .int .i64 y3, .int .i64 y4, .int .i64 y5]] w fun e w' => e = .returned (.tuple #[.agg #[.int .i64 (rdA x0 x1 x2 x3 x4 x5), .int .i64 (rdB x0 x1 x2 x3 x4 x5), .int .i64 (rdC x0 x1 x2 x3 x4 x5), .int .i64 (rdD x0 x1 x2 x3 x4 x5)], .agg #[.int .i64 (rdA y0 y1 y2 y3 y4 y5), .int .i64 (rdB y0 y1 y2 y3 y4 y5), .int .i64 (rdC y0 y1 y2 y3 y4 y5), .int .i64 (rdD y0 y1 y2 y3 y4 y5)], .int .i64 0]) ∧ Below w.heap.size w w' := by
  have PA := Lib.hid (fun W => rd_parts x0 x1 x2 x3 x4 x5 W)
  have PB := Lib.hid (fun W => rd_parts y0 y1 y2 y3 y4 y5 W)
  generalize rdA x0 x1 x2 x3 x4 x5 = a at *
  generalize rdB x0 x1 x2 x3 x4 x5 = b at *
  generalize rdC x0 x1 x2 x3 x4 x5 = c at *
  generalize rdD x0 x1 x2 x3 x4 x5 = d at *
  generalize Iv.rdE x0 x1 x2 x3 x4 x5 = E at *
  generalize rdA y0 y1 y2 y3 y4 y5 = p at *
  generalize rdB y0 y1 y2 y3 y4 y5 = q at *
  generalize rdC y0 y1 y2 y3 y4 y5 = r at *
  generalize rdD y0 y1 y2 y3 y4 y5 = s at *
  generalize Iv.rdE y0 y1 y2 y3 y4 y5 = G at *
  subst he
  subst hf
  obtain ⟨D, hD⟩ : ∃ D, w.heap.size = D := ⟨_, rfl⟩
  go_enter Tryz.func48, Tryz.ntmps48
  go_wp2_with fail
  refine (PA.out _).mono ?_
  rintro e w1 ⟨rfl, hb1⟩
  have h3 : w1.heap[D + 1]? = some (.cells #[.int .i64 y0, .int .i64 y1, .int .i64 y2, .int .i64 y3, .int .i64 y4, .int .i64 y5] 25) := (hb1.block (D + 1) (by simp [hD])).trans (heap_old (heap_old (heap_new (by simp [hD]))))
  have h4 : w1.heap[D + 1 + 1]? = some (.cells #[.int .i64 0, .int .i64 0, .int .i64 0, .int .i64 0] 73) := (hb1.block (D + 1 + 1) (by simp [hD])).trans (heap_old (heap_new (by simp [hD])))
  have h5 : w1.heap[D + 1 + 1 + 1]? = some (.cells #[.int .i64 0, .int .i64 0, .int .i64 0, .int .i64 0] 73) := (hb1.block (D + 1 + 1 + 1) (by simp [hD])).trans (heap_new (by simp [hD]))
  have hw1 : Below D w w1 := ((((Below.refl _ w).alloc (by omega) _).alloc (by simp; omega) _).alloc (by simp; omega) _).alloc (by simp; omega) _ |>.trans (hb1.mono (by simp; omega))
  have c0 := cell4_0 h4
  have c1 := cell4_1 h4
  have c2 := cell4_2 h4
  have c3 := cell4_3 h4
  have f0 := free4_0 h4
  have f1 := free4_1 h4
  have f2 := free4_2 h4
  have f3 := free4_3 h4
  have h3U : ((((w1.setCell ⟨D + 1 + 1, 0, none⟩ (.int .i64 a)).setCell ⟨D + 1 + 1, 1, none⟩ (.int .i64 b)).setCell ⟨D + 1 + 1, 2, none⟩ (.int .i64 c)).setCell ⟨D + 1 + 1, 3, none⟩ (.int .i64 d)).heap[D + 1]? = some (.cells #[.int .i64 y0, .int .i64 y1, .int .i64 y2, .int .i64 y3, .int .i64 y4, .int .i64 y5] 25) := (set_other (by omega)).trans ((set_other (by omega)).trans ((set_other (by omega)).trans ((set_other (by omega)).trans (h3))))
  have m0 := cell6_0 h3U
  have m1 := cell6_1 h3U
  have m2 := cell6_2 h3U
  have m3 := cell6_3 h3U
  have m4 := cell6_4 h3U
  have m5 := cell6_5 h3U
  have h4U : ((((w1.setCell ⟨D + 1 + 1, 0, none⟩ (.int .i64 a)).setCell ⟨D + 1 + 1, 1, none⟩ (.int .i64 b)).setCell ⟨D + 1 + 1, 2, none⟩ (.int .i64 c)).setCell ⟨D + 1 + 1, 3, none⟩ (.int .i64 d)).heap[D + 1 + 1]? = some (.cells #[.int .i64 a, .int .i64 b, .int .i64 c, .int .i64 d] 73) := (set4_3 (x := .int .i64 d) (set4_2 (x := .int .i64 c) (set4_1 (x := .int .i64 b) (set4_0 (x := .int .i64 a) (h4)))))
  have h5U : ((((w1.setCell ⟨D + 1 + 1, 0, none⟩ (.int .i64 a)).setCell ⟨D + 1 + 1, 1, none⟩ (.int .i64 b)).setCell ⟨D + 1 + 1, 2, none⟩ (.int .i64 c)).setCell ⟨D + 1 + 1, 3, none⟩ (.int .i64 d)).heap[D + 1 + 1 + 1]? = some (.cells #[.int .i64 0, .int .i64 0, .int .i64 0, .int .i64 0] 73) := (set_other (by omega)).trans ((set_other (by omega)).trans ((set_other (by omega)).trans ((set_other (by omega)).trans (h5))))
  have hwU : Below D w ((((w1.setCell ⟨D + 1 + 1, 0, none⟩ (.int .i64 a)).setCell ⟨D + 1 + 1, 1, none⟩ (.int .i64 b)).setCell ⟨D + 1 + 1, 2, none⟩ (.int .i64 c)).setCell ⟨D + 1 + 1, 3, none⟩ (.int .i64 d)) := ((((hw1.setCell (p := ⟨D + 1 + 1, 0, none⟩) (by simp; omega) (.int .i64 a)).setCell (p := ⟨D + 1 + 1, 1, none⟩) (by simp; omega) (.int .i64 b)).setCell (p := ⟨D + 1 + 1, 2, none⟩) (by simp; omega) (.int .i64 c)).setCell (p := ⟨D + 1 + 1, 3, none⟩) (by simp; omega) (.int .i64 d))
  clear h3 h4 h5 hw1 hb1
  go_wp2_with fail
  obtain ⟨U, hU⟩ : ∃ U, ((((w1.setCell ⟨D + 1 + 1, 0, none⟩ (.int .i64 a)).setCell ⟨D + 1 + 1, 1, none⟩ (.int .i64 b)).setCell ⟨D + 1 + 1, 2, none⟩ (.int .i64 c)).setCell ⟨D + 1 + 1, 3, none⟩ (.int .i64 d)) = U := ⟨_, rfl⟩
  rw [hU] at h3U h4U h5U hwU m0 m1 m2 m3 m4 m5 ⊢
  clear hU c0 c1 c2 c3 f0 f1 f2 f3
  refine (PB.out _).mono ?_
  rintro e w2 ⟨rfl, hb2⟩
  have hs2 := hb2.size
  have hDU : D + 1 + 1 + 1 < U.heap.size := (Array.getElem?_eq_some_iff.1 h5U).1
  have h4 := (hb2.block (D + 1 + 1) (by omega)).trans h4U
  have h5 := (hb2.block (D + 1 + 1 + 1) (by omega)).trans h5U
  have hw2 := hwU.trans (hb2.mono (by omega))
  clear h3U h4U h5U hwU hb2 m0 m1 m2 m3 m4 m5 PA PB
  have c0 := cell4_0 h4
  have c1 := cell4_1 h4
  have c2 := cell4_2 h4
  have c3 := cell4_3 h4
  have f0 := free4_0 h4
  have f1 := free4_1 h4
  have f2 := free4_2 h4
  have f3 := free4_3 h4
  have k0 := cell4_0 h5
  have k1 := cell4_1 h5
  have k2 := cell4_2 h5
  have k3 := cell4_3 h5
  have g0 := free4_0 h5
  have g1 := free4_1 h5
  have g2 := free4_2 h5
  have g3 := free4_3 h5
  go_wp2_with fail
  obtain ⟨V, hV⟩ : ∃ V, ((((w2.setCell ⟨D + 1 + 1 + 1, 0, none⟩ (.int .i64 p)).setCell ⟨D + 1 + 1 + 1, 1, none⟩ (.int .i64 q)).setCell ⟨D + 1 + 1 + 1, 2, none⟩ (.int .i64 r)).setCell ⟨D + 1 + 1 + 1, 3, none⟩ (.int .i64 s)) = V := ⟨_, rfl⟩
  have HR := Lib.hid (show PrR D w a b c d p q r s V from ⟨by rw [← hV]; exact ((((hw2.setCell (p := ⟨D + 1 + 1 + 1, 0, none⟩) (by simp; omega) (.int .i64 p)).setCell (p := ⟨D + 1 + 1 + 1, 1, none⟩) (by simp; omega) (.int .i64 q)).setCell (p := ⟨D + 1 + 1 + 1, 2, none⟩) (by simp; omega) (.int .i64 r)).setCell (p := ⟨D + 1 + 1 + 1, 3, none⟩) (by simp; omega) (.int .i64 s)), by rw [← hV]; exact (set_other (by omega)).trans ((set_other (by omega)).trans ((set_other (by omega)).trans ((set_other (by omega)).trans (h4)))), by rw [← hV]; exact (set4_3 (x := .int .i64 s) (set4_2 (x := .int .i64 r) (set4_1 (x := .int .i64 q) (set4_0 (x := .int .i64 p) (h5)))))⟩)
  rw [hV]
  clear hV h4 h5 hw2 c0 c1 c2 c3 f0 f1 f2 f3 k0 k1 k2 k3 g0 g1 g2 g3 hs2 hDU
  refine wp_region_slots_at rfl rfl (fun base ys => ((base.set 27 (ys 0)).set 28 (ys 1)).set 6 (ys 4)) (BelowI _ (PrR D w a b c d p q r s) (prI (.agg #[.int .i64 a, .int .i64 b, .int .i64 c, .int .i64 d]) (.agg #[.int .i64 p, .int .i64 q, .int .i64 r, .int .i64 s]))) (fun | 4 => .int .i64 0 | _ => undef) (by kernel_rfl) (below_start (show PrR D w a b c d p q r s V.drew from ⟨HR.out.1.trans ⟨rfl, rfl, rfl, Nat.le_refl _, fun _ _ => rfl⟩, HR.out.2.1, HR.out.2.2⟩)) ?h
  case h =>
    intro F hF
    simp only [List.set_cons_succ, List.set_cons_zero] at hF
    subst hF
    refine ⟨rfl, ?_, ?_⟩
    refine ⟨?_, ?_⟩
    · refine SlotStep.rel (fun _ B => PrR D w a b c d p q r s B) (fun A B h _ => h) (prI_up (.agg #[.int .i64 a, .int .i64 b, .int .i64 c, .int .i64 d]) (.agg #[.int .i64 p, .int .i64 q, .int .i64 r, .int .i64 s])) ?_
      intro ys W hR hd K hK
      have c0 := cell4_0 hR.2.1
      have c1 := cell4_1 hR.2.1
      have c2 := cell4_2 hR.2.1
      have c3 := cell4_3 hR.2.1
      go_simp
      have hK2 := hK (.agg #[.int .i64 a, .int .i64 b, .int .i64 c, .int .i64 d]) _ hR rfl
      simp (config := { decide := true }) only [upd, if_true, if_false] at hK2
      exact hK2
    refine ⟨?_, ?_⟩
    · refine SlotStep.rel (fun _ B => PrR D w a b c d p q r s B) (fun A B h _ => h) (prI_up (.agg #[.int .i64 a, .int .i64 b, .int .i64 c, .int .i64 d]) (.agg #[.int .i64 p, .int .i64 q, .int .i64 r, .int .i64 s])) ?_
      intro ys W hR hd K hK
      have c0 := cell4_0 hR.2.2
      have c1 := cell4_1 hR.2.2
      have c2 := cell4_2 hR.2.2
      have c3 := cell4_3 hR.2.2
      go_simp
      have hK2 := hK (.agg #[.int .i64 p, .int .i64 q, .int .i64 r, .int .i64 s]) _ hR rfl
      simp (config := { decide := true }) only [upd, if_true, if_false] at hK2
      exact hK2
    refine ⟨?_, ?_⟩
    · refine SlotStep.rel (fun _ B => PrR D w a b c d p q r s B) (fun A B h _ => h) (prI_up (.agg #[.int .i64 a, .int .i64 b, .int .i64 c, .int .i64 d]) (.agg #[.int .i64 p, .int .i64 q, .int .i64 r, .int .i64 s])) ?_
      intro ys W hR hd K hK
      have dd : ys 0 = .agg #[.int .i64 a, .int .i64 b, .int .i64 c, .int .i64 d] := hd 0 (by kernel_rfl) (by decide)
      have c0 := cell4_0 hR.2.1
      have f0 := free4_0 hR.2.1
      have c1 := cell4_1 hR.2.1
      have f1 := free4_1 hR.2.1
      have c2 := cell4_2 hR.2.1
      have f2 := free4_2 hR.2.1
      have c3 := cell4_3 hR.2.1
      have f3 := free4_3 hR.2.1
      go_simp
      have hK2 := hK undef ((((W.setCell ⟨D + 1 + 1, 0, none⟩ (.int .i64 a)).setCell ⟨D + 1 + 1, 1, none⟩ (.int .i64 b)).setCell ⟨D + 1 + 1, 2, none⟩ (.int .i64 c)).setCell ⟨D + 1 + 1, 3, none⟩ (.int .i64 d)) ⟨((((hR.1.setCell (p := ⟨D + 1 + 1, 0, none⟩) (by simp; omega) (.int .i64 a)).setCell (p := ⟨D + 1 + 1, 1, none⟩) (by simp; omega) (.int .i64 b)).setCell (p := ⟨D + 1 + 1, 2, none⟩) (by simp; omega) (.int .i64 c)).setCell (p := ⟨D + 1 + 1, 3, none⟩) (by simp; omega) (.int .i64 d)), (set4_3 (x := .int .i64 d) (set4_2 (x := .int .i64 c) (set4_1 (x := .int .i64 b) (set4_0 (x := .int .i64 a) (hR.2.1))))), (set_other (by omega)).trans ((set_other (by omega)).trans ((set_other (by omega)).trans ((set_other (by omega)).trans (hR.2.2))))⟩ trivial
      simp (config := { decide := true }) only [upd, if_false, dd] at hK2
      exact hK2
    refine ⟨?_, ?_⟩
    · refine SlotStep.rel (fun _ B => PrR D w a b c d p q r s B) (fun A B h _ => h) (prI_up (.agg #[.int .i64 a, .int .i64 b, .int .i64 c, .int .i64 d]) (.agg #[.int .i64 p, .int .i64 q, .int .i64 r, .int .i64 s])) ?_
      intro ys W hR hd K hK
      have dd : ys 1 = .agg #[.int .i64 p, .int .i64 q, .int .i64 r, .int .i64 s] := hd 1 (by kernel_rfl) (by decide)
      have c0 := cell4_0 hR.2.2
      have f0 := free4_0 hR.2.2
      have c1 := cell4_1 hR.2.2
      have f1 := free4_1 hR.2.2
      have c2 := cell4_2 hR.2.2
      have f2 := free4_2 hR.2.2
      have c3 := cell4_3 hR.2.2
      have f3 := free4_3 hR.2.2
      go_simp
      have hK2 := hK undef ((((W.setCell ⟨D + 1 + 1 + 1, 0, none⟩ (.int .i64 p)).setCell ⟨D + 1 + 1 + 1, 1, none⟩ (.int .i64 q)).setCell ⟨D + 1 + 1 + 1, 2, none⟩ (.int .i64 r)).setCell ⟨D + 1 + 1 + 1, 3, none⟩ (.int .i64 s)) ⟨((((hR.1.setCell (p := ⟨D + 1 + 1 + 1, 0, none⟩) (by simp; omega) (.int .i64 p)).setCell (p := ⟨D + 1 + 1 + 1, 1, none⟩) (by simp; omega) (.int .i64 q)).setCell (p := ⟨D + 1 + 1 + 1, 2, none⟩) (by simp; omega) (.int .i64 r)).setCell (p := ⟨D + 1 + 1 + 1, 3, none⟩) (by simp; omega) (.int .i64 s)), (set_other (by omega)).trans ((set_other (by omega)).trans ((set_other (by omega)).trans ((set_other (by omega)).trans (hR.2.1)))), (set4_3 (x := .int .i64 s) (set4_2 (x := .int .i64 r) (set4_1 (x := .int .i64 q) (set4_0 (x := .int .i64 p) (hR.2.2)))))⟩ trivial
      simp (config := { decide := true }) only [upd, if_false, dd] at hK2
      exact hK2
    refine ⟨?_, ?_⟩
    · refine SlotStep.rel (fun _ B => PrR D w a b c d p q r s B) (fun A B h _ => h) (prI_up (.agg #[.int .i64 a, .int .i64 b, .int .i64 c, .int .i64 d]) (.agg #[.int .i64 p, .int .i64 q, .int .i64 r, .int .i64 s])) ?_
      intro ys W hR hd K hK
      go_simp
      have hK2 := hK (.int .i64 0) _ hR rfl
      simp (config := { decide := true }) only [upd, if_true, if_false] at hK2
      exact hK2
    trivial
    · intro L ys W hL hI
      obtain ⟨hR, hj⟩ := hI
      have y4 : ys 4 = .int .i64 0 := hj 4 (by decide) (hL 4 (by decide))
      have c0 := cell4_0 hR.2.1
      have k0 := cell4_0 hR.2.2
      have c1 := cell4_1 hR.2.1
      have k1 := cell4_1 hR.2.2
      have c2 := cell4_2 hR.2.1
      have k2 := cell4_2 hR.2.2
      have c3 := cell4_3 hR.2.1
      have k3 := cell4_3 hR.2.2
      have HW := Lib.hid hR.1
      clear hR hj
      simp only [y4]
      go_wp2
      refine bodyPost_ret (v := .tuple #[.agg #[.int .i64 a, .int .i64 b, .int .i64 c, .int .i64 d], .agg #[.int .i64 p, .int .i64 q, .int .i64 r, .int .i64 s], .int .i64 0]) (by simp [results, Tryz.results48, go_sem, c0, c1, c2, c3, k0, k1, k2, k3]) rfl ⟨rfl, by rw [hD]; exact HW.out⟩
end Go.Proofs.YthdoadkdofgenaaGreatDoor
