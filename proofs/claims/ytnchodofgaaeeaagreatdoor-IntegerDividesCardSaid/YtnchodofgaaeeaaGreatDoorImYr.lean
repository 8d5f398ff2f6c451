/- The reference's DivMod and Gcd. -/
import Derived.Test.YtnchodofgaaeeaaGreatDoorImYq
import Derived.Test.YtnchodofgaaeeaaGreatDoorImYg
import Derived.Test.YtnchodofgaaeeaaGreatDoorImS
namespace Go.Proofs.YtnchodofgaaeeaaGreatDoor
open Go Go.RowKit Go.Shelf

theorem sv_tdiv (mx my : Bool) (X Y : Nat) : sv (mx != my) (X / Y) = (sv mx X).tdiv (sv my Y) := by
  unfold sv
  cases mx <;> cases my <;> simp [Int.neg_tdiv, Int.tdiv_neg]
theorem tdiv_le (x y : Int) : (x.tdiv y).natAbs ≤ x.natAbs := by rw [Int.natAbs_tdiv]; exact Nat.div_le_self _ _
theorem tmod_sub (x y : Int) : x - x.tdiv y * y = x.tmod y := by
  have := Int.mul_tdiv_add_tmod x y
  rw [Int.mul_comm] at this
  omega
theorem tdiv_mul_le (x y : Int) : (x.tdiv y * y).natAbs ≤ x.natAbs := by
  rw [Int.natAbs_mul, Int.natAbs_tdiv]; exact Nat.div_mul_le_self _ _
theorem tmod_le (x y : Int) (hy : y ≠ 0) : (x.tmod y).natAbs < y.natAbs := by rw [Int.natAbs_tmod]; exact Nat.mod_lt _ (by omega)
theorem tz_zero : tz 0 = ⟨#[48]⟩ := ext_bytes ((Im.itoa_nonneg (Int.le_refl 0)).trans Im.dec_zero)
theorem tz_one : tz 1 = ⟨#[49]⟩ := ext_bytes (show Lib.itoa 1 = [49] by rw [Im.itoa_nonneg (by decide)]; exact Im.dec_small (by decide))
theorem tz_ne {z : Int} (h : z ≠ 0) : ¬ tz z = ⟨#[48]⟩ := fun e => h (by rw [← iv_tz z, e]; decide)
theorem size_pos {s : ByteArray} (hs : Cn s) : 1 ≤ s.size := by
  rw [← size_list]
  cases hl : s.data.toList with
  | nil => have := hs.canon; rw [hl] at this; exact absurd this (by decide)
  | cons _ _ => simp
theorem sgn_cases (z : Int) : z < 0 ∧ sgn z = -1 ∨ z = 0 ∧ sgn z = 0 ∨ 0 < z ∧ sgn z = 1 := by
  unfold sgn
  by_cases h : z = 0
  · exact .inr (.inl ⟨h, if_pos h⟩)
  · rw [if_neg h]
    by_cases h2 : z < 0
    · exact .inl ⟨h2, if_pos h2⟩
    · exact .inr (.inr ⟨by omega, if_neg h2⟩)

theorem quotient_mag (v u : Value) (X Y : Nat) (hY : 0 < Y) (w : World) (hx : RMag w v X) (hy : RMag w u Y) (hn1 : rnd X ≤ 40000) (hn2 : rnd Y ≤ 40000) :
    Calls Tryz.prog 76 #[v, u] w fun e w' => (∃ v1 v2, e = .returned (.tuple #[v1, v2]) ∧ RMag w' v1 (X / Y) ∧ RMag w' v2 (X % Y)) ∧ Below w.heap.size w w' := by
  obtain ⟨sx, cx, bx, ox, rfl, h1⟩ := hx
  obtain ⟨sy, cy, by_, oy, rfl, h2⟩ := hy
  exact quotient_any sx cx bx ox X sy cy by_ oy Y hY w h1 h2 hn1 hn2
set_option maxRecDepth 100000 in
set_option maxHeartbeats 2000000 in
theorem rdiv_a (s t : ByteArray) (mx my : Bool) (d1 d2 : ByteArray) (X Y : Nat) (q0 r0 y0 : Int) (hY : 0 < Y) (nx : rnd X ≤ 20000) (ny : rnd Y ≤ 20000) (hq : sv (mx != my) (X / Y) = q0)
    (C1 : Hid (∀ W, Calls Tryz.prog 45 #[.string s] W fun e w' => e = .returned (.tuple #[.bool mx, .string d1]) ∧ ∃ k, w' = W.drewN k)) (C2 : Hid (∀ W, Calls Tryz.prog 45 #[.string t] W fun e w' => e = .returned (.tuple #[.bool my, .string d2]) ∧ ∃ k, w' = W.drewN k))
    (G1 : Hid (∀ W, Calls Tryz.prog 69 #[.string d1] W fun e w' => (∃ v, e = .returned v ∧ RMag w' v X) ∧ Below W.heap.size W w')) (G2 : Hid (∀ W, Calls Tryz.prog 69 #[.string d2] W fun e w' => (∃ v, e = .returned v ∧ RMag w' v Y) ∧ Below W.heap.size W w'))
    (M : Hid (∀ W, Gi W → Calls Tryz.prog 37 #[.string (tz q0), .string t] W fun e w' => e = .returned (.string (tz (q0 * y0))) ∧ Below W.heap.size W w'))
    (S : Hid (∀ W, Gi W → Calls Tryz.prog 34 #[.string s, .string (tz (q0 * y0))] W fun e w' => e = .returned (.string (tz r0)) ∧ Below W.heap.size W w'))
    (hr : r0 = 0) (w : World) (G : Gi w) :
    Calls Tryz.prog 40 #[.string s, .string t] w fun e w' => e = .returned (.tuple #[.string (tz (q0)), .string (tz (0))]) ∧ Below w.heap.size w w' := by
  subst hr
  rw [tz_zero] at S
  have HZ := Lib.hid tz_zero
  rw [tz_zero]
  go_enter Tryz.func40, Tryz.ntmps40
  go_wp2_with fail
  refine (C1.out _).mono ?_
  rintro e w1 ⟨rfl, m1, hw1⟩
  have q1 : Below w.heap.size w w1 := by rw [hw1]; exact drew_below _ _
  clear hw1
  go_wp2_with fail
  refine (C2.out _).mono ?_
  rintro e w2 ⟨rfl, m2, hw2⟩
  have q2 : Below w.heap.size w w2 := by rw [hw2]; exact q1.trans (drew_below _ _ |>.mono q1.size)
  clear hw2
  go_wp2_with fail
  refine (G1.out _).mono ?_
  rintro e w3 ⟨⟨v3, rfl, h3⟩, hb3⟩
  have q3 := q2.trans (hb3.mono q2.size)
  go_wp2_with fail
  refine (G2.out _).mono ?_
  rintro e w4 ⟨⟨v4, rfl, h4⟩, hb4⟩
  have q4 := q3.trans (hb4.mono q3.size)
  have h3' := h3.call hb4
  go_wp2_with fail
  refine (quotient_mag v3 v4 X Y hY w4 h3' h4 (by omega) (by omega)).mono ?_
  rintro e w5 ⟨⟨v5, v6, rfl, h5, h6⟩, hb5⟩
  have q5 := q4.trans (hb5.mono q4.size)
  go_wp2_with fail
  refine (whole_any (mx != my) v5 _ _ h5 (by have := rnd_mono2 (Nat.div_le_self X Y); omega) (G.below q5)).mono ?_
  rintro e w6 ⟨rfl, hb6⟩
  rw [hq]
  have q6 := q5.trans (hb6.mono q5.size)
  go_wp2_with fail
  refine (M.out _ (G.below q6)).mono ?_
  rintro e w7 ⟨rfl, hb7⟩
  have q7 := q6.trans (hb7.mono q6.size)
  go_wp2_with fail
  refine (S.out _ (G.below q7)).mono ?_
  rintro e w8 ⟨rfl, hb8⟩
  have q8 := q7.trans (hb8.mono q7.size)
  clear h3 h4 h3' h5 h6
  go_wp2
  exact bodyPost_ret (v := .tuple #[.string (tz q0), .string ⟨#[48]⟩]) (by simp [results, Tryz.results40, go_sem]) rfl ⟨rfl, q8⟩
set_option maxRecDepth 100000 in
set_option maxHeartbeats 2000000 in
theorem rdiv_b (s t : ByteArray) (mx my : Bool) (d1 d2 : ByteArray) (X Y : Nat) (q0 r0 y0 : Int) (hY : 0 < Y) (nx : rnd X ≤ 20000) (ny : rnd Y ≤ 20000) (hq : sv (mx != my) (X / Y) = q0)
    (C1 : Hid (∀ W, Calls Tryz.prog 45 #[.string s] W fun e w' => e = .returned (.tuple #[.bool mx, .string d1]) ∧ ∃ k, w' = W.drewN k)) (C2 : Hid (∀ W, Calls Tryz.prog 45 #[.string t] W fun e w' => e = .returned (.tuple #[.bool my, .string d2]) ∧ ∃ k, w' = W.drewN k))
    (G1 : Hid (∀ W, Calls Tryz.prog 69 #[.string d1] W fun e w' => (∃ v, e = .returned v ∧ RMag w' v X) ∧ Below W.heap.size W w')) (G2 : Hid (∀ W, Calls Tryz.prog 69 #[.string d2] W fun e w' => (∃ v, e = .returned v ∧ RMag w' v Y) ∧ Below W.heap.size W w'))
    (M : Hid (∀ W, Gi W → Calls Tryz.prog 37 #[.string (tz q0), .string t] W fun e w' => e = .returned (.string (tz (q0 * y0))) ∧ Below W.heap.size W w'))
    (S : Hid (∀ W, Gi W → Calls Tryz.prog 34 #[.string s, .string (tz (q0 * y0))] W fun e w' => e = .returned (.string (tz r0)) ∧ Below W.heap.size W w'))
    (g1 g2 : Int) (hg : g1 = g2) (hr : r0 ≠ 0) (SG : Hid (∀ W, Calls Tryz.prog 26 #[.string (tz r0)] W fun e w' => e = .returned (.int .i64 g1) ∧ Below W.heap.size W w')) (SH : Hid (∀ W, Calls Tryz.prog 26 #[.string t] W fun e w' => e = .returned (.int .i64 g2) ∧ Below W.heap.size W w')) (w : World) (G : Gi w) :
    Calls Tryz.prog 40 #[.string s, .string t] w fun e w' => e = .returned (.tuple #[.string (tz (q0)), .string (tz (r0))]) ∧ Below w.heap.size w w' := by
  subst hg
  obtain ⟨rs, hrs⟩ : ∃ rs, tz r0 = rs := ⟨_, rfl⟩
  have hr1 : ¬ rs = ⟨#[48]⟩ := by rw [← hrs]; exact tz_ne hr
  have hr2 : ¬ rs.toList = [48] := fun e => hr1 (ext_bytes (by rw [← toList_eq]; exact e))
  have hr3 : (rs.toList == [48]) = false := by rw [beq_eq_false_iff_ne]; exact hr2
  rw [hrs] at S SG ⊢
  clear hrs hr
  go_enter Tryz.func40, Tryz.ntmps40
  go_wp2_with fail
  refine (C1.out _).mono ?_
  rintro e w1 ⟨rfl, m1, hw1⟩
  have q1 : Below w.heap.size w w1 := by rw [hw1]; exact drew_below _ _
  clear hw1
  go_wp2_with fail
  refine (C2.out _).mono ?_
  rintro e w2 ⟨rfl, m2, hw2⟩
  have q2 : Below w.heap.size w w2 := by rw [hw2]; exact q1.trans (drew_below _ _ |>.mono q1.size)
  clear hw2
  go_wp2_with fail
  refine (G1.out _).mono ?_
  rintro e w3 ⟨⟨v3, rfl, h3⟩, hb3⟩
  have q3 := q2.trans (hb3.mono q2.size)
  go_wp2_with fail
  refine (G2.out _).mono ?_
  rintro e w4 ⟨⟨v4, rfl, h4⟩, hb4⟩
  have q4 := q3.trans (hb4.mono q3.size)
  have h3' := h3.call hb4
  go_wp2_with fail
  refine (quotient_mag v3 v4 X Y hY w4 h3' h4 (by omega) (by omega)).mono ?_
  rintro e w5 ⟨⟨v5, v6, rfl, h5, h6⟩, hb5⟩
  have q5 := q4.trans (hb5.mono q4.size)
  go_wp2_with fail
  refine (whole_any (mx != my) v5 _ _ h5 (by have := rnd_mono2 (Nat.div_le_self X Y); omega) (G.below q5)).mono ?_
  rintro e w6 ⟨rfl, hb6⟩
  rw [hq]
  have q6 := q5.trans (hb6.mono q5.size)
  go_wp2_with fail
  refine (M.out _ (G.below q6)).mono ?_
  rintro e w7 ⟨rfl, hb7⟩
  have q7 := q6.trans (hb7.mono q6.size)
  go_wp2_with fail
  refine (S.out _ (G.below q7)).mono ?_
  rintro e w8 ⟨rfl, hb8⟩
  have q8 := q7.trans (hb8.mono q7.size)
  clear h3 h4 h3' h5 h6
  go_wp2_with fail
  refine (SG.out _).mono ?_
  rintro e w9 ⟨rfl, hb9⟩
  have q9 := q8.trans (hb9.mono q8.size)
  go_wp2_with fail
  refine (SH.out _).mono ?_
  rintro e w10 ⟨rfl, hb10⟩
  have q10 := q9.trans (hb10.mono q9.size)
  go_wp2
  exact bodyPost_ret (v := .tuple #[.string (tz q0), .string rs]) (by simp [results, Tryz.results40, go_sem]) rfl ⟨rfl, q10⟩
set_option maxRecDepth 100000 in
set_option maxHeartbeats 2000000 in
theorem rdiv_c3 (s t : ByteArray) (mx my : Bool) (d1 d2 : ByteArray) (X Y : Nat) (q0 r0 y0 : Int) (hY : 0 < Y) (nx : rnd X ≤ 20000) (ny : rnd Y ≤ 20000) (hq : sv (mx != my) (X / Y) = q0)
    (C1 : Hid (∀ W, Calls Tryz.prog 45 #[.string s] W fun e w' => e = .returned (.tuple #[.bool mx, .string d1]) ∧ ∃ k, w' = W.drewN k)) (C2 : Hid (∀ W, Calls Tryz.prog 45 #[.string t] W fun e w' => e = .returned (.tuple #[.bool my, .string d2]) ∧ ∃ k, w' = W.drewN k))
    (G1 : Hid (∀ W, Calls Tryz.prog 69 #[.string d1] W fun e w' => (∃ v, e = .returned v ∧ RMag w' v X) ∧ Below W.heap.size W w')) (G2 : Hid (∀ W, Calls Tryz.prog 69 #[.string d2] W fun e w' => (∃ v, e = .returned v ∧ RMag w' v Y) ∧ Below W.heap.size W w'))
    (M : Hid (∀ W, Gi W → Calls Tryz.prog 37 #[.string (tz q0), .string t] W fun e w' => e = .returned (.string (tz (q0 * y0))) ∧ Below W.heap.size W w'))
    (S : Hid (∀ W, Gi W → Calls Tryz.prog 34 #[.string s, .string (tz (q0 * y0))] W fun e w' => e = .returned (.string (tz r0)) ∧ Below W.heap.size W w'))
    (g1 g2 : Int) (hg : ¬ g1 = g2) (hr : r0 ≠ 0) (SG : Hid (∀ W, Calls Tryz.prog 26 #[.string (tz r0)] W fun e w' => e = .returned (.int .i64 g1) ∧ Below W.heap.size W w')) (SH : Hid (∀ W, Calls Tryz.prog 26 #[.string t] W fun e w' => e = .returned (.int .i64 g2) ∧ Below W.heap.size W w')) (S1 : Hid (∀ W, Gi W → Calls Tryz.prog 34 #[.string (tz q0), .string ⟨#[49]⟩] W fun e w' => e = .returned (.string (tz (q0 - 1))) ∧ Below W.heap.size W w'))
    (A1 : Hid (∀ W, Gi W → Calls Tryz.prog 31 #[.string (tz r0), .string t] W fun e w' => e = .returned (.string (tz (r0 + y0))) ∧ Below W.heap.size W w')) (w : World) (G : Gi w) :
    Calls Tryz.prog 40 #[.string s, .string t] w fun e w' => e = .returned (.tuple #[.string (tz (q0 - 1)), .string (tz (r0 + y0))]) ∧ Below w.heap.size w w' := by
  have hgb : (g1 == g2) = false := by rw [beq_eq_false_iff_ne]; exact hg
  have hgc : (g1 != g2) = true := by simp [bne, hgb]
  obtain ⟨fin, hfin⟩ : ∃ fin, tz (r0 + y0) = fin := ⟨_, rfl⟩
  rw [hfin] at A1 ⊢
  clear hfin
  obtain ⟨rs, hrs⟩ : ∃ rs, tz r0 = rs := ⟨_, rfl⟩
  have hr1 : ¬ rs = ⟨#[48]⟩ := by rw [← hrs]; exact tz_ne hr
  have hr2 : ¬ rs.toList = [48] := fun e => hr1 (ext_bytes (by rw [← toList_eq]; exact e))
  have hr3 : (rs.toList == [48]) = false := by rw [beq_eq_false_iff_ne]; exact hr2
  rw [hrs] at S SG A1 
  clear hrs hr
  go_enter Tryz.func40, Tryz.ntmps40
  go_wp2_with fail
  refine (C1.out _).mono ?_
  rintro e w1 ⟨rfl, m1, hw1⟩
  have q1 : Below w.heap.size w w1 := by rw [hw1]; exact drew_below _ _
  clear hw1
  go_wp2_with fail
  refine (C2.out _).mono ?_
  rintro e w2 ⟨rfl, m2, hw2⟩
  have q2 : Below w.heap.size w w2 := by rw [hw2]; exact q1.trans (drew_below _ _ |>.mono q1.size)
  clear hw2
  go_wp2_with fail
  refine (G1.out _).mono ?_
  rintro e w3 ⟨⟨v3, rfl, h3⟩, hb3⟩
  have q3 := q2.trans (hb3.mono q2.size)
  go_wp2_with fail
  refine (G2.out _).mono ?_
  rintro e w4 ⟨⟨v4, rfl, h4⟩, hb4⟩
  have q4 := q3.trans (hb4.mono q3.size)
  have h3' := h3.call hb4
  go_wp2_with fail
  refine (quotient_mag v3 v4 X Y hY w4 h3' h4 (by omega) (by omega)).mono ?_
  rintro e w5 ⟨⟨v5, v6, rfl, h5, h6⟩, hb5⟩
  have q5 := q4.trans (hb5.mono q4.size)
  go_wp2_with fail
  refine (whole_any (mx != my) v5 _ _ h5 (by have := rnd_mono2 (Nat.div_le_self X Y); omega) (G.below q5)).mono ?_
  rintro e w6 ⟨rfl, hb6⟩
  rw [hq]
  have q6 := q5.trans (hb6.mono q5.size)
  go_wp2_with fail
  refine (M.out _ (G.below q6)).mono ?_
  rintro e w7 ⟨rfl, hb7⟩
  have q7 := q6.trans (hb7.mono q6.size)
  go_wp2_with fail
  refine (S.out _ (G.below q7)).mono ?_
  rintro e w8 ⟨rfl, hb8⟩
  have q8 := q7.trans (hb8.mono q7.size)
  clear h3 h4 h3' h5 h6
  go_wp2_with fail
  refine (SG.out _).mono ?_
  rintro e w9 ⟨rfl, hb9⟩
  have q9 := q8.trans (hb9.mono q8.size)
  go_wp2_with fail
  refine (SH.out _).mono ?_
  rintro e w10 ⟨rfl, hb10⟩
  have q10 := q9.trans (hb10.mono q9.size)
  go_wp2_with fail
  refine (S1.out _ (G.below q10)).mono ?_
  rintro e w11 ⟨rfl, hb11⟩
  have q11 := q10.trans (hb11.mono q10.size)
  go_wp2_with fail
  refine (A1.out _ (G.below q11)).mono ?_
  rintro e w12 ⟨rfl, hb12⟩
  have q12 := q11.trans (hb12.mono q11.size)
  go_wp2
  exact bodyPost_ret (v := .tuple #[.string (tz (q0 - 1)), .string fin]) (by simp [results, Tryz.results40, go_sem]) rfl ⟨rfl, q12⟩
theorem rdiv_c (s t : ByteArray) (hs : Cn s) (ht : Cn t) (ls : s.size ≤ 9000) (lt : t.size ≤ 9000) (h0 : iv t ≠ 0) (w : World) (G : Gi w) :
    Calls Tryz.prog 40 #[.string s, .string t] w fun e w' => e = .returned (.tuple #[.string (tz (dvQ (iv s) (iv t))), .string (tz (dvR (iv s) (iv t)))]) ∧ Below w.heap.size w w' := by
  obtain ⟨mx, d1, X, ex, n1, o1, z1, p1, b1, C1, G1⟩ := group_c s hs (by omega)
  obtain ⟨my, d2, Y, ey, n2, o2, z2, p2, b2, C2, G2⟩ := group_c t ht (by omega)
  have hs1 := size_pos hs
  have ht1 := size_pos ht
  have kx := iv_lt_size hs
  have ky := iv_lt_size ht
  have hY : 0 < Y := by
    rcases Nat.eq_zero_or_pos Y with h | h
    · exfalso; apply h0; rw [ey, h]; cases my <;> rfl
    · exact h
  have hq : sv (mx != my) (X / Y) = (iv s).tdiv (iv t) := by rw [ex, ey]; exact sv_tdiv mx my X Y
  have tm := tmod_sub (iv s) (iv t)
  have kq : ((iv s).tdiv (iv t)).natAbs < 10 ^ s.size := Nat.lt_of_le_of_lt (tdiv_le _ _) kx
  have kp : ((iv s).tdiv (iv t) * iv t).natAbs < 10 ^ s.size := Nat.lt_of_le_of_lt (tdiv_mul_le _ _) kx
  have kr : ((iv s).tmod (iv t)).natAbs < 10 ^ t.size := Nat.lt_trans (tmod_le _ _ h0) ky
  have cq := cn_tz kq hs1 (by omega)
  have cp := cn_tz kp hs1 (by omega)
  have cr := cn_tz kr ht1 (by omega)
  have lq := len_tz kq hs1
  have lp := len_tz kp hs1
  have lr := len_tz kr ht1
  have M := fun W G => rmul_c _ t cq ht (by omega) (by omega) W G
  rw [iv_tz] at M
  have S := fun W G => rsub_c s _ hs cp (by omega) (by omega) W G
  rw [iv_tz, tm] at S
  have SG := fun W => rsign_c _ cr W
  rw [iv_tz] at SG
  have SH := fun W => rsign_c t ht W
  have S1 := fun W G => rsub_c _ ⟨#[49]⟩ cq cn_one (by omega) (by show 1 ≤ 30000; decide) W G
  rw [iv_tz, iv_one] at S1
  have A1 := fun W G => radd_c _ t cr ht (by omega) (by omega) W G
  rw [iv_tz] at A1
  unfold dvQ dvR
  by_cases hr : (iv s).tmod (iv t) = 0
  · have hc : dvC (iv s) (iv t) = false := by unfold dvC; rw [hr]; rfl
    rw [hc, if_neg (by decide), if_neg (by decide), hr]
    exact rdiv_a s t mx my d1 d2 X Y _ _ (iv t) hY (by omega) (by omega) hq (Lib.hid C1) (Lib.hid C2) (Lib.hid G1) (Lib.hid G2) (Lib.hid M) (Lib.hid S) hr w G
  · have hrb : ((iv s).tmod (iv t) != 0) = true := by simpa using hr
    by_cases hg : sgn ((iv s).tmod (iv t)) = sgn (iv t)
    · have hc : dvC (iv s) (iv t) = false := by
        unfold dvC
        rw [hrb, Bool.true_and]
        rcases sgn_cases ((iv s).tmod (iv t)) with ⟨a1, a2⟩ | ⟨a1, a2⟩ | ⟨a1, a2⟩
        · rcases sgn_cases (iv t) with ⟨c1, c2⟩ | ⟨c1, c2⟩ | ⟨c1, c2⟩
          · simp [a1, c1]
          · rw [a2, c2] at hg; exact absurd hg (by decide)
          · rw [a2, c2] at hg; exact absurd hg (by decide)
        · exact absurd a1 hr
        · rcases sgn_cases (iv t) with ⟨c1, c2⟩ | ⟨c1, c2⟩ | ⟨c1, c2⟩
          · rw [a2, c2] at hg; exact absurd hg (by decide)
          · rw [a2, c2] at hg; exact absurd hg (by decide)
          · simp [show ¬ (iv s).tmod (iv t) < 0 by omega, show ¬ iv t < 0 by omega]
      rw [hc, if_neg (by decide), if_neg (by decide)]
      exact rdiv_b s t mx my d1 d2 X Y _ _ (iv t) hY (by omega) (by omega) hq (Lib.hid C1) (Lib.hid C2) (Lib.hid G1) (Lib.hid G2) (Lib.hid M) (Lib.hid S) _ _ hg hr (Lib.hid SG) (Lib.hid SH) w G
    · have hc : dvC (iv s) (iv t) = true := by
        unfold dvC
        rw [hrb, Bool.true_and]
        rcases sgn_cases ((iv s).tmod (iv t)) with ⟨a1, a2⟩ | ⟨a1, a2⟩ | ⟨a1, a2⟩
        · rcases sgn_cases (iv t) with ⟨c1, c2⟩ | ⟨c1, c2⟩ | ⟨c1, c2⟩
          · rw [a2, c2] at hg; exact absurd rfl hg
          · exact absurd c1 h0
          · simp [a1, show ¬ iv t < 0 by omega]
        · exact absurd a1 hr
        · rcases sgn_cases (iv t) with ⟨c1, c2⟩ | ⟨c1, c2⟩ | ⟨c1, c2⟩
          · simp [show ¬ (iv s).tmod (iv t) < 0 by omega, c1]
          · exact absurd c1 h0
          · rw [a2, c2] at hg; exact absurd rfl hg
      rw [hc, if_pos rfl, if_pos rfl]
      exact rdiv_c3 s t mx my d1 d2 X Y _ _ (iv t) hY (by omega) (by omega) hq (Lib.hid C1) (Lib.hid C2) (Lib.hid G1) (Lib.hid G2) (Lib.hid M) (Lib.hid S) _ _ hg hr (Lib.hid SG) (Lib.hid SH) (Lib.hid S1) (Lib.hid A1) w G
end Go.Proofs.YtnchodofgaaeeaaGreatDoor
