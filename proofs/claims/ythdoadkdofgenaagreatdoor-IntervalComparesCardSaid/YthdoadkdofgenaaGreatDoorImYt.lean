/- The reference's Neg, Sign, Add, Sub, Compare and Mul over canonical integers. -/
import Derived.Test.YthdoadkdofgenaaGreatDoorImYd
import Derived.Test.YthdoadkdofgenaaGreatDoorImYh
import Derived.Test.YthdoadkdofgenaaGreatDoorImYs
import Derived.Test.YthdoadkdofgenaaGreatDoorImYq
namespace Go.Proofs.YthdoadkdofgenaaGreatDoor
open Go Go.RowKit Go.Shelf

theorem iv_sv {s : ByteArray} (_h : Im.canonI s.data.toList = true) : iv s = sv (mns s.data.toList) (Im.valL (Im.dgs s.data.toList)) := by
  unfold iv Im.ivL mns Im.dgs sv
  by_cases h : s.data.toList.head? = some 45
  · rw [if_pos h, if_pos h, decide_eq_true h]; rfl
  · rw [if_neg h, if_neg h, decide_eq_false h]; rfl
theorem mns_iff {s : ByteArray} (h : Im.canonI s.data.toList = true) : mns s.data.toList = decide (iv s < 0) := by
  unfold mns
  have e := Im.itoa_ivL h
  congr 1
  apply propext
  rw [← Im.itoa_head (iv s)]
  unfold iv
  rw [e]
theorem neg_minus {s : ByteArray} (h : Im.canonI s.data.toList = true) (hm : mns s.data.toList = true) : tz (-iv s) = ⟨(Im.dgs s.data.toList).toArray⟩ := by
  have hz : iv s < 0 := by rw [mns_iff h] at hm; simpa using hm
  have e : Lib.itoa (iv s) = s.data.toList := Im.itoa_ivL h
  apply ext_bytes
  show Lib.itoa (-iv s) = Im.dgs s.data.toList
  rw [← e, Im.dgs_itoa, Im.itoa_nonneg (by omega), show (-iv s).toNat = (iv s).natAbs by omega]
theorem neg_plus {s : ByteArray} (h : Im.canonI s.data.toList = true) (hm : mns s.data.toList = false) (h0 : s.data.toList ≠ [48]) : tz (-iv s) = ⟨(45 :: s.data.toList).toArray⟩ := by
  have hz : ¬ iv s < 0 := by rw [mns_iff h] at hm; simpa using hm
  have e : Lib.itoa (iv s) = s.data.toList := Im.itoa_ivL h
  have hz0 : iv s ≠ 0 := fun hz => h0 (by rw [← e, hz]; exact (Im.itoa_nonneg (Int.le_refl 0)).trans Im.dec_zero)
  apply ext_bytes
  show Lib.itoa (-iv s) = 45 :: s.data.toList
  rw [Im.itoa_neg (by omega), ← e, Im.itoa_nonneg (by omega), show (-iv s).natAbs = (iv s).toNat by omega]
theorem iv_zero {s : ByteArray} (h : s.data.toList = [48]) : iv s = 0 := by unfold iv; rw [h]; decide
theorem zero_iv {s : ByteArray} (h : Im.canonI s.data.toList = true) : s.data.toList = [48] ↔ iv s = 0 := by
  refine ⟨iv_zero, fun hz => ?_⟩
  have e : Lib.itoa (iv s) = s.data.toList := Im.itoa_ivL h
  rw [← e, hz]; exact (Im.itoa_nonneg (Int.le_refl 0)).trans Im.dec_zero

theorem rneg_c (s : ByteArray) (hs : Cn s) (w : World) :
    Calls Tryz.prog 112 #[.string s] w fun e w' => e = .returned (.string (tz (-iv s))) ∧ Below w.heap.size w w' := by
  have C := Lib.hid (fun W => cut_any s (by have := hs.size; omega) W)
  have hsz := hs.size
  by_cases h0 : s.data.toList = [48]
  · have e : tz (-iv s) = ⟨#[48]⟩ := by rw [iv_zero h0]; exact ext_bytes ((Im.itoa_nonneg (Int.le_refl 0)).trans Im.dec_zero)
    rw [e]
    obtain rfl : s = ⟨#[48]⟩ := ext_bytes h0
    rw [show mns (ByteArray.mk #[48]).data.toList = false by decide, show Im.dgs (ByteArray.mk #[48]).data.toList = [48] by decide] at C
    clear e h0
    go_enter Tryz.func112, Tryz.ntmps112
    go_wp2_with fail
    refine (C.out _).mono ?_
    rintro e w1 ⟨rfl, m1, rfl⟩
    go_wp2
    go_ret
    exact ⟨rfl, drew_below _ _⟩
  · have h0' : ¬ s.toList = [48] := by rw [toList_eq]; exact h0
    have h0b : (s.toList == [48]) = false := by rw [beq_eq_false_iff_ne]; exact h0'
    have h0s : ¬ s = ⟨#[48]⟩ := fun e => h0 (by rw [e])
    cases hm : mns s.data.toList with
    | true =>
      have e := neg_minus hs.canon hm
      rw [e]
      rw [hm] at C
      clear e hs hm h0
      generalize Im.dgs s.data.toList = d at *
      go_enter Tryz.func112, Tryz.ntmps112
      go_wp2_with fail
      refine (C.out _).mono ?_
      rintro e w1 ⟨rfl, m1, rfl⟩
      go_wp2
      go_ret
      exact ⟨rfl, drew_below _ _⟩
    | false =>
      have e := neg_plus hs.canon hm h0
      rw [e]
      rw [hm] at C
      have hcl : ¬ 9223372036854775807 < 1 + s.size := by omega
      have HE := Lib.hid (show (ByteArray.mk (45 :: s.data.toList).toArray) = ⟨#[45]⟩ ++ s from ext_bytes (by simp))
      clear e hs hm h0
      generalize Im.dgs s.data.toList = d at *
      go_enter Tryz.func112, Tryz.ntmps112
      go_wp2_with fail
      refine (C.out _).mono ?_
      rintro e w1 ⟨rfl, m1, rfl⟩
      go_wp2
      go_ret
      exact ⟨by rw [HE.out]; rfl, drew_below _ _⟩
theorem rsign_c (s : ByteArray) (hs : Cn s) (w : World) :
    Calls Tryz.prog 85 #[.string s] w fun e w' => e = .returned (.int .i64 (sgn (iv s))) ∧ Below w.heap.size w w' := by
  have C := Lib.hid (fun W => cut_any s (by have := hs.size; omega) W)
  have T0 := Lib.hid (fun W => toInt_any false W)
  have T1 := Lib.hid (fun W => toInt_any true W)
  have hmi := mns_iff hs.canon
  by_cases h0 : s.data.toList = [48]
  · have e : sgn (iv s) = 0 := by rw [iv_zero h0]; rfl
    rw [e]
    obtain rfl : s = ⟨#[48]⟩ := ext_bytes h0
    rw [show mns (ByteArray.mk #[48]).data.toList = false by decide, show Im.dgs (ByteArray.mk #[48]).data.toList = [48] by decide] at C
    clear e h0 hmi
    go_enter Tryz.func85, Tryz.ntmps85
    go_wp2_with fail
    refine (C.out _).mono ?_
    rintro e w1 ⟨rfl, m1, rfl⟩
    go_wp2
    go_ret
    exact ⟨rfl, drew_below _ _⟩
  · have h0' : ¬ s.toList = [48] := by rw [toList_eq]; exact h0
    have h0b : (s.toList == [48]) = false := by rw [beq_eq_false_iff_ne]; exact h0'
    have h0s : ¬ s = ⟨#[48]⟩ := fun e => h0 (by rw [e])
    have hz0 : iv s ≠ 0 := fun e => h0 ((zero_iv hs.canon).2 e)
    cases hm : mns s.data.toList with
    | true =>
      have hz : iv s < 0 := by rw [hmi] at hm; simpa using hm
      have e : sgn (iv s) = -1 := by unfold sgn; rw [if_neg hz0, if_pos hz]
      rw [e]
      rw [hm] at C
      clear e hs hm h0 hmi hz hz0
      generalize Im.dgs s.data.toList = d at *
      go_enter Tryz.func85, Tryz.ntmps85
      go_wp2_with fail
      refine (C.out _).mono ?_
      rintro e w1 ⟨rfl, m1, rfl⟩
      go_wp2_with fail
      refine (T1.out _).mono ?_
      rintro e w2 ⟨rfl, hww⟩
      subst w2
      go_wp2
      go_ret
      exact ⟨rfl, drew_below _ _⟩
    | false =>
      have hz : ¬ iv s < 0 := by rw [hmi] at hm; simpa using hm
      have e : sgn (iv s) = 1 := by unfold sgn; rw [if_neg hz0, if_neg hz]
      rw [e]
      rw [hm] at C
      clear e hs hm h0 hmi hz hz0
      generalize Im.dgs s.data.toList = d at *
      go_enter Tryz.func85, Tryz.ntmps85
      go_wp2_with fail
      refine (C.out _).mono ?_
      rintro e w1 ⟨rfl, m1, rfl⟩
      go_wp2_with fail
      refine (T0.out _).mono ?_
      rintro e w2 ⟨rfl, hww⟩
      subst w2
      go_wp2
      go_ret
      exact ⟨rfl, drew_below _ _⟩

/-- What Cut and group make of a canonical integer. -/
theorem group_c (s : ByteArray) (hs : Cn s) (hl : s.size ≤ 40000) :
    ∃ (m : Bool) (d : ByteArray) (X : Nat), iv s = sv m X ∧ rnd X ≤ d.size ∧ 1 ≤ d.size ∧ d.size ≤ s.size ∧ X < 10 ^ d.size ∧
      (smallB s.data.toList = decide (d.size ≤ 18)) ∧
      (∀ W, Calls Tryz.prog 81 #[.string s] W fun e w' => e = .returned (.tuple #[.bool m, .string d]) ∧ ∃ k, w' = W.drewN k) ∧
      (∀ W, Calls Tryz.prog 84 #[.string d] W fun e w' => (∃ v, e = .returned v ∧ RMag w' v X) ∧ Below W.heap.size W w') := by
  obtain ⟨c1, c2⟩ := Im.canonI_canon hs.canon
  obtain ⟨c3, c4, c5⟩ := Im.canonL_iff.1 c1
  have hlen := dgs_len s.data.toList
  rw [size_list] at hlen
  have hsz : (ByteArray.mk (Im.dgs s.data.toList).toArray).size = (Im.dgs s.data.toList).length := size_mk _
  have h1 : 1 ≤ (Im.dgs s.data.toList).length := by
    cases hd : Im.dgs s.data.toList with
    | nil => exact absurd hd c3
    | cons _ _ => simp
  have hlt := Im.val_lt c4
  refine ⟨mns s.data.toList, ⟨(Im.dgs s.data.toList).toArray⟩, Im.valL (Im.dgs s.data.toList), iv_sv hs.canon, ?_, by rw [hsz]; exact h1, by rw [hsz]; exact hlen, by rw [hsz]; exact hlt, ?_, fun W => cut_any s (by omega) W, fun W => ?_⟩
  · rw [hsz]
    exact Im.nd_le rb2 (Nat.lt_of_lt_of_le hlt (Nat.pow_le_pow_left (by unfold RB; omega) _))
  · rw [hsz]; unfold smallB; rw [hs.canon, Bool.true_and]
  · exact group_any ⟨(Im.dgs s.data.toList).toArray⟩ (by rw [hsz]; omega) (by rw [hsz]; exact h1) c4 W
theorem cmp_lt {X Y : Nat} (h : X < Y) : cmpN X Y = -1 := by unfold cmpN; rw [if_pos h]
theorem cmp_ge {X Y : Nat} (h : ¬ X < Y) : ∃ c : Nat, cmpN X Y = (c : Int) ∧ c ≤ 1 := by
  unfold cmpN
  rw [if_neg h]
  by_cases h2 : Y < X
  · rw [if_pos h2]; exact ⟨1, rfl, by decide⟩
  · rw [if_neg h2]; exact ⟨0, rfl, by decide⟩
theorem rnd_add {x y k : Nat} (hx : rnd x ≤ k) (hy : rnd y ≤ k) : rnd (x + y) ≤ k + 1 := by
  refine Im.nd_le rb2 ?_
  have h1 := Nat.lt_of_lt_of_le (Im.lt_pow_nd rb2 x) (Nat.pow_le_pow_right (by unfold RB; omega) hx)
  have h2 := Nat.lt_of_lt_of_le (Im.lt_pow_nd rb2 y) (Nat.pow_le_pow_right (by unfold RB; omega) hy)
  rw [Nat.pow_succ]
  generalize RB ^ k = p at *
  unfold RB
  omega
theorem rnd_mono {x y : Nat} (h : x ≤ y) : rnd x ≤ rnd y := Im.nd_mono rb2 h
theorem rnd_mul (x y : Nat) : rnd (x * y) ≤ rnd x + rnd y := by
  refine Im.nd_le rb2 ?_
  rw [Nat.pow_add]
  exact Nat.mul_lt_mul'' (Im.lt_pow_nd rb2 _) (Im.lt_pow_nd rb2 _)

set_option maxHeartbeats 1000000 in
theorem radd_few (s t : ByteArray) (hs : Cn s) (ht : Cn t) (ls : s.size ≤ 40000) (lt : t.size ≤ 40000) (mx my : Bool) (d1 d2 : ByteArray) (X Y : Nat) (ex : iv s = sv mx X) (ey : iv t = sv my Y) (_bx : X < 10 ^ d1.size) (_by : Y < 10 ^ d2.size) (b1 : smallB s.data.toList = decide (d1.size ≤ 18)) (b2 : smallB t.data.toList = decide (d2.size ≤ 18)) (h1 : d1.size < 18) (h2 : d2.size < 18)
    (C1 : Hid (∀ W, Calls Tryz.prog 81 #[.string s] W fun e w' => e = .returned (.tuple #[.bool mx, .string d1]) ∧ ∃ k, w' = W.drewN k)) (C2 : Hid (∀ W, Calls Tryz.prog 81 #[.string t] W fun e w' => e = .returned (.tuple #[.bool my, .string d2]) ∧ ∃ k, w' = W.drewN k)) (w : World) (G : Gi w) :
    Calls Tryz.prog 60 #[.string s, .string t] w fun e w' => e = .returned (.string (tz (iv s + iv t))) ∧ Below w.heap.size w w' := by
  have S1 := Lib.hid (fun W => rsmall_any s (by omega) hs.canon W)
  have S2 := Lib.hid (fun W => rsmall_any t (by omega) ht.canon W)
  obtain ⟨v1, u1, u2⟩ := small_iv (s := s) (by rw [b1]; simp; omega)
  obtain ⟨v2, u3, u4⟩ := small_iv (s := t) (by rw [b2]; simp; omega)
  rw [v1, show smallB s.data.toList = true by rw [b1]; simp; omega] at S1
  rw [v2, show smallB t.data.toList = true by rw [b2]; simp; omega] at S2
  have O := Lib.hid (fun W G => rof_any (iv s + iv t) (by omega) (by omega) W G)
  clear hs ht ls lt ex ey _bx _by b1 b2 v1 v2
  have g1 : (d1.size : Int) < 18 := by omega
  have g2 : (d2.size : Int) < 18 := by omega
  generalize iv s = x at *
  generalize iv t = y at *
  go_enter Tryz.func60, Tryz.ntmps60
  go_wp2_with fail
  refine (C1.out _).mono ?_
  rintro e w1 ⟨rfl, m1, hw1⟩
  have q1 : Below w.heap.size w w1 := by rw [hw1]; exact drew_below _ _
  clear hw1
  go_wp2_with fail
  refine (C2.out _).mono ?_
  rintro e w2 ⟨rfl, m2, hw2⟩
  have q2 : Below w.heap.size w w2 := by rw [hw2]; exact q1.trans (drew_below _ _ |>.mono q1.size)
  clear hw2
  go_wp2_with fail
  refine (S1.out _).mono ?_
  rintro e w3 ⟨rfl, hb3⟩
  have q3 := q2.trans (hb3.mono q2.size)
  go_wp2_with fail
  refine (S2.out _).mono ?_
  rintro e w4 ⟨rfl, hb4⟩
  have q4 := q3.trans (hb4.mono q3.size)
  go_wp2_with fail
  refine (O.out _ (G.below q4)).mono ?_
  rintro e w5 ⟨rfl, hb5⟩
  go_wp2
  go_ret
  exact ⟨rfl, q4.trans (hb5.mono q4.size)⟩
set_option maxHeartbeats 1000000 in
theorem radd_bigA (s t : ByteArray) (mx my : Bool) (d1 d2 : ByteArray) (X Y : Nat) (nx : rnd X ≤ 40000) (ny : rnd Y ≤ 40000) (hc : 18 ≤ d1.size)
    (C1 : Hid (∀ W, Calls Tryz.prog 81 #[.string s] W fun e w' => e = .returned (.tuple #[.bool mx, .string d1]) ∧ ∃ k, w' = W.drewN k)) (C2 : Hid (∀ W, Calls Tryz.prog 81 #[.string t] W fun e w' => e = .returned (.tuple #[.bool my, .string d2]) ∧ ∃ k, w' = W.drewN k))
    (G1 : Hid (∀ W, Calls Tryz.prog 84 #[.string d1] W fun e w' => (∃ v, e = .returned v ∧ RMag w' v X) ∧ Below W.heap.size W w')) (G2 : Hid (∀ W, Calls Tryz.prog 84 #[.string d2] W fun e w' => (∃ v, e = .returned v ∧ RMag w' v Y) ∧ Below W.heap.size W w')) (w : World) (G : Gi w) :
    Calls Tryz.prog 60 #[.string s, .string t] w fun e w' => e = .returned (.string (tz (sv mx X + sv my Y))) ∧ Below w.heap.size w w' := by
  have g1 : ¬ (d1.size : Int) < 18 := by omega
  clear hc
  by_cases hm : mx = my
  · subst hm
    rw [sv_same]
    go_enter Tryz.func60, Tryz.ntmps60
    go_wp2_with fail
    refine (C1.out _).mono ?_
    rintro e w1 ⟨rfl, m1, hw1⟩
    have q1 : Below w.heap.size w w1 := by rw [hw1]; exact drew_below _ _
    clear hw1
    go_wp2_with fail
    refine (C2.out _).mono ?_
    rintro e w2 ⟨rfl, m2, hw2⟩
    have q2 : Below w.heap.size w w2 := by rw [hw2]; exact q1.trans (drew_below _ _ |>.mono q1.size)
    clear hw2
    go_wp2_with fail
    refine (G1.out _).mono ?_
    rintro e w3 ⟨⟨v3, rfl, h3⟩, hb3⟩
    have q3 := q2.trans (hb3.mono q2.size)
    go_wp2_with fail
    refine (G2.out _).mono ?_
    rintro e w4 ⟨⟨v4, rfl, h4⟩, hb4⟩
    have q4 := q3.trans (hb4.mono q3.size)
    have h3' := h3.call hb4
    obtain ⟨sx, cx, bx, ox, rfl, r3⟩ := h3'
    obtain ⟨sy, cy, by_, oy, rfl, r4⟩ := h4
    go_wp2_with fail
    refine (both_add sx _ cx bx ox _ sy _ cy by_ oy _ (X + Y) (by push_cast; omega) _ r3 r4 (by omega) (by omega)).mono ?_
    rintro e w5 ⟨⟨v5, rfl, h5⟩, hb5⟩
    have q5 := q4.trans (hb5.mono q4.size)
    go_wp2_with fail
    refine (whole_any mx v5 _ _ h5 (by have := rnd_add (k := 40000) nx ny; omega) (G.below q5)).mono ?_
    rintro e w6 ⟨rfl, hb6⟩
    go_wp2
    go_ret
    exact ⟨rfl, q5.trans (hb6.mono q5.size)⟩
  · have hmb : (mx == my) = false := by simpa using hm
    by_cases hl : X < Y
    · rw [sv_lt hm hl]
      go_enter Tryz.func60, Tryz.ntmps60
      go_wp2_with fail
      refine (C1.out _).mono ?_
      rintro e w1 ⟨rfl, m1, hw1⟩
      have q1 : Below w.heap.size w w1 := by rw [hw1]; exact drew_below _ _
      clear hw1
      go_wp2_with fail
      refine (C2.out _).mono ?_
      rintro e w2 ⟨rfl, m2, hw2⟩
      have q2 : Below w.heap.size w w2 := by rw [hw2]; exact q1.trans (drew_below _ _ |>.mono q1.size)
      clear hw2
      go_wp2_with fail
      refine (G1.out _).mono ?_
      rintro e w3 ⟨⟨v3, rfl, h3⟩, hb3⟩
      have q3 := q2.trans (hb3.mono q2.size)
      go_wp2_with fail
      refine (G2.out _).mono ?_
      rintro e w4 ⟨⟨v4, rfl, h4⟩, hb4⟩
      have q4 := q3.trans (hb4.mono q3.size)
      have h3' := h3.call hb4
      go_wp2_with fail
      refine (order_mag _ _ X Y _ h3' h4 (by omega)).mono ?_
      rintro e wo ⟨rfl, mo, hwo⟩
      have qo : Below w4.heap.size w4 wo := by rw [hwo]; exact drew_below _ _
      have h3o := h3'.call qo
      have h4o := h4.call qo
      have q4o := q4.trans (qo.mono q4.size)
      clear hwo
      rw [cmp_lt hl]
      obtain ⟨sx, cx, bx, ox, rfl, r3⟩ := h4o
      obtain ⟨sy, cy, by_, oy, rfl, r4⟩ := h3o
      go_wp2_with fail
      refine (both_sub sx _ cx bx ox _ sy _ cy by_ oy _ (Y - X) (by omega) _ r3 r4 (by omega) (by omega)).mono ?_
      rintro e w5 ⟨⟨v5, rfl, h5⟩, hb5⟩
      have q5 := q4o.trans (hb5.mono q4o.size)
      go_wp2_with fail
      refine (whole_any my v5 _ _ h5 (by have := rnd_mono (show Y - X ≤ Y by omega); omega) (G.below q5)).mono ?_
      rintro e w6 ⟨rfl, hb6⟩
      go_wp2
      go_ret
      exact ⟨rfl, q5.trans (hb6.mono q5.size)⟩
    · rw [sv_ge hm hl]
      go_enter Tryz.func60, Tryz.ntmps60
      go_wp2_with fail
      refine (C1.out _).mono ?_
      rintro e w1 ⟨rfl, m1, hw1⟩
      have q1 : Below w.heap.size w w1 := by rw [hw1]; exact drew_below _ _
      clear hw1
      go_wp2_with fail
      refine (C2.out _).mono ?_
      rintro e w2 ⟨rfl, m2, hw2⟩
      have q2 : Below w.heap.size w w2 := by rw [hw2]; exact q1.trans (drew_below _ _ |>.mono q1.size)
      clear hw2
      go_wp2_with fail
      refine (G1.out _).mono ?_
      rintro e w3 ⟨⟨v3, rfl, h3⟩, hb3⟩
      have q3 := q2.trans (hb3.mono q2.size)
      go_wp2_with fail
      refine (G2.out _).mono ?_
      rintro e w4 ⟨⟨v4, rfl, h4⟩, hb4⟩
      have q4 := q3.trans (hb4.mono q3.size)
      have h3' := h3.call hb4
      go_wp2_with fail
      refine (order_mag _ _ X Y _ h3' h4 (by omega)).mono ?_
      rintro e wo ⟨rfl, mo, hwo⟩
      have qo : Below w4.heap.size w4 wo := by rw [hwo]; exact drew_below _ _
      have h3o := h3'.call qo
      have h4o := h4.call qo
      have q4o := q4.trans (qo.mono q4.size)
      clear hwo
      obtain ⟨cc, hcc, hc1⟩ := cmp_ge hl
      rw [hcc]
      have hcn : ¬ (cc : Int) < 0 := by omega
      clear hcc
      obtain ⟨sx, cx, bx, ox, rfl, r3⟩ := h3o
      obtain ⟨sy, cy, by_, oy, rfl, r4⟩ := h4o
      go_wp2_with fail
      refine (both_sub sx _ cx bx ox _ sy _ cy by_ oy _ (X - Y) (by omega) _ r3 r4 (by omega) (by omega)).mono ?_
      rintro e w5 ⟨⟨v5, rfl, h5⟩, hb5⟩
      have q5 := q4o.trans (hb5.mono q4o.size)
      go_wp2_with fail
      refine (whole_any mx v5 _ _ h5 (by have := rnd_mono (show X - Y ≤ X by omega); omega) (G.below q5)).mono ?_
      rintro e w6 ⟨rfl, hb6⟩
      go_wp2
      go_ret
      exact ⟨rfl, q5.trans (hb6.mono q5.size)⟩
set_option maxHeartbeats 1000000 in
theorem radd_bigB (s t : ByteArray) (mx my : Bool) (d1 d2 : ByteArray) (X Y : Nat) (nx : rnd X ≤ 40000) (ny : rnd Y ≤ 40000) (hc : d1.size < 18 ∧ 18 ≤ d2.size)
    (C1 : Hid (∀ W, Calls Tryz.prog 81 #[.string s] W fun e w' => e = .returned (.tuple #[.bool mx, .string d1]) ∧ ∃ k, w' = W.drewN k)) (C2 : Hid (∀ W, Calls Tryz.prog 81 #[.string t] W fun e w' => e = .returned (.tuple #[.bool my, .string d2]) ∧ ∃ k, w' = W.drewN k))
    (G1 : Hid (∀ W, Calls Tryz.prog 84 #[.string d1] W fun e w' => (∃ v, e = .returned v ∧ RMag w' v X) ∧ Below W.heap.size W w')) (G2 : Hid (∀ W, Calls Tryz.prog 84 #[.string d2] W fun e w' => (∃ v, e = .returned v ∧ RMag w' v Y) ∧ Below W.heap.size W w')) (w : World) (G : Gi w) :
    Calls Tryz.prog 60 #[.string s, .string t] w fun e w' => e = .returned (.string (tz (sv mx X + sv my Y))) ∧ Below w.heap.size w w' := by
  have g1 : (d1.size : Int) < 18 := by omega
  have g2 : ¬ (d2.size : Int) < 18 := by omega
  clear hc
  by_cases hm : mx = my
  · subst hm
    rw [sv_same]
    go_enter Tryz.func60, Tryz.ntmps60
    go_wp2_with fail
    refine (C1.out _).mono ?_
    rintro e w1 ⟨rfl, m1, hw1⟩
    have q1 : Below w.heap.size w w1 := by rw [hw1]; exact drew_below _ _
    clear hw1
    go_wp2_with fail
    refine (C2.out _).mono ?_
    rintro e w2 ⟨rfl, m2, hw2⟩
    have q2 : Below w.heap.size w w2 := by rw [hw2]; exact q1.trans (drew_below _ _ |>.mono q1.size)
    clear hw2
    go_wp2_with fail
    refine (G1.out _).mono ?_
    rintro e w3 ⟨⟨v3, rfl, h3⟩, hb3⟩
    have q3 := q2.trans (hb3.mono q2.size)
    go_wp2_with fail
    refine (G2.out _).mono ?_
    rintro e w4 ⟨⟨v4, rfl, h4⟩, hb4⟩
    have q4 := q3.trans (hb4.mono q3.size)
    have h3' := h3.call hb4
    obtain ⟨sx, cx, bx, ox, rfl, r3⟩ := h3'
    obtain ⟨sy, cy, by_, oy, rfl, r4⟩ := h4
    go_wp2_with fail
    refine (both_add sx _ cx bx ox _ sy _ cy by_ oy _ (X + Y) (by push_cast; omega) _ r3 r4 (by omega) (by omega)).mono ?_
    rintro e w5 ⟨⟨v5, rfl, h5⟩, hb5⟩
    have q5 := q4.trans (hb5.mono q4.size)
    go_wp2_with fail
    refine (whole_any mx v5 _ _ h5 (by have := rnd_add (k := 40000) nx ny; omega) (G.below q5)).mono ?_
    rintro e w6 ⟨rfl, hb6⟩
    go_wp2
    go_ret
    exact ⟨rfl, q5.trans (hb6.mono q5.size)⟩
  · have hmb : (mx == my) = false := by simpa using hm
    by_cases hl : X < Y
    · rw [sv_lt hm hl]
      go_enter Tryz.func60, Tryz.ntmps60
      go_wp2_with fail
      refine (C1.out _).mono ?_
      rintro e w1 ⟨rfl, m1, hw1⟩
      have q1 : Below w.heap.size w w1 := by rw [hw1]; exact drew_below _ _
      clear hw1
      go_wp2_with fail
      refine (C2.out _).mono ?_
      rintro e w2 ⟨rfl, m2, hw2⟩
      have q2 : Below w.heap.size w w2 := by rw [hw2]; exact q1.trans (drew_below _ _ |>.mono q1.size)
      clear hw2
      go_wp2_with fail
      refine (G1.out _).mono ?_
      rintro e w3 ⟨⟨v3, rfl, h3⟩, hb3⟩
      have q3 := q2.trans (hb3.mono q2.size)
      go_wp2_with fail
      refine (G2.out _).mono ?_
      rintro e w4 ⟨⟨v4, rfl, h4⟩, hb4⟩
      have q4 := q3.trans (hb4.mono q3.size)
      have h3' := h3.call hb4
      go_wp2_with fail
      refine (order_mag _ _ X Y _ h3' h4 (by omega)).mono ?_
      rintro e wo ⟨rfl, mo, hwo⟩
      have qo : Below w4.heap.size w4 wo := by rw [hwo]; exact drew_below _ _
      have h3o := h3'.call qo
      have h4o := h4.call qo
      have q4o := q4.trans (qo.mono q4.size)
      clear hwo
      rw [cmp_lt hl]
      obtain ⟨sx, cx, bx, ox, rfl, r3⟩ := h4o
      obtain ⟨sy, cy, by_, oy, rfl, r4⟩ := h3o
      go_wp2_with fail
      refine (both_sub sx _ cx bx ox _ sy _ cy by_ oy _ (Y - X) (by omega) _ r3 r4 (by omega) (by omega)).mono ?_
      rintro e w5 ⟨⟨v5, rfl, h5⟩, hb5⟩
      have q5 := q4o.trans (hb5.mono q4o.size)
      go_wp2_with fail
      refine (whole_any my v5 _ _ h5 (by have := rnd_mono (show Y - X ≤ Y by omega); omega) (G.below q5)).mono ?_
      rintro e w6 ⟨rfl, hb6⟩
      go_wp2
      go_ret
      exact ⟨rfl, q5.trans (hb6.mono q5.size)⟩
    · rw [sv_ge hm hl]
      go_enter Tryz.func60, Tryz.ntmps60
      go_wp2_with fail
      refine (C1.out _).mono ?_
      rintro e w1 ⟨rfl, m1, hw1⟩
      have q1 : Below w.heap.size w w1 := by rw [hw1]; exact drew_below _ _
      clear hw1
      go_wp2_with fail
      refine (C2.out _).mono ?_
      rintro e w2 ⟨rfl, m2, hw2⟩
      have q2 : Below w.heap.size w w2 := by rw [hw2]; exact q1.trans (drew_below _ _ |>.mono q1.size)
      clear hw2
      go_wp2_with fail
      refine (G1.out _).mono ?_
      rintro e w3 ⟨⟨v3, rfl, h3⟩, hb3⟩
      have q3 := q2.trans (hb3.mono q2.size)
      go_wp2_with fail
      refine (G2.out _).mono ?_
      rintro e w4 ⟨⟨v4, rfl, h4⟩, hb4⟩
      have q4 := q3.trans (hb4.mono q3.size)
      have h3' := h3.call hb4
      go_wp2_with fail
      refine (order_mag _ _ X Y _ h3' h4 (by omega)).mono ?_
      rintro e wo ⟨rfl, mo, hwo⟩
      have qo : Below w4.heap.size w4 wo := by rw [hwo]; exact drew_below _ _
      have h3o := h3'.call qo
      have h4o := h4.call qo
      have q4o := q4.trans (qo.mono q4.size)
      clear hwo
      obtain ⟨cc, hcc, hc1⟩ := cmp_ge hl
      rw [hcc]
      have hcn : ¬ (cc : Int) < 0 := by omega
      clear hcc
      obtain ⟨sx, cx, bx, ox, rfl, r3⟩ := h3o
      obtain ⟨sy, cy, by_, oy, rfl, r4⟩ := h4o
      go_wp2_with fail
      refine (both_sub sx _ cx bx ox _ sy _ cy by_ oy _ (X - Y) (by omega) _ r3 r4 (by omega) (by omega)).mono ?_
      rintro e w5 ⟨⟨v5, rfl, h5⟩, hb5⟩
      have q5 := q4o.trans (hb5.mono q4o.size)
      go_wp2_with fail
      refine (whole_any mx v5 _ _ h5 (by have := rnd_mono (show X - Y ≤ X by omega); omega) (G.below q5)).mono ?_
      rintro e w6 ⟨rfl, hb6⟩
      go_wp2
      go_ret
      exact ⟨rfl, q5.trans (hb6.mono q5.size)⟩
theorem radd_c (s t : ByteArray) (hs : Cn s) (ht : Cn t) (ls : s.size ≤ 40000) (lt : t.size ≤ 40000) (w : World) (G : Gi w) :
    Calls Tryz.prog 60 #[.string s, .string t] w fun e w' => e = .returned (.string (tz (iv s + iv t))) ∧ Below w.heap.size w w' := by
  obtain ⟨mx, d1, X, ex, n1, o1, z1, p1, b1, C1, G1⟩ := group_c s hs ls
  obtain ⟨my, d2, Y, ey, n2, o2, z2, p2, b2, C2, G2⟩ := group_c t ht lt
  by_cases h1 : d1.size < 18
  · by_cases h2 : d2.size < 18
    · exact radd_few s t hs ht ls lt mx my d1 d2 X Y ex ey p1 p2 b1 b2 h1 h2 (Lib.hid C1) (Lib.hid C2) w G
    · rw [ex, ey]
      exact radd_bigB s t mx my d1 d2 X Y (by omega) (by omega) ⟨h1, by omega⟩ (Lib.hid C1) (Lib.hid C2) (Lib.hid G1) (Lib.hid G2) w G
  · rw [ex, ey]
    exact radd_bigA s t mx my d1 d2 X Y (by omega) (by omega) (by omega) (Lib.hid C1) (Lib.hid C2) (Lib.hid G1) (Lib.hid G2) w G
theorem len_neg {s : ByteArray} (hs : Cn s) : (tz (-iv s)).size ≤ s.size + 1 := by
  have h1 := iv_lt hs.canon
  have h2 := dgs_len s.data.toList
  rw [size_list] at h2
  have h3 : 1 ≤ s.size := by
    rw [← size_list]
    cases hl : s.data.toList with
    | nil => have := hs.canon; rw [hl] at this; exact absurd this (by decide)
    | cons _ _ => simp
  exact len_tz (k := s.size) (by rw [Int.natAbs_neg]; exact lt_up h1 h2) h3
theorem cn_neg {s : ByteArray} (hs : Cn s) (h : s.size ≤ 90000) : Cn (tz (-iv s)) := ⟨canon_tz _, by have := len_neg hs; omega⟩
theorem rsub_c (s t : ByteArray) (hs : Cn s) (ht : Cn t) (ls : s.size ≤ 30000) (lt : t.size ≤ 30000) (w : World) (G : Gi w) :
    Calls Tryz.prog 86 #[.string s, .string t] w fun e w' => e = .returned (.string (tz (iv s - iv t))) ∧ Below w.heap.size w w' := by
  have N := Lib.hid (fun W => rneg_c t ht W)
  have hl := len_neg ht
  have A := Lib.hid (fun W G => radd_c s (tz (-iv t)) hs (cn_neg ht (by omega)) (by omega) (by omega) W G)
  rw [iv_tz, ← Int.sub_eq_add_neg] at A
  clear hs ht ls lt hl
  generalize iv s = x at *
  generalize iv t = y at *
  go_enter Tryz.func86, Tryz.ntmps86
  go_wp2_with fail
  refine (N.out _).mono ?_
  rintro e w1 ⟨rfl, b1⟩
  go_wp2_with fail
  refine (A.out _ (G.below b1)).mono ?_
  rintro e w2 ⟨rfl, b2⟩
  go_wp2
  go_ret
  exact ⟨rfl, b1.trans (b2.mono b1.size)⟩
theorem iv_lt_size {s : ByteArray} (hs : Cn s) : (iv s).natAbs < 10 ^ s.size := by
  have h1 := iv_lt hs.canon
  have h2 := dgs_len s.data.toList
  rw [size_list] at h2
  exact lt_up h1 h2
theorem rcmp_c (s t : ByteArray) (hs : Cn s) (ht : Cn t) (ls : s.size ≤ 30000) (lt : t.size ≤ 30000) (w : World) (G : Gi w) :
    Calls Tryz.prog 58 #[.string s, .string t] w fun e w' => e = .returned (.int .i64 (sgn (iv s - iv t))) ∧ Below w.heap.size w w' := by
  have S := Lib.hid (fun W G => rsub_c s t hs ht ls lt W G)
  have h1 := lt_up (k := 30000) (iv_lt_size hs) ls
  have h2 := lt_up (k := 30000) (iv_lt_size ht) lt
  have N := Lib.hid (fun W => rsign_c (tz (iv s - iv t)) (cn_tz (lt_sub h1 h2) (by decide) (by decide)) W)
  rw [iv_tz] at N
  clear hs ht ls lt h1 h2
  generalize iv s - iv t = x at *
  go_enter Tryz.func58, Tryz.ntmps58
  go_wp2_with fail
  refine (S.out _ G).mono ?_
  rintro e w1 ⟨rfl, b1⟩
  go_wp2_with fail
  refine (N.out _).mono ?_
  rintro e w2 ⟨rfl, b2⟩
  go_wp2
  go_ret
  exact ⟨rfl, b1.trans (b2.mono b1.size)⟩
set_option maxHeartbeats 1000000 in
theorem rmul_few (s t : ByteArray) (hs : Cn s) (ht : Cn t) (ls : s.size ≤ 40000) (lt : t.size ≤ 40000) (mx my : Bool) (d1 d2 : ByteArray) (X Y : Nat) (ex : iv s = sv mx X) (ey : iv t = sv my Y) (bx : X < 10 ^ d1.size) (by_ : Y < 10 ^ d2.size) (b1 : smallB s.data.toList = decide (d1.size ≤ 18)) (b2 : smallB t.data.toList = decide (d2.size ≤ 18)) (h1 : d1.size < 9) (h2 : d2.size < 9)
    (C1 : Hid (∀ W, Calls Tryz.prog 81 #[.string s] W fun e w' => e = .returned (.tuple #[.bool mx, .string d1]) ∧ ∃ k, w' = W.drewN k)) (C2 : Hid (∀ W, Calls Tryz.prog 81 #[.string t] W fun e w' => e = .returned (.tuple #[.bool my, .string d2]) ∧ ∃ k, w' = W.drewN k)) (w : World) (G : Gi w) :
    Calls Tryz.prog 56 #[.string s, .string t] w fun e w' => e = .returned (.string (tz (iv s * iv t))) ∧ Below w.heap.size w w' := by
  have S1 := Lib.hid (fun W => rsmall_any s (by omega) hs.canon W)
  have S2 := Lib.hid (fun W => rsmall_any t (by omega) ht.canon W)
  obtain ⟨v1, u1, u2⟩ := small_iv (s := s) (by rw [b1]; simp; omega)
  obtain ⟨v2, u3, u4⟩ := small_iv (s := t) (by rw [b2]; simp; omega)
  rw [v1, show smallB s.data.toList = true by rw [b1]; simp; omega] at S1
  rw [v2, show smallB t.data.toList = true by rw [b2]; simp; omega] at S2
  have hx : (iv s).natAbs < 10 ^ 8 := by
    rw [ex, sv_abs]; exact Nat.lt_of_lt_of_le bx (Nat.pow_le_pow_right (by decide) (by omega))
  have hy : (iv t).natAbs < 10 ^ 8 := by
    rw [ey, sv_abs]; exact Nat.lt_of_lt_of_le by_ (Nat.pow_le_pow_right (by decide) (by omega))
  have hxy := lt_mul hx hy
  have O := Lib.hid (fun W G => rof_any (iv s * iv t) (by omega) (by omega) W G)
  clear hs ht ls lt ex ey bx by_ b1 b2 v1 v2 u1 u2 u3 u4 hx hy
  have g1 : (d1.size : Int) < 9 := by omega
  have g2 : (d2.size : Int) < 9 := by omega
  generalize iv s = x at *
  generalize iv t = y at *
  obtain ⟨p, hp⟩ : ∃ p : Int, x * y = p := ⟨_, rfl⟩
  rw [hp] at O hxy
  have hp0 : -9223372036854775808 ≤ p ∧ p ≤ 9223372036854775807 := by omega
  rw [hp]
  go_enter Tryz.func56, Tryz.ntmps56
  go_wp2_with fail
  refine (C1.out _).mono ?_
  rintro e w1 ⟨rfl, m1, hw1⟩
  have q1 : Below w.heap.size w w1 := by rw [hw1]; exact drew_below _ _
  clear hw1
  go_wp2_with fail
  refine (C2.out _).mono ?_
  rintro e w2 ⟨rfl, m2, hw2⟩
  have q2 : Below w.heap.size w w2 := by rw [hw2]; exact q1.trans (drew_below _ _ |>.mono q1.size)
  clear hw2
  go_wp2_with fail
  refine (S1.out _).mono ?_
  rintro e w3 ⟨rfl, hb3⟩
  have q3 := q2.trans (hb3.mono q2.size)
  go_wp2_with fail
  refine (S2.out _).mono ?_
  rintro e w4 ⟨rfl, hb4⟩
  have q4 := q3.trans (hb4.mono q3.size)
  go_wp2_with fail
  refine (O.out _ (G.below q4)).mono ?_
  rintro e w5 ⟨rfl, hb5⟩
  go_wp2
  go_ret
  exact ⟨rfl, q4.trans (hb5.mono q4.size)⟩
set_option maxHeartbeats 1000000 in
theorem rmul_bigA (s t : ByteArray) (mx my : Bool) (d1 d2 : ByteArray) (X Y : Nat) (nx : rnd X ≤ 40000) (ny : rnd Y ≤ 40000) (hc : 9 ≤ d1.size)
    (C1 : Hid (∀ W, Calls Tryz.prog 81 #[.string s] W fun e w' => e = .returned (.tuple #[.bool mx, .string d1]) ∧ ∃ k, w' = W.drewN k)) (C2 : Hid (∀ W, Calls Tryz.prog 81 #[.string t] W fun e w' => e = .returned (.tuple #[.bool my, .string d2]) ∧ ∃ k, w' = W.drewN k))
    (G1 : Hid (∀ W, Calls Tryz.prog 84 #[.string d1] W fun e w' => (∃ v, e = .returned v ∧ RMag w' v X) ∧ Below W.heap.size W w')) (G2 : Hid (∀ W, Calls Tryz.prog 84 #[.string d2] W fun e w' => (∃ v, e = .returned v ∧ RMag w' v Y) ∧ Below W.heap.size W w')) (w : World) (G : Gi w) :
    Calls Tryz.prog 56 #[.string s, .string t] w fun e w' => e = .returned (.string (tz (sv mx X * sv my Y))) ∧ Below w.heap.size w w' := by
  have g1 : ¬ (d1.size : Int) < 9 := by omega
  clear hc
  rw [sv_mul]
  have hb : (mx != my) = (mx != my) := rfl
  go_enter Tryz.func56, Tryz.ntmps56
  go_wp2_with fail
  refine (C1.out _).mono ?_
  rintro e w1 ⟨rfl, m1, hw1⟩
  have q1 : Below w.heap.size w w1 := by rw [hw1]; exact drew_below _ _
  clear hw1
  go_wp2_with fail
  refine (C2.out _).mono ?_
  rintro e w2 ⟨rfl, m2, hw2⟩
  have q2 : Below w.heap.size w w2 := by rw [hw2]; exact q1.trans (drew_below _ _ |>.mono q1.size)
  clear hw2
  go_wp2_with fail
  refine (G1.out _).mono ?_
  rintro e w3 ⟨⟨v3, rfl, h3⟩, hb3⟩
  have q3 := q2.trans (hb3.mono q2.size)
  go_wp2_with fail
  refine (G2.out _).mono ?_
  rintro e w4 ⟨⟨v4, rfl, h4⟩, hb4⟩
  have q4 := q3.trans (hb4.mono q3.size)
  have h3' := h3.call hb4
  go_wp2_with fail
  refine (rtimes_mag _ _ X Y _ h3' h4 (by omega)).mono ?_
  rintro e w5 ⟨⟨v5, rfl, h5⟩, hb5⟩
  have q5 := q4.trans (hb5.mono q4.size)
  go_wp2_with fail
  refine (whole_any (mx != my) v5 _ _ h5 (by have := rnd_mul X Y; omega) (G.below q5)).mono ?_
  rintro e w6 ⟨rfl, hb6⟩
  go_wp2
  go_ret
  exact ⟨rfl, q5.trans (hb6.mono q5.size)⟩
set_option maxHeartbeats 1000000 in
theorem rmul_bigB (s t : ByteArray) (mx my : Bool) (d1 d2 : ByteArray) (X Y : Nat) (nx : rnd X ≤ 40000) (ny : rnd Y ≤ 40000) (hc : d1.size < 9 ∧ 9 ≤ d2.size)
    (C1 : Hid (∀ W, Calls Tryz.prog 81 #[.string s] W fun e w' => e = .returned (.tuple #[.bool mx, .string d1]) ∧ ∃ k, w' = W.drewN k)) (C2 : Hid (∀ W, Calls Tryz.prog 81 #[.string t] W fun e w' => e = .returned (.tuple #[.bool my, .string d2]) ∧ ∃ k, w' = W.drewN k))
    (G1 : Hid (∀ W, Calls Tryz.prog 84 #[.string d1] W fun e w' => (∃ v, e = .returned v ∧ RMag w' v X) ∧ Below W.heap.size W w')) (G2 : Hid (∀ W, Calls Tryz.prog 84 #[.string d2] W fun e w' => (∃ v, e = .returned v ∧ RMag w' v Y) ∧ Below W.heap.size W w')) (w : World) (G : Gi w) :
    Calls Tryz.prog 56 #[.string s, .string t] w fun e w' => e = .returned (.string (tz (sv mx X * sv my Y))) ∧ Below w.heap.size w w' := by
  have g1 : (d1.size : Int) < 9 := by omega
  have g2 : ¬ (d2.size : Int) < 9 := by omega
  clear hc
  rw [sv_mul]
  have hb : (mx != my) = (mx != my) := rfl
  go_enter Tryz.func56, Tryz.ntmps56
  go_wp2_with fail
  refine (C1.out _).mono ?_
  rintro e w1 ⟨rfl, m1, hw1⟩
  have q1 : Below w.heap.size w w1 := by rw [hw1]; exact drew_below _ _
  clear hw1
  go_wp2_with fail
  refine (C2.out _).mono ?_
  rintro e w2 ⟨rfl, m2, hw2⟩
  have q2 : Below w.heap.size w w2 := by rw [hw2]; exact q1.trans (drew_below _ _ |>.mono q1.size)
  clear hw2
  go_wp2_with fail
  refine (G1.out _).mono ?_
  rintro e w3 ⟨⟨v3, rfl, h3⟩, hb3⟩
  have q3 := q2.trans (hb3.mono q2.size)
  go_wp2_with fail
  refine (G2.out _).mono ?_
  rintro e w4 ⟨⟨v4, rfl, h4⟩, hb4⟩
  have q4 := q3.trans (hb4.mono q3.size)
  have h3' := h3.call hb4
  go_wp2_with fail
  refine (rtimes_mag _ _ X Y _ h3' h4 (by omega)).mono ?_
  rintro e w5 ⟨⟨v5, rfl, h5⟩, hb5⟩
  have q5 := q4.trans (hb5.mono q4.size)
  go_wp2_with fail
  refine (whole_any (mx != my) v5 _ _ h5 (by have := rnd_mul X Y; omega) (G.below q5)).mono ?_
  rintro e w6 ⟨rfl, hb6⟩
  go_wp2
  go_ret
  exact ⟨rfl, q5.trans (hb6.mono q5.size)⟩
theorem rmul_c (s t : ByteArray) (hs : Cn s) (ht : Cn t) (ls : s.size ≤ 40000) (lt : t.size ≤ 40000) (w : World) (G : Gi w) :
    Calls Tryz.prog 56 #[.string s, .string t] w fun e w' => e = .returned (.string (tz (iv s * iv t))) ∧ Below w.heap.size w w' := by
  obtain ⟨mx, d1, X, ex, n1, o1, z1, p1, b1, C1, G1⟩ := group_c s hs ls
  obtain ⟨my, d2, Y, ey, n2, o2, z2, p2, b2, C2, G2⟩ := group_c t ht lt
  by_cases h1 : d1.size < 9
  · by_cases h2 : d2.size < 9
    · exact rmul_few s t hs ht ls lt mx my d1 d2 X Y ex ey p1 p2 b1 b2 h1 h2 (Lib.hid C1) (Lib.hid C2) w G
    · rw [ex, ey]
      exact rmul_bigB s t mx my d1 d2 X Y (by omega) (by omega) ⟨h1, by omega⟩ (Lib.hid C1) (Lib.hid C2) (Lib.hid G1) (Lib.hid G2) w G
  · rw [ex, ey]
    exact rmul_bigA s t mx my d1 d2 X Y (by omega) (by omega) (by omega) (Lib.hid C1) (Lib.hid C2) (Lib.hid G1) (Lib.hid G2) w G
end Go.Proofs.YthdoadkdofgenaaGreatDoor
/- The reference's DivMod and Gcd. -/
namespace Go.Proofs.YthdoadkdofgenaaGreatDoor
open Go Go.RowKit Go.Shelf

theorem sv_tdiv (mx my : Bool) (X Y : Nat) : sv (mx != my) (X / Y) = (sv mx X).tdiv (sv my Y) := by
  unfold sv
  cases mx <;> cases my <;> simp [Int.neg_tdiv, Int.tdiv_neg]
theorem tdiv_le (x y : Int) : (x.tdiv y).natAbs ≤ x.natAbs := by rw [Int.natAbs_tdiv]; exact Nat.div_le_self _ _
theorem tmod_sub (x y : Int) : x - x.tdiv y * y = x.tmod y := by
  have := Int.mul_tdiv_add_tmod x y
  rw [Int.mul_comm] at this
  omega
theorem tdiv_mul_le (x y : Int) : (x.tdiv y * y).natAbs ≤ x.natAbs := by
  rw [Int.natAbs_mul, Int.natAbs_tdiv]; exact Nat.div_mul_le_self _ _
theorem tmod_le (x y : Int) (hy : y ≠ 0) : (x.tmod y).natAbs < y.natAbs := by rw [Int.natAbs_tmod]; exact Nat.mod_lt _ (by omega)
theorem tz_zero : tz 0 = ⟨#[48]⟩ := ext_bytes ((Im.itoa_nonneg (Int.le_refl 0)).trans Im.dec_zero)
theorem tz_one : tz 1 = ⟨#[49]⟩ := ext_bytes (show Lib.itoa 1 = [49] by rw [Im.itoa_nonneg (by decide)]; exact Im.dec_small (by decide))
theorem tz_ne {z : Int} (h : z ≠ 0) : ¬ tz z = ⟨#[48]⟩ := fun e => h (by rw [← iv_tz z, e]; decide)
theorem size_pos {s : ByteArray} (hs : Cn s) : 1 ≤ s.size := by
  rw [← size_list]
  cases hl : s.data.toList with
  | nil => have := hs.canon; rw [hl] at this; exact absurd this (by decide)
  | cons _ _ => simp
theorem sgn_cases (z : Int) : z < 0 ∧ sgn z = -1 ∨ z = 0 ∧ sgn z = 0 ∨ 0 < z ∧ sgn z = 1 := by
  unfold sgn
  by_cases h : z = 0
  · exact .inr (.inl ⟨h, if_pos h⟩)
  · rw [if_neg h]
    by_cases h2 : z < 0
    · exact .inl ⟨h2, if_pos h2⟩
    · exact .inr (.inr ⟨by omega, if_neg h2⟩)

theorem quotient_mag (v u : Value) (X Y : Nat) (hY : 0 < Y) (w : World) (hx : RMag w v X) (hy : RMag w u Y) (hn1 : rnd X ≤ 40000) (hn2 : rnd Y ≤ 40000) :
    Calls Tryz.prog 113 #[v, u] w fun e w' => (∃ v1 v2, e = .returned (.tuple #[v1, v2]) ∧ RMag w' v1 (X / Y) ∧ RMag w' v2 (X % Y)) ∧ Below w.heap.size w w' := by
  obtain ⟨sx, cx, bx, ox, rfl, h1⟩ := hx
  obtain ⟨sy, cy, by_, oy, rfl, h2⟩ := hy
  exact quotient_any sx cx bx ox X sy cy by_ oy Y hY w h1 h2 hn1 hn2
set_option maxRecDepth 100000 in
set_option maxHeartbeats 2000000 in
theorem rdiv_a (s t : ByteArray) (mx my : Bool) (d1 d2 : ByteArray) (X Y : Nat) (q0 r0 y0 : Int) (hY : 0 < Y) (nx : rnd X ≤ 20000) (ny : rnd Y ≤ 20000) (hq : sv (mx != my) (X / Y) = q0)
    (C1 : Hid (∀ W, Calls Tryz.prog 81 #[.string s] W fun e w' => e = .returned (.tuple #[.bool mx, .string d1]) ∧ ∃ k, w' = W.drewN k)) (C2 : Hid (∀ W, Calls Tryz.prog 81 #[.string t] W fun e w' => e = .returned (.tuple #[.bool my, .string d2]) ∧ ∃ k, w' = W.drewN k))
    (G1 : Hid (∀ W, Calls Tryz.prog 84 #[.string d1] W fun e w' => (∃ v, e = .returned v ∧ RMag w' v X) ∧ Below W.heap.size W w')) (G2 : Hid (∀ W, Calls Tryz.prog 84 #[.string d2] W fun e w' => (∃ v, e = .returned v ∧ RMag w' v Y) ∧ Below W.heap.size W w'))
    (M : Hid (∀ W, Gi W → Calls Tryz.prog 56 #[.string (tz q0), .string t] W fun e w' => e = .returned (.string (tz (q0 * y0))) ∧ Below W.heap.size W w'))
    (S : Hid (∀ W, Gi W → Calls Tryz.prog 86 #[.string s, .string (tz (q0 * y0))] W fun e w' => e = .returned (.string (tz r0)) ∧ Below W.heap.size W w'))
    (hr : r0 = 0) (w : World) (G : Gi w) :
    Calls Tryz.prog 89 #[.string s, .string t] w fun e w' => e = .returned (.tuple #[.string (tz (q0)), .string (tz (0))]) ∧ Below w.heap.size w w' := by
  subst hr
  rw [tz_zero] at S
  have HZ := Lib.hid tz_zero
  rw [tz_zero]
  go_enter Tryz.func89, Tryz.ntmps89
  go_wp2_with fail
  refine (C1.out _).mono ?_
  rintro e w1 ⟨rfl, m1, hw1⟩
  have q1 : Below w.heap.size w w1 := by rw [hw1]; exact drew_below _ _
  clear hw1
  go_wp2_with fail
  refine (C2.out _).mono ?_
  rintro e w2 ⟨rfl, m2, hw2⟩
  have q2 : Below w.heap.size w w2 := by rw [hw2]; exact q1.trans (drew_below _ _ |>.mono q1.size)
  clear hw2
  go_wp2_with fail
  refine (G1.out _).mono ?_
  rintro e w3 ⟨⟨v3, rfl, h3⟩, hb3⟩
  have q3 := q2.trans (hb3.mono q2.size)
  go_wp2_with fail
  refine (G2.out _).mono ?_
  rintro e w4 ⟨⟨v4, rfl, h4⟩, hb4⟩
  have q4 := q3.trans (hb4.mono q3.size)
  have h3' := h3.call hb4
  go_wp2_with fail
  refine (quotient_mag v3 v4 X Y hY w4 h3' h4 (by omega) (by omega)).mono ?_
  rintro e w5 ⟨⟨v5, v6, rfl, h5, h6⟩, hb5⟩
  have q5 := q4.trans (hb5.mono q4.size)
  go_wp2_with fail
  refine (whole_any (mx != my) v5 _ _ h5 (by have := rnd_mono2 (Nat.div_le_self X Y); omega) (G.below q5)).mono ?_
  rintro e w6 ⟨rfl, hb6⟩
  rw [hq]
  have q6 := q5.trans (hb6.mono q5.size)
  go_wp2_with fail
  refine (M.out _ (G.below q6)).mono ?_
  rintro e w7 ⟨rfl, hb7⟩
  have q7 := q6.trans (hb7.mono q6.size)
  go_wp2_with fail
  refine (S.out _ (G.below q7)).mono ?_
  rintro e w8 ⟨rfl, hb8⟩
  have q8 := q7.trans (hb8.mono q7.size)
  clear h3 h4 h3' h5 h6
  go_wp2
  exact bodyPost_ret (v := .tuple #[.string (tz q0), .string ⟨#[48]⟩]) (by simp [results, Tryz.results89, go_sem]) rfl ⟨rfl, q8⟩
set_option maxRecDepth 100000 in
set_option maxHeartbeats 2000000 in
theorem rdiv_b (s t : ByteArray) (mx my : Bool) (d1 d2 : ByteArray) (X Y : Nat) (q0 r0 y0 : Int) (hY : 0 < Y) (nx : rnd X ≤ 20000) (ny : rnd Y ≤ 20000) (hq : sv (mx != my) (X / Y) = q0)
    (C1 : Hid (∀ W, Calls Tryz.prog 81 #[.string s] W fun e w' => e = .returned (.tuple #[.bool mx, .string d1]) ∧ ∃ k, w' = W.drewN k)) (C2 : Hid (∀ W, Calls Tryz.prog 81 #[.string t] W fun e w' => e = .returned (.tuple #[.bool my, .string d2]) ∧ ∃ k, w' = W.drewN k))
    (G1 : Hid (∀ W, Calls Tryz.prog 84 #[.string d1] W fun e w' => (∃ v, e = .returned v ∧ RMag w' v X) ∧ Below W.heap.size W w')) (G2 : Hid (∀ W, Calls Tryz.prog 84 #[.string d2] W fun e w' => (∃ v, e = .returned v ∧ RMag w' v Y) ∧ Below W.heap.size W w'))
    (M : Hid (∀ W, Gi W → Calls Tryz.prog 56 #[.string (tz q0), .string t] W fun e w' => e = .returned (.string (tz (q0 * y0))) ∧ Below W.heap.size W w'))
    (S : Hid (∀ W, Gi W → Calls Tryz.prog 86 #[.string s, .string (tz (q0 * y0))] W fun e w' => e = .returned (.string (tz r0)) ∧ Below W.heap.size W w'))
    (g1 g2 : Int) (hg : g1 = g2) (hr : r0 ≠ 0) (SG : Hid (∀ W, Calls Tryz.prog 85 #[.string (tz r0)] W fun e w' => e = .returned (.int .i64 g1) ∧ Below W.heap.size W w')) (SH : Hid (∀ W, Calls Tryz.prog 85 #[.string t] W fun e w' => e = .returned (.int .i64 g2) ∧ Below W.heap.size W w')) (w : World) (G : Gi w) :
    Calls Tryz.prog 89 #[.string s, .string t] w fun e w' => e = .returned (.tuple #[.string (tz (q0)), .string (tz (r0))]) ∧ Below w.heap.size w w' := by
  subst hg
  obtain ⟨rs, hrs⟩ : ∃ rs, tz r0 = rs := ⟨_, rfl⟩
  have hr1 : ¬ rs = ⟨#[48]⟩ := by rw [← hrs]; exact tz_ne hr
  have hr2 : ¬ rs.toList = [48] := fun e => hr1 (ext_bytes (by rw [← toList_eq]; exact e))
  have hr3 : (rs.toList == [48]) = false := by rw [beq_eq_false_iff_ne]; exact hr2
  rw [hrs] at S SG ⊢
  clear hrs hr
  go_enter Tryz.func89, Tryz.ntmps89
  go_wp2_with fail
  refine (C1.out _).mono ?_
  rintro e w1 ⟨rfl, m1, hw1⟩
  have q1 : Below w.heap.size w w1 := by rw [hw1]; exact drew_below _ _
  clear hw1
  go_wp2_with fail
  refine (C2.out _).mono ?_
  rintro e w2 ⟨rfl, m2, hw2⟩
  have q2 : Below w.heap.size w w2 := by rw [hw2]; exact q1.trans (drew_below _ _ |>.mono q1.size)
  clear hw2
  go_wp2_with fail
  refine (G1.out _).mono ?_
  rintro e w3 ⟨⟨v3, rfl, h3⟩, hb3⟩
  have q3 := q2.trans (hb3.mono q2.size)
  go_wp2_with fail
  refine (G2.out _).mono ?_
  rintro e w4 ⟨⟨v4, rfl, h4⟩, hb4⟩
  have q4 := q3.trans (hb4.mono q3.size)
  have h3' := h3.call hb4
  go_wp2_with fail
  refine (quotient_mag v3 v4 X Y hY w4 h3' h4 (by omega) (by omega)).mono ?_
  rintro e w5 ⟨⟨v5, v6, rfl, h5, h6⟩, hb5⟩
  have q5 := q4.trans (hb5.mono q4.size)
  go_wp2_with fail
  refine (whole_any (mx != my) v5 _ _ h5 (by have := rnd_mono2 (Nat.div_le_self X Y); omega) (G.below q5)).mono ?_
  rintro e w6 ⟨rfl, hb6⟩
  rw [hq]
  have q6 := q5.trans (hb6.mono q5.size)
  go_wp2_with fail
  refine (M.out _ (G.below q6)).mono ?_
  rintro e w7 ⟨rfl, hb7⟩
  have q7 := q6.trans (hb7.mono q6.size)
  go_wp2_with fail
  refine (S.out _ (G.below q7)).mono ?_
  rintro e w8 ⟨rfl, hb8⟩
  have q8 := q7.trans (hb8.mono q7.size)
  clear h3 h4 h3' h5 h6
  go_wp2_with fail
  refine (SG.out _).mono ?_
  rintro e w9 ⟨rfl, hb9⟩
  have q9 := q8.trans (hb9.mono q8.size)
  go_wp2_with fail
  refine (SH.out _).mono ?_
  rintro e w10 ⟨rfl, hb10⟩
  have q10 := q9.trans (hb10.mono q9.size)
  go_wp2
  exact bodyPost_ret (v := .tuple #[.string (tz q0), .string rs]) (by simp [results, Tryz.results89, go_sem]) rfl ⟨rfl, q10⟩
set_option maxRecDepth 100000 in
set_option maxHeartbeats 2000000 in
theorem rdiv_c3 (s t : ByteArray) (mx my : Bool) (d1 d2 : ByteArray) (X Y : Nat) (q0 r0 y0 : Int) (hY : 0 < Y) (nx : rnd X ≤ 20000) (ny : rnd Y ≤ 20000) (hq : sv (mx != my) (X / Y) = q0)
    (C1 : Hid (∀ W, Calls Tryz.prog 81 #[.string s] W fun e w' => e = .returned (.tuple #[.bool mx, .string d1]) ∧ ∃ k, w' = W.drewN k)) (C2 : Hid (∀ W, Calls Tryz.prog 81 #[.string t] W fun e w' => e = .returned (.tuple #[.bool my, .string d2]) ∧ ∃ k, w' = W.drewN k))
    (G1 : Hid (∀ W, Calls Tryz.prog 84 #[.string d1] W fun e w' => (∃ v, e = .returned v ∧ RMag w' v X) ∧ Below W.heap.size W w')) (G2 : Hid (∀ W, Calls Tryz.prog 84 #[.string d2] W fun e w' => (∃ v, e = .returned v ∧ RMag w' v Y) ∧ Below W.heap.size W w'))
    (M : Hid (∀ W, Gi W → Calls Tryz.prog 56 #[.string (tz q0), .string t] W fun e w' => e = .returned (.string (tz (q0 * y0))) ∧ Below W.heap.size W w'))
    (S : Hid (∀ W, Gi W → Calls Tryz.prog 86 #[.string s, .string (tz (q0 * y0))] W fun e w' => e = .returned (.string (tz r0)) ∧ Below W.heap.size W w'))
    (g1 g2 : Int) (hg : ¬ g1 = g2) (hr : r0 ≠ 0) (SG : Hid (∀ W, Calls Tryz.prog 85 #[.string (tz r0)] W fun e w' => e = .returned (.int .i64 g1) ∧ Below W.heap.size W w')) (SH : Hid (∀ W, Calls Tryz.prog 85 #[.string t] W fun e w' => e = .returned (.int .i64 g2) ∧ Below W.heap.size W w')) (S1 : Hid (∀ W, Gi W → Calls Tryz.prog 86 #[.string (tz q0), .string ⟨#[49]⟩] W fun e w' => e = .returned (.string (tz (q0 - 1))) ∧ Below W.heap.size W w'))
    (A1 : Hid (∀ W, Gi W → Calls Tryz.prog 60 #[.string (tz r0), .string t] W fun e w' => e = .returned (.string (tz (r0 + y0))) ∧ Below W.heap.size W w')) (w : World) (G : Gi w) :
    Calls Tryz.prog 89 #[.string s, .string t] w fun e w' => e = .returned (.tuple #[.string (tz (q0 - 1)), .string (tz (r0 + y0))]) ∧ Below w.heap.size w w' := by
  have hgb : (g1 == g2) = false := by rw [beq_eq_false_iff_ne]; exact hg
  have hgc : (g1 != g2) = true := by simp [bne, hgb]
  obtain ⟨fin, hfin⟩ : ∃ fin, tz (r0 + y0) = fin := ⟨_, rfl⟩
  rw [hfin] at A1 ⊢
  clear hfin
  obtain ⟨rs, hrs⟩ : ∃ rs, tz r0 = rs := ⟨_, rfl⟩
  have hr1 : ¬ rs = ⟨#[48]⟩ := by rw [← hrs]; exact tz_ne hr
  have hr2 : ¬ rs.toList = [48] := fun e => hr1 (ext_bytes (by rw [← toList_eq]; exact e))
  have hr3 : (rs.toList == [48]) = false := by rw [beq_eq_false_iff_ne]; exact hr2
  rw [hrs] at S SG A1 
  clear hrs hr
  go_enter Tryz.func89, Tryz.ntmps89
  go_wp2_with fail
  refine (C1.out _).mono ?_
  rintro e w1 ⟨rfl, m1, hw1⟩
  have q1 : Below w.heap.size w w1 := by rw [hw1]; exact drew_below _ _
  clear hw1
  go_wp2_with fail
  refine (C2.out _).mono ?_
  rintro e w2 ⟨rfl, m2, hw2⟩
  have q2 : Below w.heap.size w w2 := by rw [hw2]; exact q1.trans (drew_below _ _ |>.mono q1.size)
  clear hw2
  go_wp2_with fail
  refine (G1.out _).mono ?_
  rintro e w3 ⟨⟨v3, rfl, h3⟩, hb3⟩
  have q3 := q2.trans (hb3.mono q2.size)
  go_wp2_with fail
  refine (G2.out _).mono ?_
  rintro e w4 ⟨⟨v4, rfl, h4⟩, hb4⟩
  have q4 := q3.trans (hb4.mono q3.size)
  have h3' := h3.call hb4
  go_wp2_with fail
  refine (quotient_mag v3 v4 X Y hY w4 h3' h4 (by omega) (by omega)).mono ?_
  rintro e w5 ⟨⟨v5, v6, rfl, h5, h6⟩, hb5⟩
  have q5 := q4.trans (hb5.mono q4.size)
  go_wp2_with fail
  refine (whole_any (mx != my) v5 _ _ h5 (by have := rnd_mono2 (Nat.div_le_self X Y); omega) (G.below q5)).mono ?_
  rintro e w6 ⟨rfl, hb6⟩
  rw [hq]
  have q6 := q5.trans (hb6.mono q5.size)
  go_wp2_with fail
  refine (M.out _ (G.below q6)).mono ?_
  rintro e w7 ⟨rfl, hb7⟩
  have q7 := q6.trans (hb7.mono q6.size)
  go_wp2_with fail
  refine (S.out _ (G.below q7)).mono ?_
  rintro e w8 ⟨rfl, hb8⟩
  have q8 := q7.trans (hb8.mono q7.size)
  clear h3 h4 h3' h5 h6
  go_wp2_with fail
  refine (SG.out _).mono ?_
  rintro e w9 ⟨rfl, hb9⟩
  have q9 := q8.trans (hb9.mono q8.size)
  go_wp2_with fail
  refine (SH.out _).mono ?_
  rintro e w10 ⟨rfl, hb10⟩
  have q10 := q9.trans (hb10.mono q9.size)
  go_wp2_with fail
  refine (S1.out _ (G.below q10)).mono ?_
  rintro e w11 ⟨rfl, hb11⟩
  have q11 := q10.trans (hb11.mono q10.size)
  go_wp2_with fail
  refine (A1.out _ (G.below q11)).mono ?_
  rintro e w12 ⟨rfl, hb12⟩
  have q12 := q11.trans (hb12.mono q11.size)
  go_wp2
  exact bodyPost_ret (v := .tuple #[.string (tz (q0 - 1)), .string fin]) (by simp [results, Tryz.results89, go_sem]) rfl ⟨rfl, q12⟩
theorem rdiv_c (s t : ByteArray) (hs : Cn s) (ht : Cn t) (ls : s.size ≤ 9000) (lt : t.size ≤ 9000) (h0 : iv t ≠ 0) (w : World) (G : Gi w) :
    Calls Tryz.prog 89 #[.string s, .string t] w fun e w' => e = .returned (.tuple #[.string (tz (dvQ (iv s) (iv t))), .string (tz (dvR (iv s) (iv t)))]) ∧ Below w.heap.size w w' := by
  obtain ⟨mx, d1, X, ex, n1, o1, z1, p1, b1, C1, G1⟩ := group_c s hs (by omega)
  obtain ⟨my, d2, Y, ey, n2, o2, z2, p2, b2, C2, G2⟩ := group_c t ht (by omega)
  have hs1 := size_pos hs
  have ht1 := size_pos ht
  have kx := iv_lt_size hs
  have ky := iv_lt_size ht
  have hY : 0 < Y := by
    rcases Nat.eq_zero_or_pos Y with h | h
    · exfalso; apply h0; rw [ey, h]; cases my <;> rfl
    · exact h
  have hq : sv (mx != my) (X / Y) = (iv s).tdiv (iv t) := by rw [ex, ey]; exact sv_tdiv mx my X Y
  have tm := tmod_sub (iv s) (iv t)
  have kq : ((iv s).tdiv (iv t)).natAbs < 10 ^ s.size := Nat.lt_of_le_of_lt (tdiv_le _ _) kx
  have kp : ((iv s).tdiv (iv t) * iv t).natAbs < 10 ^ s.size := Nat.lt_of_le_of_lt (tdiv_mul_le _ _) kx
  have kr : ((iv s).tmod (iv t)).natAbs < 10 ^ t.size := Nat.lt_trans (tmod_le _ _ h0) ky
  have cq := cn_tz kq hs1 (by omega)
  have cp := cn_tz kp hs1 (by omega)
  have cr := cn_tz kr ht1 (by omega)
  have lq := len_tz kq hs1
  have lp := len_tz kp hs1
  have lr := len_tz kr ht1
  have M := fun W G => rmul_c _ t cq ht (by omega) (by omega) W G
  rw [iv_tz] at M
  have S := fun W G => rsub_c s _ hs cp (by omega) (by omega) W G
  rw [iv_tz, tm] at S
  have SG := fun W => rsign_c _ cr W
  rw [iv_tz] at SG
  have SH := fun W => rsign_c t ht W
  have S1 := fun W G => rsub_c _ ⟨#[49]⟩ cq cn_one (by omega) (by show 1 ≤ 30000; decide) W G
  rw [iv_tz, iv_one] at S1
  have A1 := fun W G => radd_c _ t cr ht (by omega) (by omega) W G
  rw [iv_tz] at A1
  unfold dvQ dvR
  by_cases hr : (iv s).tmod (iv t) = 0
  · have hc : dvC (iv s) (iv t) = false := by unfold dvC; rw [hr]; rfl
    rw [hc, if_neg (by decide), if_neg (by decide), hr]
    exact rdiv_a s t mx my d1 d2 X Y _ _ (iv t) hY (by omega) (by omega) hq (Lib.hid C1) (Lib.hid C2) (Lib.hid G1) (Lib.hid G2) (Lib.hid M) (Lib.hid S) hr w G
  · have hrb : ((iv s).tmod (iv t) != 0) = true := by simpa using hr
    by_cases hg : sgn ((iv s).tmod (iv t)) = sgn (iv t)
    · have hc : dvC (iv s) (iv t) = false := by
        unfold dvC
        rw [hrb, Bool.true_and]
        rcases sgn_cases ((iv s).tmod (iv t)) with ⟨a1, a2⟩ | ⟨a1, a2⟩ | ⟨a1, a2⟩
        · rcases sgn_cases (iv t) with ⟨c1, c2⟩ | ⟨c1, c2⟩ | ⟨c1, c2⟩
          · simp [a1, c1]
          · rw [a2, c2] at hg; exact absurd hg (by decide)
          · rw [a2, c2] at hg; exact absurd hg (by decide)
        · exact absurd a1 hr
        · rcases sgn_cases (iv t) with ⟨c1, c2⟩ | ⟨c1, c2⟩ | ⟨c1, c2⟩
          · rw [a2, c2] at hg; exact absurd hg (by decide)
          · rw [a2, c2] at hg; exact absurd hg (by decide)
          · simp [show ¬ (iv s).tmod (iv t) < 0 by omega, show ¬ iv t < 0 by omega]
      rw [hc, if_neg (by decide), if_neg (by decide)]
      exact rdiv_b s t mx my d1 d2 X Y _ _ (iv t) hY (by omega) (by omega) hq (Lib.hid C1) (Lib.hid C2) (Lib.hid G1) (Lib.hid G2) (Lib.hid M) (Lib.hid S) _ _ hg hr (Lib.hid SG) (Lib.hid SH) w G
    · have hc : dvC (iv s) (iv t) = true := by
        unfold dvC
        rw [hrb, Bool.true_and]
        rcases sgn_cases ((iv s).tmod (iv t)) with ⟨a1, a2⟩ | ⟨a1, a2⟩ | ⟨a1, a2⟩
        · rcases sgn_cases (iv t) with ⟨c1, c2⟩ | ⟨c1, c2⟩ | ⟨c1, c2⟩
          · rw [a2, c2] at hg; exact absurd rfl hg
          · exact absurd c1 h0
          · simp [a1, show ¬ iv t < 0 by omega]
        · exact absurd a1 hr
        · rcases sgn_cases (iv t) with ⟨c1, c2⟩ | ⟨c1, c2⟩ | ⟨c1, c2⟩
          · simp [show ¬ (iv s).tmod (iv t) < 0 by omega, c1]
          · exact absurd c1 h0
          · rw [a2, c2] at hg; exact absurd rfl hg
      rw [hc, if_pos rfl, if_pos rfl]
      exact rdiv_c3 s t mx my d1 d2 X Y _ _ (iv t) hY (by omega) (by omega) hq (Lib.hid C1) (Lib.hid C2) (Lib.hid G1) (Lib.hid G2) (Lib.hid M) (Lib.hid S) _ _ hg hr (Lib.hid SG) (Lib.hid SH) (Lib.hid S1) (Lib.hid A1) w G
end Go.Proofs.YthdoadkdofgenaaGreatDoor
/- The reference's Gcd. -/
namespace Go.Proofs.YthdoadkdofgenaaGreatDoor
open Go Go.RowKit Go.Shelf

def strOf : Value → ByteArray
  | .string s => s
  | _ => ⟨#[]⟩
theorem dvR_lt (x y : Int) (hy : y ≠ 0) : (dvR x y).natAbs < y.natAbs := by
  obtain ⟨h1, h2⟩ := dv_ends x y hy
  rcases Int.lt_or_gt_of_ne hy with h | h
  · have := h2 h; omega
  · have := h1 h; omega
theorem dvR_gcd (x y : Int) : Int.gcd y (dvR x y) = Int.gcd x y := by
  have h := dv_sum x y
  have e : dvR x y = x - dvQ x y * y := by omega
  rw [e, Int.gcd_comm x y]
  apply Nat.dvd_antisymm
  · refine Int.dvd_gcd (Int.gcd_dvd_left ..) ?_
    have h1 := Int.gcd_dvd_right (a := y) (b := x - dvQ x y * y)
    have h2 := Int.dvd_mul_of_dvd_right (b := dvQ x y) (Int.gcd_dvd_left (a := y) (b := x - dvQ x y * y))
    have h3 := Int.dvd_add h1 h2
    rwa [show x - dvQ x y * y + dvQ x y * y = x by omega] at h3
  · refine Int.dvd_gcd (Int.gcd_dvd_left ..) ?_
    have h1 := Int.gcd_dvd_right (a := y) (b := x)
    have h2 := Int.dvd_mul_of_dvd_right (b := dvQ x y) (Int.gcd_dvd_left (a := y) (b := x))
    exact Int.dvd_sub h1 h2
theorem gcd_tmod (a b : Int) : Int.gcd b (a.tmod b) = Int.gcd b a := by
  have h : a.tmod b = a - a.tdiv b * b := by have := Int.mul_tdiv_add_tmod a b; rw [Int.mul_comm] at this; omega
  rw [h]
  apply Nat.dvd_antisymm
  · refine Int.dvd_gcd (Int.gcd_dvd_left ..) ?_
    have h1 := Int.gcd_dvd_right (a := b) (b := a - a.tdiv b * b)
    have h2 := Int.dvd_mul_of_dvd_right (b := a.tdiv b) (Int.gcd_dvd_left (a := b) (b := a - a.tdiv b * b))
    have h3 := Int.dvd_add h1 h2
    rwa [show a - a.tdiv b * b + a.tdiv b * b = a by omega] at h3
  · refine Int.dvd_gcd (Int.gcd_dvd_left ..) ?_
    have h1 := Int.gcd_dvd_right (a := b) (b := a)
    have h2 := Int.dvd_mul_of_dvd_right (b := a.tdiv b) (Int.gcd_dvd_left (a := b) (b := a))
    exact Int.dvd_sub h1 h2
theorem abs_tz {s : ByteArray} (h : Cn s) : (ByteArray.mk (Im.dgs s.data.toList).toArray) = tz ((iv s).natAbs : Int) := by
  cases hm : mns s.data.toList with
  | true =>
    have h1 : iv s < 0 := by have := mns_iff h.canon; rw [hm] at this; simpa using this.symm
    rw [show ((iv s).natAbs : Int) = -iv s by omega]
    exact (neg_minus h.canon hm).symm
  | false =>
    have h1 : ¬ iv s < 0 := by have := mns_iff h.canon; rw [hm] at this; simpa using this.symm
    rw [show ((iv s).natAbs : Int) = iv s by omega, tz_iv h.canon]
    have hd : Im.dgs s.data.toList = s.data.toList := by
      unfold mns at hm
      rw [← trim_dgs, trim_one, if_neg (by simpa using hm)]
    exact (bytes_ext hd.symm).symm
end Go.Proofs.YthdoadkdofgenaaGreatDoor
