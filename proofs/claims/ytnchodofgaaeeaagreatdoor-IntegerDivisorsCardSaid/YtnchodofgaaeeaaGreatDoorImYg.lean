/- The reference's Neg, Sign, Add, Sub, Compare and Mul over canonical integers. -/
import Derived.Test.YtnchodofgaaeeaaGreatDoorImYc
import Derived.Test.YtnchodofgaaeeaaGreatDoorImYf
import Derived.Test.YtnchodofgaaeeaaGreatDoorImV
namespace Go.Proofs.YtnchodofgaaeeaaGreatDoor
open Go Go.RowKit Go.Shelf

theorem iv_sv {s : ByteArray} (_h : Im.canonI s.data.toList = true) : iv s = sv (mns s.data.toList) (Im.valL (Im.dgs s.data.toList)) := by
  unfold iv Im.ivL mns Im.dgs sv
  by_cases h : s.data.toList.head? = some 45
  · rw [if_pos h, if_pos h, decide_eq_true h]; rfl
  · rw [if_neg h, if_neg h, decide_eq_false h]; rfl
theorem mns_iff {s : ByteArray} (h : Im.canonI s.data.toList = true) : mns s.data.toList = decide (iv s < 0) := by
  unfold mns
  have e := Im.itoa_ivL h
  congr 1
  apply propext
  rw [← Im.itoa_head (iv s)]
  unfold iv
  rw [e]
theorem neg_minus {s : ByteArray} (h : Im.canonI s.data.toList = true) (hm : mns s.data.toList = true) : tz (-iv s) = ⟨(Im.dgs s.data.toList).toArray⟩ := by
  have hz : iv s < 0 := by rw [mns_iff h] at hm; simpa using hm
  have e : Lib.itoa (iv s) = s.data.toList := Im.itoa_ivL h
  apply ext_bytes
  show Lib.itoa (-iv s) = Im.dgs s.data.toList
  rw [← e, Im.dgs_itoa, Im.itoa_nonneg (by omega), show (-iv s).toNat = (iv s).natAbs by omega]
theorem neg_plus {s : ByteArray} (h : Im.canonI s.data.toList = true) (hm : mns s.data.toList = false) (h0 : s.data.toList ≠ [48]) : tz (-iv s) = ⟨(45 :: s.data.toList).toArray⟩ := by
  have hz : ¬ iv s < 0 := by rw [mns_iff h] at hm; simpa using hm
  have e : Lib.itoa (iv s) = s.data.toList := Im.itoa_ivL h
  have hz0 : iv s ≠ 0 := fun hz => h0 (by rw [← e, hz]; exact (Im.itoa_nonneg (Int.le_refl 0)).trans Im.dec_zero)
  apply ext_bytes
  show Lib.itoa (-iv s) = 45 :: s.data.toList
  rw [Im.itoa_neg (by omega), ← e, Im.itoa_nonneg (by omega), show (-iv s).natAbs = (iv s).toNat by omega]
theorem iv_zero {s : ByteArray} (h : s.data.toList = [48]) : iv s = 0 := by unfold iv; rw [h]; decide
theorem zero_iv {s : ByteArray} (h : Im.canonI s.data.toList = true) : s.data.toList = [48] ↔ iv s = 0 := by
  refine ⟨iv_zero, fun hz => ?_⟩
  have e : Lib.itoa (iv s) = s.data.toList := Im.itoa_ivL h
  rw [← e, hz]; exact (Im.itoa_nonneg (Int.le_refl 0)).trans Im.dec_zero

theorem rneg_c (s : ByteArray) (hs : Cn s) (w : World) :
    Calls Tryz.prog 30 #[.string s] w fun e w' => e = .returned (.string (tz (-iv s))) ∧ Below w.heap.size w w' := by
  have C := Lib.hid (fun W => cut_any s (by have := hs.size; omega) W)
  have hsz := hs.size
  by_cases h0 : s.data.toList = [48]
  · have e : tz (-iv s) = ⟨#[48]⟩ := by rw [iv_zero h0]; exact ext_bytes ((Im.itoa_nonneg (Int.le_refl 0)).trans Im.dec_zero)
    rw [e]
    obtain rfl : s = ⟨#[48]⟩ := ext_bytes h0
    rw [show mns (ByteArray.mk #[48]).data.toList = false by decide, show Im.dgs (ByteArray.mk #[48]).data.toList = [48] by decide] at C
    clear e h0
    go_enter Tryz.func30, Tryz.ntmps30
    go_wp2_with fail
    refine (C.out _).mono ?_
    rintro e w1 ⟨rfl, m1, rfl⟩
    go_wp2
    go_ret
    exact ⟨rfl, drew_below _ _⟩
  · have h0' : ¬ s.toList = [48] := by rw [toList_eq]; exact h0
    have h0b : (s.toList == [48]) = false := by rw [beq_eq_false_iff_ne]; exact h0'
    have h0s : ¬ s = ⟨#[48]⟩ := fun e => h0 (by rw [e])
    cases hm : mns s.data.toList with
    | true =>
      have e := neg_minus hs.canon hm
      rw [e]
      rw [hm] at C
      clear e hs hm h0
      generalize Im.dgs s.data.toList = d at *
      go_enter Tryz.func30, Tryz.ntmps30
      go_wp2_with fail
      refine (C.out _).mono ?_
      rintro e w1 ⟨rfl, m1, rfl⟩
      go_wp2
      go_ret
      exact ⟨rfl, drew_below _ _⟩
    | false =>
      have e := neg_plus hs.canon hm h0
      rw [e]
      rw [hm] at C
      have hcl : ¬ 9223372036854775807 < 1 + s.size := by omega
      have HE := Lib.hid (show (ByteArray.mk (45 :: s.data.toList).toArray) = ⟨#[45]⟩ ++ s from ext_bytes (by simp))
      clear e hs hm h0
      generalize Im.dgs s.data.toList = d at *
      go_enter Tryz.func30, Tryz.ntmps30
      go_wp2_with fail
      refine (C.out _).mono ?_
      rintro e w1 ⟨rfl, m1, rfl⟩
      go_wp2
      go_ret
      exact ⟨by rw [HE.out]; rfl, drew_below _ _⟩
theorem rsign_c (s : ByteArray) (hs : Cn s) (w : World) :
    Calls Tryz.prog 26 #[.string s] w fun e w' => e = .returned (.int .i64 (sgn (iv s))) ∧ Below w.heap.size w w' := by
  have C := Lib.hid (fun W => cut_any s (by have := hs.size; omega) W)
  have T0 := Lib.hid (fun W => toInt_any false W)
  have T1 := Lib.hid (fun W => toInt_any true W)
  have hmi := mns_iff hs.canon
  by_cases h0 : s.data.toList = [48]
  · have e : sgn (iv s) = 0 := by rw [iv_zero h0]; rfl
    rw [e]
    obtain rfl : s = ⟨#[48]⟩ := ext_bytes h0
    rw [show mns (ByteArray.mk #[48]).data.toList = false by decide, show Im.dgs (ByteArray.mk #[48]).data.toList = [48] by decide] at C
    clear e h0 hmi
    go_enter Tryz.func26, Tryz.ntmps26
    go_wp2_with fail
    refine (C.out _).mono ?_
    rintro e w1 ⟨rfl, m1, rfl⟩
    go_wp2
    go_ret
    exact ⟨rfl, drew_below _ _⟩
  · have h0' : ¬ s.toList = [48] := by rw [toList_eq]; exact h0
    have h0b : (s.toList == [48]) = false := by rw [beq_eq_false_iff_ne]; exact h0'
    have h0s : ¬ s = ⟨#[48]⟩ := fun e => h0 (by rw [e])
    have hz0 : iv s ≠ 0 := fun e => h0 ((zero_iv hs.canon).2 e)
    cases hm : mns s.data.toList with
    | true =>
      have hz : iv s < 0 := by rw [hmi] at hm; simpa using hm
      have e : sgn (iv s) = -1 := by unfold sgn; rw [if_neg hz0, if_pos hz]
      rw [e]
      rw [hm] at C
      clear e hs hm h0 hmi hz hz0
      generalize Im.dgs s.data.toList = d at *
      go_enter Tryz.func26, Tryz.ntmps26
      go_wp2_with fail
      refine (C.out _).mono ?_
      rintro e w1 ⟨rfl, m1, rfl⟩
      go_wp2_with fail
      refine (T1.out _).mono ?_
      rintro e w2 ⟨rfl, hww⟩
      subst w2
      go_wp2
      go_ret
      exact ⟨rfl, drew_below _ _⟩
    | false =>
      have hz : ¬ iv s < 0 := by rw [hmi] at hm; simpa using hm
      have e : sgn (iv s) = 1 := by unfold sgn; rw [if_neg hz0, if_neg hz]
      rw [e]
      rw [hm] at C
      clear e hs hm h0 hmi hz hz0
      generalize Im.dgs s.data.toList = d at *
      go_enter Tryz.func26, Tryz.ntmps26
      go_wp2_with fail
      refine (C.out _).mono ?_
      rintro e w1 ⟨rfl, m1, rfl⟩
      go_wp2_with fail
      refine (T0.out _).mono ?_
      rintro e w2 ⟨rfl, hww⟩
      subst w2
      go_wp2
      go_ret
      exact ⟨rfl, drew_below _ _⟩

/-- What Cut and group make of a canonical integer. -/
theorem group_c (s : ByteArray) (hs : Cn s) (hl : s.size ≤ 40000) :
    ∃ (m : Bool) (d : ByteArray) (X : Nat), iv s = sv m X ∧ rnd X ≤ d.size ∧ 1 ≤ d.size ∧ d.size ≤ s.size ∧ X < 10 ^ d.size ∧
      (smallB s.data.toList = decide (d.size ≤ 18)) ∧
      (∀ W, Calls Tryz.prog 45 #[.string s] W fun e w' => e = .returned (.tuple #[.bool m, .string d]) ∧ ∃ k, w' = W.drewN k) ∧
      (∀ W, Calls Tryz.prog 69 #[.string d] W fun e w' => (∃ v, e = .returned v ∧ RMag w' v X) ∧ Below W.heap.size W w') := by
  obtain ⟨c1, c2⟩ := Im.canonI_canon hs.canon
  obtain ⟨c3, c4, c5⟩ := Im.canonL_iff.1 c1
  have hlen := dgs_len s.data.toList
  rw [size_list] at hlen
  have hsz : (ByteArray.mk (Im.dgs s.data.toList).toArray).size = (Im.dgs s.data.toList).length := size_mk _
  have h1 : 1 ≤ (Im.dgs s.data.toList).length := by
    cases hd : Im.dgs s.data.toList with
    | nil => exact absurd hd c3
    | cons _ _ => simp
  have hlt := Im.val_lt c4
  refine ⟨mns s.data.toList, ⟨(Im.dgs s.data.toList).toArray⟩, Im.valL (Im.dgs s.data.toList), iv_sv hs.canon, ?_, by rw [hsz]; exact h1, by rw [hsz]; exact hlen, by rw [hsz]; exact hlt, ?_, fun W => cut_any s (by omega) W, fun W => ?_⟩
  · rw [hsz]
    exact Im.nd_le rb2 (Nat.lt_of_lt_of_le hlt (Nat.pow_le_pow_left (by unfold RB; omega) _))
  · rw [hsz]; unfold smallB; rw [hs.canon, Bool.true_and]
  · exact group_any ⟨(Im.dgs s.data.toList).toArray⟩ (by rw [hsz]; omega) (by rw [hsz]; exact h1) c4 W
theorem cmp_lt {X Y : Nat} (h : X < Y) : cmpN X Y = -1 := by unfold cmpN; rw [if_pos h]
theorem cmp_ge {X Y : Nat} (h : ¬ X < Y) : ∃ c : Nat, cmpN X Y = (c : Int) ∧ c ≤ 1 := by
  unfold cmpN
  rw [if_neg h]
  by_cases h2 : Y < X
  · rw [if_pos h2]; exact ⟨1, rfl, by decide⟩
  · rw [if_neg h2]; exact ⟨0, rfl, by decide⟩
theorem rnd_add {x y k : Nat} (hx : rnd x ≤ k) (hy : rnd y ≤ k) : rnd (x + y) ≤ k + 1 := by
  refine Im.nd_le rb2 ?_
  have h1 := Nat.lt_of_lt_of_le (Im.lt_pow_nd rb2 x) (Nat.pow_le_pow_right (by unfold RB; omega) hx)
  have h2 := Nat.lt_of_lt_of_le (Im.lt_pow_nd rb2 y) (Nat.pow_le_pow_right (by unfold RB; omega) hy)
  rw [Nat.pow_succ]
  generalize RB ^ k = p at *
  unfold RB
  omega
theorem rnd_mono {x y : Nat} (h : x ≤ y) : rnd x ≤ rnd y := Im.nd_mono rb2 h
theorem rnd_mul (x y : Nat) : rnd (x * y) ≤ rnd x + rnd y := by
  refine Im.nd_le rb2 ?_
  rw [Nat.pow_add]
  exact Nat.mul_lt_mul'' (Im.lt_pow_nd rb2 _) (Im.lt_pow_nd rb2 _)

set_option maxHeartbeats 1000000 in
theorem radd_few (s t : ByteArray) (hs : Cn s) (ht : Cn t) (ls : s.size ≤ 40000) (lt : t.size ≤ 40000) (mx my : Bool) (d1 d2 : ByteArray) (X Y : Nat) (ex : iv s = sv mx X) (ey : iv t = sv my Y) (_bx : X < 10 ^ d1.size) (_by : Y < 10 ^ d2.size) (b1 : smallB s.data.toList = decide (d1.size ≤ 18)) (b2 : smallB t.data.toList = decide (d2.size ≤ 18)) (h1 : d1.size < 18) (h2 : d2.size < 18)
    (C1 : Hid (∀ W, Calls Tryz.prog 45 #[.string s] W fun e w' => e = .returned (.tuple #[.bool mx, .string d1]) ∧ ∃ k, w' = W.drewN k)) (C2 : Hid (∀ W, Calls Tryz.prog 45 #[.string t] W fun e w' => e = .returned (.tuple #[.bool my, .string d2]) ∧ ∃ k, w' = W.drewN k)) (w : World) (G : Gi w) :
    Calls Tryz.prog 31 #[.string s, .string t] w fun e w' => e = .returned (.string (tz (iv s + iv t))) ∧ Below w.heap.size w w' := by
  have S1 := Lib.hid (fun W => rsmall_any s (by omega) hs.canon W)
  have S2 := Lib.hid (fun W => rsmall_any t (by omega) ht.canon W)
  obtain ⟨v1, u1, u2⟩ := small_iv (s := s) (by rw [b1]; simp; omega)
  obtain ⟨v2, u3, u4⟩ := small_iv (s := t) (by rw [b2]; simp; omega)
  rw [v1, show smallB s.data.toList = true by rw [b1]; simp; omega] at S1
  rw [v2, show smallB t.data.toList = true by rw [b2]; simp; omega] at S2
  have O := Lib.hid (fun W G => rof_any (iv s + iv t) (by omega) (by omega) W G)
  clear hs ht ls lt ex ey _bx _by b1 b2 v1 v2
  have g1 : (d1.size : Int) < 18 := by omega
  have g2 : (d2.size : Int) < 18 := by omega
  generalize iv s = x at *
  generalize iv t = y at *
  go_enter Tryz.func31, Tryz.ntmps31
  go_wp2_with fail
  refine (C1.out _).mono ?_
  rintro e w1 ⟨rfl, m1, hw1⟩
  have q1 : Below w.heap.size w w1 := by rw [hw1]; exact drew_below _ _
  clear hw1
  go_wp2_with fail
  refine (C2.out _).mono ?_
  rintro e w2 ⟨rfl, m2, hw2⟩
  have q2 : Below w.heap.size w w2 := by rw [hw2]; exact q1.trans (drew_below _ _ |>.mono q1.size)
  clear hw2
  go_wp2_with fail
  refine (S1.out _).mono ?_
  rintro e w3 ⟨rfl, hb3⟩
  have q3 := q2.trans (hb3.mono q2.size)
  go_wp2_with fail
  refine (S2.out _).mono ?_
  rintro e w4 ⟨rfl, hb4⟩
  have q4 := q3.trans (hb4.mono q3.size)
  go_wp2_with fail
  refine (O.out _ (G.below q4)).mono ?_
  rintro e w5 ⟨rfl, hb5⟩
  go_wp2
  go_ret
  exact ⟨rfl, q4.trans (hb5.mono q4.size)⟩
set_option maxHeartbeats 1000000 in
theorem radd_bigA (s t : ByteArray) (mx my : Bool) (d1 d2 : ByteArray) (X Y : Nat) (nx : rnd X ≤ 40000) (ny : rnd Y ≤ 40000) (hc : 18 ≤ d1.size)
    (C1 : Hid (∀ W, Calls Tryz.prog 45 #[.string s] W fun e w' => e = .returned (.tuple #[.bool mx, .string d1]) ∧ ∃ k, w' = W.drewN k)) (C2 : Hid (∀ W, Calls Tryz.prog 45 #[.string t] W fun e w' => e = .returned (.tuple #[.bool my, .string d2]) ∧ ∃ k, w' = W.drewN k))
    (G1 : Hid (∀ W, Calls Tryz.prog 69 #[.string d1] W fun e w' => (∃ v, e = .returned v ∧ RMag w' v X) ∧ Below W.heap.size W w')) (G2 : Hid (∀ W, Calls Tryz.prog 69 #[.string d2] W fun e w' => (∃ v, e = .returned v ∧ RMag w' v Y) ∧ Below W.heap.size W w')) (w : World) (G : Gi w) :
    Calls Tryz.prog 31 #[.string s, .string t] w fun e w' => e = .returned (.string (tz (sv mx X + sv my Y))) ∧ Below w.heap.size w w' := by
  have g1 : ¬ (d1.size : Int) < 18 := by omega
  clear hc
  by_cases hm : mx = my
  · subst hm
    rw [sv_same]
    go_enter Tryz.func31, Tryz.ntmps31
    go_wp2_with fail
    refine (C1.out _).mono ?_
    rintro e w1 ⟨rfl, m1, hw1⟩
    have q1 : Below w.heap.size w w1 := by rw [hw1]; exact drew_below _ _
    clear hw1
    go_wp2_with fail
    refine (C2.out _).mono ?_
    rintro e w2 ⟨rfl, m2, hw2⟩
    have q2 : Below w.heap.size w w2 := by rw [hw2]; exact q1.trans (drew_below _ _ |>.mono q1.size)
    clear hw2
    go_wp2_with fail
    refine (G1.out _).mono ?_
    rintro e w3 ⟨⟨v3, rfl, h3⟩, hb3⟩
    have q3 := q2.trans (hb3.mono q2.size)
    go_wp2_with fail
    refine (G2.out _).mono ?_
    rintro e w4 ⟨⟨v4, rfl, h4⟩, hb4⟩
    have q4 := q3.trans (hb4.mono q3.size)
    have h3' := h3.call hb4
    obtain ⟨sx, cx, bx, ox, rfl, r3⟩ := h3'
    obtain ⟨sy, cy, by_, oy, rfl, r4⟩ := h4
    go_wp2_with fail
    refine (both_add sx _ cx bx ox _ sy _ cy by_ oy _ (X + Y) (by push_cast; omega) _ r3 r4 (by omega) (by omega)).mono ?_
    rintro e w5 ⟨⟨v5, rfl, h5⟩, hb5⟩
    have q5 := q4.trans (hb5.mono q4.size)
    go_wp2_with fail
    refine (whole_any mx v5 _ _ h5 (by have := rnd_add (k := 40000) nx ny; omega) (G.below q5)).mono ?_
    rintro e w6 ⟨rfl, hb6⟩
    go_wp2
    go_ret
    exact ⟨rfl, q5.trans (hb6.mono q5.size)⟩
  · have hmb : (mx == my) = false := by simpa using hm
    by_cases hl : X < Y
    · rw [sv_lt hm hl]
      go_enter Tryz.func31, Tryz.ntmps31
      go_wp2_with fail
      refine (C1.out _).mono ?_
      rintro e w1 ⟨rfl, m1, hw1⟩
      have q1 : Below w.heap.size w w1 := by rw [hw1]; exact drew_below _ _
      clear hw1
      go_wp2_with fail
      refine (C2.out _).mono ?_
      rintro e w2 ⟨rfl, m2, hw2⟩
      have q2 : Below w.heap.size w w2 := by rw [hw2]; exact q1.trans (drew_below _ _ |>.mono q1.size)
      clear hw2
      go_wp2_with fail
      refine (G1.out _).mono ?_
      rintro e w3 ⟨⟨v3, rfl, h3⟩, hb3⟩
      have q3 := q2.trans (hb3.mono q2.size)
      go_wp2_with fail
      refine (G2.out _).mono ?_
      rintro e w4 ⟨⟨v4, rfl, h4⟩, hb4⟩
      have q4 := q3.trans (hb4.mono q3.size)
      have h3' := h3.call hb4
      go_wp2_with fail
      refine (order_mag _ _ X Y _ h3' h4 (by omega)).mono ?_
      rintro e wo ⟨rfl, mo, hwo⟩
      have qo : Below w4.heap.size w4 wo := by rw [hwo]; exact drew_below _ _
      have h3o := h3'.call qo
      have h4o := h4.call qo
      have q4o := q4.trans (qo.mono q4.size)
      clear hwo
      rw [cmp_lt hl]
      obtain ⟨sx, cx, bx, ox, rfl, r3⟩ := h4o
      obtain ⟨sy, cy, by_, oy, rfl, r4⟩ := h3o
      go_wp2_with fail
      refine (both_sub sx _ cx bx ox _ sy _ cy by_ oy _ (Y - X) (by omega) _ r3 r4 (by omega) (by omega)).mono ?_
      rintro e w5 ⟨⟨v5, rfl, h5⟩, hb5⟩
      have q5 := q4o.trans (hb5.mono q4o.size)
      go_wp2_with fail
      refine (whole_any my v5 _ _ h5 (by have := rnd_mono (show Y - X ≤ Y by omega); omega) (G.below q5)).mono ?_
      rintro e w6 ⟨rfl, hb6⟩
      go_wp2
      go_ret
      exact ⟨rfl, q5.trans (hb6.mono q5.size)⟩
    · rw [sv_ge hm hl]
      go_enter Tryz.func31, Tryz.ntmps31
      go_wp2_with fail
      refine (C1.out _).mono ?_
      rintro e w1 ⟨rfl, m1, hw1⟩
      have q1 : Below w.heap.size w w1 := by rw [hw1]; exact drew_below _ _
      clear hw1
      go_wp2_with fail
      refine (C2.out _).mono ?_
      rintro e w2 ⟨rfl, m2, hw2⟩
      have q2 : Below w.heap.size w w2 := by rw [hw2]; exact q1.trans (drew_below _ _ |>.mono q1.size)
      clear hw2
      go_wp2_with fail
      refine (G1.out _).mono ?_
      rintro e w3 ⟨⟨v3, rfl, h3⟩, hb3⟩
      have q3 := q2.trans (hb3.mono q2.size)
      go_wp2_with fail
      refine (G2.out _).mono ?_
      rintro e w4 ⟨⟨v4, rfl, h4⟩, hb4⟩
      have q4 := q3.trans (hb4.mono q3.size)
      have h3' := h3.call hb4
      go_wp2_with fail
      refine (order_mag _ _ X Y _ h3' h4 (by omega)).mono ?_
      rintro e wo ⟨rfl, mo, hwo⟩
      have qo : Below w4.heap.size w4 wo := by rw [hwo]; exact drew_below _ _
      have h3o := h3'.call qo
      have h4o := h4.call qo
      have q4o := q4.trans (qo.mono q4.size)
      clear hwo
      obtain ⟨cc, hcc, hc1⟩ := cmp_ge hl
      rw [hcc]
      have hcn : ¬ (cc : Int) < 0 := by omega
      clear hcc
      obtain ⟨sx, cx, bx, ox, rfl, r3⟩ := h3o
      obtain ⟨sy, cy, by_, oy, rfl, r4⟩ := h4o
      go_wp2_with fail
      refine (both_sub sx _ cx bx ox _ sy _ cy by_ oy _ (X - Y) (by omega) _ r3 r4 (by omega) (by omega)).mono ?_
      rintro e w5 ⟨⟨v5, rfl, h5⟩, hb5⟩
      have q5 := q4o.trans (hb5.mono q4o.size)
      go_wp2_with fail
      refine (whole_any mx v5 _ _ h5 (by have := rnd_mono (show X - Y ≤ X by omega); omega) (G.below q5)).mono ?_
      rintro e w6 ⟨rfl, hb6⟩
      go_wp2
      go_ret
      exact ⟨rfl, q5.trans (hb6.mono q5.size)⟩
set_option maxHeartbeats 1000000 in
theorem radd_bigB (s t : ByteArray) (mx my : Bool) (d1 d2 : ByteArray) (X Y : Nat) (nx : rnd X ≤ 40000) (ny : rnd Y ≤ 40000) (hc : d1.size < 18 ∧ 18 ≤ d2.size)
    (C1 : Hid (∀ W, Calls Tryz.prog 45 #[.string s] W fun e w' => e = .returned (.tuple #[.bool mx, .string d1]) ∧ ∃ k, w' = W.drewN k)) (C2 : Hid (∀ W, Calls Tryz.prog 45 #[.string t] W fun e w' => e = .returned (.tuple #[.bool my, .string d2]) ∧ ∃ k, w' = W.drewN k))
    (G1 : Hid (∀ W, Calls Tryz.prog 69 #[.string d1] W fun e w' => (∃ v, e = .returned v ∧ RMag w' v X) ∧ Below W.heap.size W w')) (G2 : Hid (∀ W, Calls Tryz.prog 69 #[.string d2] W fun e w' => (∃ v, e = .returned v ∧ RMag w' v Y) ∧ Below W.heap.size W w')) (w : World) (G : Gi w) :
    Calls Tryz.prog 31 #[.string s, .string t] w fun e w' => e = .returned (.string (tz (sv mx X + sv my Y))) ∧ Below w.heap.size w w' := by
  have g1 : (d1.size : Int) < 18 := by omega
  have g2 : ¬ (d2.size : Int) < 18 := by omega
  clear hc
  by_cases hm : mx = my
  · subst hm
    rw [sv_same]
    go_enter Tryz.func31, Tryz.ntmps31
    go_wp2_with fail
    refine (C1.out _).mono ?_
    rintro e w1 ⟨rfl, m1, hw1⟩
    have q1 : Below w.heap.size w w1 := by rw [hw1]; exact drew_below _ _
    clear hw1
    go_wp2_with fail
    refine (C2.out _).mono ?_
    rintro e w2 ⟨rfl, m2, hw2⟩
    have q2 : Below w.heap.size w w2 := by rw [hw2]; exact q1.trans (drew_below _ _ |>.mono q1.size)
    clear hw2
    go_wp2_with fail
    refine (G1.out _).mono ?_
    rintro e w3 ⟨⟨v3, rfl, h3⟩, hb3⟩
    have q3 := q2.trans (hb3.mono q2.size)
    go_wp2_with fail
    refine (G2.out _).mono ?_
    rintro e w4 ⟨⟨v4, rfl, h4⟩, hb4⟩
    have q4 := q3.trans (hb4.mono q3.size)
    have h3' := h3.call hb4
    obtain ⟨sx, cx, bx, ox, rfl, r3⟩ := h3'
    obtain ⟨sy, cy, by_, oy, rfl, r4⟩ := h4
    go_wp2_with fail
    refine (both_add sx _ cx bx ox _ sy _ cy by_ oy _ (X + Y) (by push_cast; omega) _ r3 r4 (by omega) (by omega)).mono ?_
    rintro e w5 ⟨⟨v5, rfl, h5⟩, hb5⟩
    have q5 := q4.trans (hb5.mono q4.size)
    go_wp2_with fail
    refine (whole_any mx v5 _ _ h5 (by have := rnd_add (k := 40000) nx ny; omega) (G.below q5)).mono ?_
    rintro e w6 ⟨rfl, hb6⟩
    go_wp2
    go_ret
    exact ⟨rfl, q5.trans (hb6.mono q5.size)⟩
  · have hmb : (mx == my) = false := by simpa using hm
    by_cases hl : X < Y
    · rw [sv_lt hm hl]
      go_enter Tryz.func31, Tryz.ntmps31
      go_wp2_with fail
      refine (C1.out _).mono ?_
      rintro e w1 ⟨rfl, m1, hw1⟩
      have q1 : Below w.heap.size w w1 := by rw [hw1]; exact drew_below _ _
      clear hw1
      go_wp2_with fail
      refine (C2.out _).mono ?_
      rintro e w2 ⟨rfl, m2, hw2⟩
      have q2 : Below w.heap.size w w2 := by rw [hw2]; exact q1.trans (drew_below _ _ |>.mono q1.size)
      clear hw2
      go_wp2_with fail
      refine (G1.out _).mono ?_
      rintro e w3 ⟨⟨v3, rfl, h3⟩, hb3⟩
      have q3 := q2.trans (hb3.mono q2.size)
      go_wp2_with fail
      refine (G2.out _).mono ?_
      rintro e w4 ⟨⟨v4, rfl, h4⟩, hb4⟩
      have q4 := q3.trans (hb4.mono q3.size)
      have h3' := h3.call hb4
      go_wp2_with fail
      refine (order_mag _ _ X Y _ h3' h4 (by omega)).mono ?_
      rintro e wo ⟨rfl, mo, hwo⟩
      have qo : Below w4.heap.size w4 wo := by rw [hwo]; exact drew_below _ _
      have h3o := h3'.call qo
      have h4o := h4.call qo
      have q4o := q4.trans (qo.mono q4.size)
      clear hwo
      rw [cmp_lt hl]
      obtain ⟨sx, cx, bx, ox, rfl, r3⟩ := h4o
      obtain ⟨sy, cy, by_, oy, rfl, r4⟩ := h3o
      go_wp2_with fail
      refine (both_sub sx _ cx bx ox _ sy _ cy by_ oy _ (Y - X) (by omega) _ r3 r4 (by omega) (by omega)).mono ?_
      rintro e w5 ⟨⟨v5, rfl, h5⟩, hb5⟩
      have q5 := q4o.trans (hb5.mono q4o.size)
      go_wp2_with fail
      refine (whole_any my v5 _ _ h5 (by have := rnd_mono (show Y - X ≤ Y by omega); omega) (G.below q5)).mono ?_
      rintro e w6 ⟨rfl, hb6⟩
      go_wp2
      go_ret
      exact ⟨rfl, q5.trans (hb6.mono q5.size)⟩
    · rw [sv_ge hm hl]
      go_enter Tryz.func31, Tryz.ntmps31
      go_wp2_with fail
      refine (C1.out _).mono ?_
      rintro e w1 ⟨rfl, m1, hw1⟩
      have q1 : Below w.heap.size w w1 := by rw [hw1]; exact drew_below _ _
      clear hw1
      go_wp2_with fail
      refine (C2.out _).mono ?_
      rintro e w2 ⟨rfl, m2, hw2⟩
      have q2 : Below w.heap.size w w2 := by rw [hw2]; exact q1.trans (drew_below _ _ |>.mono q1.size)
      clear hw2
      go_wp2_with fail
      refine (G1.out _).mono ?_
      rintro e w3 ⟨⟨v3, rfl, h3⟩, hb3⟩
      have q3 := q2.trans (hb3.mono q2.size)
      go_wp2_with fail
      refine (G2.out _).mono ?_
      rintro e w4 ⟨⟨v4, rfl, h4⟩, hb4⟩
      have q4 := q3.trans (hb4.mono q3.size)
      have h3' := h3.call hb4
      go_wp2_with fail
      refine (order_mag _ _ X Y _ h3' h4 (by omega)).mono ?_
      rintro e wo ⟨rfl, mo, hwo⟩
      have qo : Below w4.heap.size w4 wo := by rw [hwo]; exact drew_below _ _
      have h3o := h3'.call qo
      have h4o := h4.call qo
      have q4o := q4.trans (qo.mono q4.size)
      clear hwo
      obtain ⟨cc, hcc, hc1⟩ := cmp_ge hl
      rw [hcc]
      have hcn : ¬ (cc : Int) < 0 := by omega
      clear hcc
      obtain ⟨sx, cx, bx, ox, rfl, r3⟩ := h3o
      obtain ⟨sy, cy, by_, oy, rfl, r4⟩ := h4o
      go_wp2_with fail
      refine (both_sub sx _ cx bx ox _ sy _ cy by_ oy _ (X - Y) (by omega) _ r3 r4 (by omega) (by omega)).mono ?_
      rintro e w5 ⟨⟨v5, rfl, h5⟩, hb5⟩
      have q5 := q4o.trans (hb5.mono q4o.size)
      go_wp2_with fail
      refine (whole_any mx v5 _ _ h5 (by have := rnd_mono (show X - Y ≤ X by omega); omega) (G.below q5)).mono ?_
      rintro e w6 ⟨rfl, hb6⟩
      go_wp2
      go_ret
      exact ⟨rfl, q5.trans (hb6.mono q5.size)⟩
theorem radd_c (s t : ByteArray) (hs : Cn s) (ht : Cn t) (ls : s.size ≤ 40000) (lt : t.size ≤ 40000) (w : World) (G : Gi w) :
    Calls Tryz.prog 31 #[.string s, .string t] w fun e w' => e = .returned (.string (tz (iv s + iv t))) ∧ Below w.heap.size w w' := by
  obtain ⟨mx, d1, X, ex, n1, o1, z1, p1, b1, C1, G1⟩ := group_c s hs ls
  obtain ⟨my, d2, Y, ey, n2, o2, z2, p2, b2, C2, G2⟩ := group_c t ht lt
  by_cases h1 : d1.size < 18
  · by_cases h2 : d2.size < 18
    · exact radd_few s t hs ht ls lt mx my d1 d2 X Y ex ey p1 p2 b1 b2 h1 h2 (Lib.hid C1) (Lib.hid C2) w G
    · rw [ex, ey]
      exact radd_bigB s t mx my d1 d2 X Y (by omega) (by omega) ⟨h1, by omega⟩ (Lib.hid C1) (Lib.hid C2) (Lib.hid G1) (Lib.hid G2) w G
  · rw [ex, ey]
    exact radd_bigA s t mx my d1 d2 X Y (by omega) (by omega) (by omega) (Lib.hid C1) (Lib.hid C2) (Lib.hid G1) (Lib.hid G2) w G
theorem len_neg {s : ByteArray} (hs : Cn s) : (tz (-iv s)).size ≤ s.size + 1 := by
  have h1 := iv_lt hs.canon
  have h2 := dgs_len s.data.toList
  rw [size_list] at h2
  have h3 : 1 ≤ s.size := by
    rw [← size_list]
    cases hl : s.data.toList with
    | nil => have := hs.canon; rw [hl] at this; exact absurd this (by decide)
    | cons _ _ => simp
  exact len_tz (k := s.size) (by rw [Int.natAbs_neg]; exact lt_up h1 h2) h3
theorem cn_neg {s : ByteArray} (hs : Cn s) (h : s.size ≤ 90000) : Cn (tz (-iv s)) := ⟨canon_tz _, by have := len_neg hs; omega⟩
theorem rsub_c (s t : ByteArray) (hs : Cn s) (ht : Cn t) (ls : s.size ≤ 30000) (lt : t.size ≤ 30000) (w : World) (G : Gi w) :
    Calls Tryz.prog 34 #[.string s, .string t] w fun e w' => e = .returned (.string (tz (iv s - iv t))) ∧ Below w.heap.size w w' := by
  have N := Lib.hid (fun W => rneg_c t ht W)
  have hl := len_neg ht
  have A := Lib.hid (fun W G => radd_c s (tz (-iv t)) hs (cn_neg ht (by omega)) (by omega) (by omega) W G)
  rw [iv_tz, ← Int.sub_eq_add_neg] at A
  clear hs ht ls lt hl
  generalize iv s = x at *
  generalize iv t = y at *
  go_enter Tryz.func34, Tryz.ntmps34
  go_wp2_with fail
  refine (N.out _).mono ?_
  rintro e w1 ⟨rfl, b1⟩
  go_wp2_with fail
  refine (A.out _ (G.below b1)).mono ?_
  rintro e w2 ⟨rfl, b2⟩
  go_wp2
  go_ret
  exact ⟨rfl, b1.trans (b2.mono b1.size)⟩
theorem iv_lt_size {s : ByteArray} (hs : Cn s) : (iv s).natAbs < 10 ^ s.size := by
  have h1 := iv_lt hs.canon
  have h2 := dgs_len s.data.toList
  rw [size_list] at h2
  exact lt_up h1 h2
theorem rcmp_c (s t : ByteArray) (hs : Cn s) (ht : Cn t) (ls : s.size ≤ 30000) (lt : t.size ≤ 30000) (w : World) (G : Gi w) :
    Calls Tryz.prog 28 #[.string s, .string t] w fun e w' => e = .returned (.int .i64 (sgn (iv s - iv t))) ∧ Below w.heap.size w w' := by
  have S := Lib.hid (fun W G => rsub_c s t hs ht ls lt W G)
  have h1 := lt_up (k := 30000) (iv_lt_size hs) ls
  have h2 := lt_up (k := 30000) (iv_lt_size ht) lt
  have N := Lib.hid (fun W => rsign_c (tz (iv s - iv t)) (cn_tz (lt_sub h1 h2) (by decide) (by decide)) W)
  rw [iv_tz] at N
  clear hs ht ls lt h1 h2
  generalize iv s - iv t = x at *
  go_enter Tryz.func28, Tryz.ntmps28
  go_wp2_with fail
  refine (S.out _ G).mono ?_
  rintro e w1 ⟨rfl, b1⟩
  go_wp2_with fail
  refine (N.out _).mono ?_
  rintro e w2 ⟨rfl, b2⟩
  go_wp2
  go_ret
  exact ⟨rfl, b1.trans (b2.mono b1.size)⟩
set_option maxHeartbeats 1000000 in
theorem rmul_few (s t : ByteArray) (hs : Cn s) (ht : Cn t) (ls : s.size ≤ 40000) (lt : t.size ≤ 40000) (mx my : Bool) (d1 d2 : ByteArray) (X Y : Nat) (ex : iv s = sv mx X) (ey : iv t = sv my Y) (bx : X < 10 ^ d1.size) (by_ : Y < 10 ^ d2.size) (b1 : smallB s.data.toList = decide (d1.size ≤ 18)) (b2 : smallB t.data.toList = decide (d2.size ≤ 18)) (h1 : d1.size < 9) (h2 : d2.size < 9)
    (C1 : Hid (∀ W, Calls Tryz.prog 45 #[.string s] W fun e w' => e = .returned (.tuple #[.bool mx, .string d1]) ∧ ∃ k, w' = W.drewN k)) (C2 : Hid (∀ W, Calls Tryz.prog 45 #[.string t] W fun e w' => e = .returned (.tuple #[.bool my, .string d2]) ∧ ∃ k, w' = W.drewN k)) (w : World) (G : Gi w) :
    Calls Tryz.prog 37 #[.string s, .string t] w fun e w' => e = .returned (.string (tz (iv s * iv t))) ∧ Below w.heap.size w w' := by
  have S1 := Lib.hid (fun W => rsmall_any s (by omega) hs.canon W)
  have S2 := Lib.hid (fun W => rsmall_any t (by omega) ht.canon W)
  obtain ⟨v1, u1, u2⟩ := small_iv (s := s) (by rw [b1]; simp; omega)
  obtain ⟨v2, u3, u4⟩ := small_iv (s := t) (by rw [b2]; simp; omega)
  rw [v1, show smallB s.data.toList = true by rw [b1]; simp; omega] at S1
  rw [v2, show smallB t.data.toList = true by rw [b2]; simp; omega] at S2
  have hx : (iv s).natAbs < 10 ^ 8 := by
    rw [ex, sv_abs]; exact Nat.lt_of_lt_of_le bx (Nat.pow_le_pow_right (by decide) (by omega))
  have hy : (iv t).natAbs < 10 ^ 8 := by
    rw [ey, sv_abs]; exact Nat.lt_of_lt_of_le by_ (Nat.pow_le_pow_right (by decide) (by omega))
  have hxy := lt_mul hx hy
  have O := Lib.hid (fun W G => rof_any (iv s * iv t) (by omega) (by omega) W G)
  clear hs ht ls lt ex ey bx by_ b1 b2 v1 v2 u1 u2 u3 u4 hx hy
  have g1 : (d1.size : Int) < 9 := by omega
  have g2 : (d2.size : Int) < 9 := by omega
  generalize iv s = x at *
  generalize iv t = y at *
  obtain ⟨p, hp⟩ : ∃ p : Int, x * y = p := ⟨_, rfl⟩
  rw [hp] at O hxy
  have hp0 : -9223372036854775808 ≤ p ∧ p ≤ 9223372036854775807 := by omega
  rw [hp]
  go_enter Tryz.func37, Tryz.ntmps37
  go_wp2_with fail
  refine (C1.out _).mono ?_
  rintro e w1 ⟨rfl, m1, hw1⟩
  have q1 : Below w.heap.size w w1 := by rw [hw1]; exact drew_below _ _
  clear hw1
  go_wp2_with fail
  refine (C2.out _).mono ?_
  rintro e w2 ⟨rfl, m2, hw2⟩
  have q2 : Below w.heap.size w w2 := by rw [hw2]; exact q1.trans (drew_below _ _ |>.mono q1.size)
  clear hw2
  go_wp2_with fail
  refine (S1.out _).mono ?_
  rintro e w3 ⟨rfl, hb3⟩
  have q3 := q2.trans (hb3.mono q2.size)
  go_wp2_with fail
  refine (S2.out _).mono ?_
  rintro e w4 ⟨rfl, hb4⟩
  have q4 := q3.trans (hb4.mono q3.size)
  go_wp2_with fail
  refine (O.out _ (G.below q4)).mono ?_
  rintro e w5 ⟨rfl, hb5⟩
  go_wp2
  go_ret
  exact ⟨rfl, q4.trans (hb5.mono q4.size)⟩
set_option maxHeartbeats 1000000 in
theorem rmul_bigA (s t : ByteArray) (mx my : Bool) (d1 d2 : ByteArray) (X Y : Nat) (nx : rnd X ≤ 40000) (ny : rnd Y ≤ 40000) (hc : 9 ≤ d1.size)
    (C1 : Hid (∀ W, Calls Tryz.prog 45 #[.string s] W fun e w' => e = .returned (.tuple #[.bool mx, .string d1]) ∧ ∃ k, w' = W.drewN k)) (C2 : Hid (∀ W, Calls Tryz.prog 45 #[.string t] W fun e w' => e = .returned (.tuple #[.bool my, .string d2]) ∧ ∃ k, w' = W.drewN k))
    (G1 : Hid (∀ W, Calls Tryz.prog 69 #[.string d1] W fun e w' => (∃ v, e = .returned v ∧ RMag w' v X) ∧ Below W.heap.size W w')) (G2 : Hid (∀ W, Calls Tryz.prog 69 #[.string d2] W fun e w' => (∃ v, e = .returned v ∧ RMag w' v Y) ∧ Below W.heap.size W w')) (w : World) (G : Gi w) :
    Calls Tryz.prog 37 #[.string s, .string t] w fun e w' => e = .returned (.string (tz (sv mx X * sv my Y))) ∧ Below w.heap.size w w' := by
  have g1 : ¬ (d1.size : Int) < 9 := by omega
  clear hc
  rw [sv_mul]
  have hb : (mx != my) = (mx != my) := rfl
  go_enter Tryz.func37, Tryz.ntmps37
  go_wp2_with fail
  refine (C1.out _).mono ?_
  rintro e w1 ⟨rfl, m1, hw1⟩
  have q1 : Below w.heap.size w w1 := by rw [hw1]; exact drew_below _ _
  clear hw1
  go_wp2_with fail
  refine (C2.out _).mono ?_
  rintro e w2 ⟨rfl, m2, hw2⟩
  have q2 : Below w.heap.size w w2 := by rw [hw2]; exact q1.trans (drew_below _ _ |>.mono q1.size)
  clear hw2
  go_wp2_with fail
  refine (G1.out _).mono ?_
  rintro e w3 ⟨⟨v3, rfl, h3⟩, hb3⟩
  have q3 := q2.trans (hb3.mono q2.size)
  go_wp2_with fail
  refine (G2.out _).mono ?_
  rintro e w4 ⟨⟨v4, rfl, h4⟩, hb4⟩
  have q4 := q3.trans (hb4.mono q3.size)
  have h3' := h3.call hb4
  go_wp2_with fail
  refine (rtimes_mag _ _ X Y _ h3' h4 (by omega)).mono ?_
  rintro e w5 ⟨⟨v5, rfl, h5⟩, hb5⟩
  have q5 := q4.trans (hb5.mono q4.size)
  go_wp2_with fail
  refine (whole_any (mx != my) v5 _ _ h5 (by have := rnd_mul X Y; omega) (G.below q5)).mono ?_
  rintro e w6 ⟨rfl, hb6⟩
  go_wp2
  go_ret
  exact ⟨rfl, q5.trans (hb6.mono q5.size)⟩
set_option maxHeartbeats 1000000 in
theorem rmul_bigB (s t : ByteArray) (mx my : Bool) (d1 d2 : ByteArray) (X Y : Nat) (nx : rnd X ≤ 40000) (ny : rnd Y ≤ 40000) (hc : d1.size < 9 ∧ 9 ≤ d2.size)
    (C1 : Hid (∀ W, Calls Tryz.prog 45 #[.string s] W fun e w' => e = .returned (.tuple #[.bool mx, .string d1]) ∧ ∃ k, w' = W.drewN k)) (C2 : Hid (∀ W, Calls Tryz.prog 45 #[.string t] W fun e w' => e = .returned (.tuple #[.bool my, .string d2]) ∧ ∃ k, w' = W.drewN k))
    (G1 : Hid (∀ W, Calls Tryz.prog 69 #[.string d1] W fun e w' => (∃ v, e = .returned v ∧ RMag w' v X) ∧ Below W.heap.size W w')) (G2 : Hid (∀ W, Calls Tryz.prog 69 #[.string d2] W fun e w' => (∃ v, e = .returned v ∧ RMag w' v Y) ∧ Below W.heap.size W w')) (w : World) (G : Gi w) :
    Calls Tryz.prog 37 #[.string s, .string t] w fun e w' => e = .returned (.string (tz (sv mx X * sv my Y))) ∧ Below w.heap.size w w' := by
  have g1 : (d1.size : Int) < 9 := by omega
  have g2 : ¬ (d2.size : Int) < 9 := by omega
  clear hc
  rw [sv_mul]
  have hb : (mx != my) = (mx != my) := rfl
  go_enter Tryz.func37, Tryz.ntmps37
  go_wp2_with fail
  refine (C1.out _).mono ?_
  rintro e w1 ⟨rfl, m1, hw1⟩
  have q1 : Below w.heap.size w w1 := by rw [hw1]; exact drew_below _ _
  clear hw1
  go_wp2_with fail
  refine (C2.out _).mono ?_
  rintro e w2 ⟨rfl, m2, hw2⟩
  have q2 : Below w.heap.size w w2 := by rw [hw2]; exact q1.trans (drew_below _ _ |>.mono q1.size)
  clear hw2
  go_wp2_with fail
  refine (G1.out _).mono ?_
  rintro e w3 ⟨⟨v3, rfl, h3⟩, hb3⟩
  have q3 := q2.trans (hb3.mono q2.size)
  go_wp2_with fail
  refine (G2.out _).mono ?_
  rintro e w4 ⟨⟨v4, rfl, h4⟩, hb4⟩
  have q4 := q3.trans (hb4.mono q3.size)
  have h3' := h3.call hb4
  go_wp2_with fail
  refine (rtimes_mag _ _ X Y _ h3' h4 (by omega)).mono ?_
  rintro e w5 ⟨⟨v5, rfl, h5⟩, hb5⟩
  have q5 := q4.trans (hb5.mono q4.size)
  go_wp2_with fail
  refine (whole_any (mx != my) v5 _ _ h5 (by have := rnd_mul X Y; omega) (G.below q5)).mono ?_
  rintro e w6 ⟨rfl, hb6⟩
  go_wp2
  go_ret
  exact ⟨rfl, q5.trans (hb6.mono q5.size)⟩
theorem rmul_c (s t : ByteArray) (hs : Cn s) (ht : Cn t) (ls : s.size ≤ 40000) (lt : t.size ≤ 40000) (w : World) (G : Gi w) :
    Calls Tryz.prog 37 #[.string s, .string t] w fun e w' => e = .returned (.string (tz (iv s * iv t))) ∧ Below w.heap.size w w' := by
  obtain ⟨mx, d1, X, ex, n1, o1, z1, p1, b1, C1, G1⟩ := group_c s hs ls
  obtain ⟨my, d2, Y, ey, n2, o2, z2, p2, b2, C2, G2⟩ := group_c t ht lt
  by_cases h1 : d1.size < 9
  · by_cases h2 : d2.size < 9
    · exact rmul_few s t hs ht ls lt mx my d1 d2 X Y ex ey p1 p2 b1 b2 h1 h2 (Lib.hid C1) (Lib.hid C2) w G
    · rw [ex, ey]
      exact rmul_bigB s t mx my d1 d2 X Y (by omega) (by omega) ⟨h1, by omega⟩ (Lib.hid C1) (Lib.hid C2) (Lib.hid G1) (Lib.hid G2) w G
  · rw [ex, ey]
    exact rmul_bigA s t mx my d1 d2 X Y (by omega) (by omega) (by omega) (Lib.hid C1) (Lib.hid C2) (Lib.hid G1) (Lib.hid G2) w G
end Go.Proofs.YtnchodofgaaeeaaGreatDoor
