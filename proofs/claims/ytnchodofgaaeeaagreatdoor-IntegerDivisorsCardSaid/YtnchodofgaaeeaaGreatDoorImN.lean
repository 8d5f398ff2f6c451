/- Contracts of the exported functions over canonical texts: Add, Sub, Mul, Neg, Sign, Compare. -/
import Derived.Test.YtnchodofgaaeeaaGreatDoorImL
import Derived.Test.YtnchodofgaaeeaaGreatDoorImH
namespace Go.Proofs.YtnchodofgaaeeaaGreatDoor
open Go Go.RowKit Go.Shelf

/-- A canonical integer that is not too long. -/
structure Cn (s : ByteArray) : Prop where
  canon : Im.canonI s.data.toList = true
  size : s.size ≤ 100000
def iv (s : ByteArray) : Int := Im.ivL s.data.toList
def tz (z : Int) : ByteArray := ⟨(Lib.itoa z).toArray⟩
theorem iv_tz (z : Int) : iv (tz z) = z := by simp [iv, tz, Im.ivL_itoa]
theorem tz_iv {s : ByteArray} (h : Im.canonI s.data.toList = true) : tz (iv s) = s := by
  apply ext_bytes
  simp [tz, iv, Im.itoa_ivL h]
theorem canon_tz (z : Int) : Im.canonI (tz z).data.toList = true := by simp [tz, Im.canonI_itoa]
theorem dgs_len (l : List UInt8) : (Im.dgs l).length ≤ l.length := by
  unfold Im.dgs
  split
  · rw [List.length_tail]; omega
  · exact Nat.le_refl _
theorem iv_lt {s : ByteArray} (h : Im.canonI s.data.toList = true) : (iv s).natAbs < 10 ^ (Im.dgs s.data.toList).length := by
  unfold iv
  rw [ivL_abs]
  exact Im.val_lt (Im.canonL_iff.1 (Im.canonI_canon h).1).2.1
theorem pow_BB (k : Nat) : (10 : Nat) ^ k ≤ BB ^ k := Nat.pow_le_pow_left (by unfold BB; omega) k
theorem nd_iv {s : ByteArray} (h : Cn s) : nd (iv s).natAbs ≤ 100000 := by
  have h1 := iv_lt h.canon
  have h2 := pow_BB (Im.dgs s.data.toList).length
  have h3 := dgs_len s.data.toList
  have h4 := size_list s
  have h5 := h.size
  exact Nat.le_trans (Im.nd_le bb2 (Nat.lt_of_lt_of_le h1 h2)) (by omega)
theorem nd_add (a b : Int) : nd (a + b).natAbs ≤ nd a.natAbs + nd b.natAbs + 1 := by
  have h1 := Im.lt_pow_nd bb2 a.natAbs
  have h2 := Im.lt_pow_nd bb2 b.natAbs
  have h3 : BB ^ nd a.natAbs ≤ BB ^ (nd a.natAbs + nd b.natAbs) := Nat.pow_le_pow_right (by unfold BB; omega) (by omega)
  have h4 : BB ^ nd b.natAbs ≤ BB ^ (nd a.natAbs + nd b.natAbs) := Nat.pow_le_pow_right (by unfold BB; omega) (by omega)
  refine Im.nd_le bb2 ?_
  rw [Nat.pow_succ]
  show _ < BB ^ (nd a.natAbs + nd b.natAbs) * 1000000000
  change a.natAbs < BB ^ nd a.natAbs at h1
  change b.natAbs < BB ^ nd b.natAbs at h2
  generalize BB ^ (nd a.natAbs + nd b.natAbs) = K at *
  generalize BB ^ nd a.natAbs = K1 at *
  generalize BB ^ nd b.natAbs = K2 at *
  omega
theorem nd_mul (a b : Int) : nd (a * b).natAbs ≤ nd a.natAbs + nd b.natAbs := by
  refine Im.nd_le bb2 ?_
  rw [Int.natAbs_mul, Nat.pow_add]
  exact Nat.mul_lt_mul'' (Im.lt_pow_nd bb2 _) (Im.lt_pow_nd bb2 _)
theorem nd_neg (a : Int) : nd (-a).natAbs = nd a.natAbs := by rw [Int.natAbs_neg]

theorem small_iv {s : ByteArray} (h : smallB s.data.toList = true) : smallV s.data.toList = iv s ∧ -1000000000000000000 < iv s ∧ iv s < 1000000000000000000 := by
  unfold smallB at h
  rw [Bool.and_eq_true, decide_eq_true_iff] at h
  have h1 := iv_lt h.1
  have h2 : (10 : Nat) ^ (Im.dgs s.data.toList).length ≤ 10 ^ 18 := Nat.pow_le_pow_right (by decide) h.2
  refine ⟨by unfold smallV iv; rw [if_pos h], by omega, by omega⟩
theorem read_c (s : ByteArray) (h : Cn s) (w : World) :
    Calls Tryz.prog 61 #[.string s] w fun e w' => (∃ v, e = .returned v ∧ Num w' v (iv s)) ∧ Below w.heap.size w w' :=
  read_yes s (by have := h.size; omega) h.canon w
/-- How long a text of a number is. -/
theorem len_tz {z : Int} {k : Nat} (h : z.natAbs < 10 ^ k) (hk : 0 < k) : (tz z).size ≤ k + 1 := by
  rw [← size_list]
  show (Lib.itoa z).length ≤ k + 1
  by_cases h0 : z < 0
  · rw [Im.itoa_neg h0, List.length_cons]
    have := Im.dec_len h hk
    omega
  · rw [Im.itoa_nonneg (by omega), show z.toNat = z.natAbs by omega]
    have := Im.dec_len h hk
    omega
theorem cn_tz {z : Int} {k : Nat} (h : z.natAbs < 10 ^ k) (hk : 0 < k) (h5 : k ≤ 50000) : Cn (tz z) := ⟨canon_tz z, by have := len_tz h hk; omega⟩

set_option maxHeartbeats 1000000 in
theorem add_c_few (s t : ByteArray) (hs : Cn s) (ht : Cn t) (hb : (smallB s.data.toList && smallB t.data.toList) = true) (w : World) (G : Gi w) :
    Calls Tryz.prog 32 #[.string s, .string t] w fun e w' => e = .returned (.string (tz (iv s + iv t))) ∧ Below w.heap.size w w' := by
  have P := Lib.hid (fun W => pair_any s t (by have := hs.size; omega) (by have := ht.size; omega) W)
  rw [hb] at P
  rw [Bool.and_eq_true] at hb
  obtain ⟨e1, a1, b1⟩ := small_iv hb.1
  obtain ⟨e2, a2, b2⟩ := small_iv hb.2
  rw [e1, e2] at P
  clear hs ht hb e1 e2
  have O := Lib.hid (fun W G => of_any (iv s + iv t) (by omega) (by omega) W G)
  generalize iv s = x at *
  generalize iv t = y at *
  go_enter Tryz.func32, Tryz.ntmps32
  go_wp2_with fail
  refine (P.out _).mono ?_
  rintro e w1 ⟨rfl, hb1⟩
  have G1 := G.below hb1
  go_wp2_with fail
  refine (O.out _ G1).mono ?_
  rintro e w2 ⟨rfl, hb2⟩
  go_wp2
  go_ret
  exact ⟨rfl, hb1.trans (hb2.mono hb1.size)⟩
set_option maxHeartbeats 1000000 in
theorem add_c_big (s t : ByteArray) (hs : Cn s) (ht : Cn t) (hb : (smallB s.data.toList && smallB t.data.toList) = false) (w : World) (G : Gi w) :
    Calls Tryz.prog 32 #[.string s, .string t] w fun e w' => e = .returned (.string (tz (iv s + iv t))) ∧ Below w.heap.size w w' := by
  have P := Lib.hid (fun W => pair_any s t (by have := hs.size; omega) (by have := ht.size; omega) W)
  rw [hb] at P
  have RA := Lib.hid (fun W => read_c s hs W)
  have RB := Lib.hid (fun W => read_c t ht W)
  have n1 := nd_iv hs
  have n2 := nd_iv ht
  have n3 := nd_add (iv s) (iv t)
  have N1 := Lib.hid n1
  have N2 := Lib.hid n2
  have N3 := Lib.hid n3
  clear hs ht hb n1 n2 n3
  go_enter Tryz.func32, Tryz.ntmps32
  go_wp2_with fail
  refine (P.out _).mono ?_
  rintro e w1 ⟨rfl, hb1⟩
  go_wp2_with fail
  refine (RA.out _).mono ?_
  rintro e w2 ⟨⟨v2, rfl, h2⟩, hb2⟩
  go_wp2_with fail
  refine (RB.out _).mono ?_
  rintro e w3 ⟨⟨v3, rfl, h3⟩, hb3⟩
  have h2' := h2.call hb3
  go_wp2_with fail
  refine (plus_any v2 v3 _ _ _ h2' h3 (by have := N1.out; omega) (by have := N2.out; omega)).mono ?_
  rintro e w5 ⟨⟨v5, rfl, h5⟩, hb5⟩
  have hb12 := hb1.trans (hb2.mono hb1.size)
  have hb13 := hb12.trans (hb3.mono hb12.size)
  have hb15 := hb13.trans (hb5.mono hb13.size)
  have G5 := G.below hb15
  go_wp2_with fail
  refine (text_any v5 _ _ h5 (by have := N1.out; have := N2.out; have := N3.out; omega) G5).mono ?_
  rintro e w6 ⟨rfl, hb6⟩
  go_wp2
  go_ret
  exact ⟨rfl, hb15.trans (hb6.mono hb15.size)⟩
theorem add_c (s t : ByteArray) (hs : Cn s) (ht : Cn t) (w : World) (G : Gi w) :
    Calls Tryz.prog 32 #[.string s, .string t] w fun e w' => e = .returned (.string (tz (iv s + iv t))) ∧ Below w.heap.size w w' := by
  cases hb : (smallB s.data.toList && smallB t.data.toList) with
  | true => exact add_c_few s t hs ht hb w G
  | false => exact add_c_big s t hs ht hb w G

set_option maxHeartbeats 1000000 in
theorem sub_c_few (s t : ByteArray) (hs : Cn s) (ht : Cn t) (hb : (smallB s.data.toList && smallB t.data.toList) = true) (w : World) (G : Gi w) :
    Calls Tryz.prog 33 #[.string s, .string t] w fun e w' => e = .returned (.string (tz (iv s - iv t))) ∧ Below w.heap.size w w' := by
  have P := Lib.hid (fun W => pair_any s t (by have := hs.size; omega) (by have := ht.size; omega) W)
  rw [hb] at P
  rw [Bool.and_eq_true] at hb
  obtain ⟨e1, a1, b1⟩ := small_iv hb.1
  obtain ⟨e2, a2, b2⟩ := small_iv hb.2
  rw [e1, e2] at P
  clear hs ht hb e1 e2
  have O := Lib.hid (fun W G => of_any (iv s - iv t) (by omega) (by omega) W G)
  generalize iv s = x at *
  generalize iv t = y at *
  go_enter Tryz.func33, Tryz.ntmps33
  go_wp2_with fail
  refine (P.out _).mono ?_
  rintro e w1 ⟨rfl, hb1⟩
  have G1 := G.below hb1
  go_wp2_with fail
  refine (O.out _ G1).mono ?_
  rintro e w2 ⟨rfl, hb2⟩
  go_wp2
  go_ret
  exact ⟨rfl, hb1.trans (hb2.mono hb1.size)⟩
set_option maxHeartbeats 1000000 in
theorem sub_c_big (s t : ByteArray) (hs : Cn s) (ht : Cn t) (hb : (smallB s.data.toList && smallB t.data.toList) = false) (w : World) (G : Gi w) :
    Calls Tryz.prog 33 #[.string s, .string t] w fun e w' => e = .returned (.string (tz (iv s - iv t))) ∧ Below w.heap.size w w' := by
  have P := Lib.hid (fun W => pair_any s t (by have := hs.size; omega) (by have := ht.size; omega) W)
  rw [hb] at P
  have RA := Lib.hid (fun W => read_c s hs W)
  have RB := Lib.hid (fun W => read_c t ht W)
  have n1 := nd_iv hs
  have n2 := nd_iv ht
  have n3 := nd_add (iv s) (-iv t)
  rw [nd_neg] at n3
  have HZ := Lib.hid (show iv s + -iv t = iv s - iv t by omega)
  have N1 := Lib.hid n1
  have N2 := Lib.hid n2
  have N3 := Lib.hid n3
  clear hs ht hb n1 n2 n3
  go_enter Tryz.func33, Tryz.ntmps33
  go_wp2_with fail
  refine (P.out _).mono ?_
  rintro e w1 ⟨rfl, hb1⟩
  go_wp2_with fail
  refine (RA.out _).mono ?_
  rintro e w2 ⟨⟨v2, rfl, h2⟩, hb2⟩
  go_wp2_with fail
  refine (RB.out _).mono ?_
  rintro e w3 ⟨⟨v3, rfl, h3⟩, hb3⟩
  have h2' := h2.call hb3
  go_wp2_with fail
  refine (negated_any v3 _ _ h3).mono ?_
  rintro e w4 ⟨⟨v4, rfl, h4⟩, hb4⟩
  have h2'' := h2'.call hb4
  go_wp2_with fail
  refine (plus_any v2 v4 _ _ _ h2'' h4 (by have := N1.out; omega) (by rw [nd_neg]; have := N2.out; omega)).mono ?_
  rintro e w5 ⟨⟨v5, rfl, h5⟩, hb5⟩
  have hb12 := hb1.trans (hb2.mono hb1.size)
  have hb13 := hb12.trans (hb3.mono hb12.size)
  have hb14 := hb13.trans (hb4.mono hb13.size)
  have hb15 := hb14.trans (hb5.mono hb14.size)
  have G5 := G.below hb15
  go_wp2_with fail
  refine (text_any v5 _ _ h5 (by have := N1.out; have := N2.out; have := N3.out; omega) G5).mono ?_
  rintro e w6 ⟨rfl, hb6⟩
  go_wp2
  go_ret
  exact ⟨by rw [HZ.out]; rfl, hb15.trans (hb6.mono hb15.size)⟩
theorem sub_c (s t : ByteArray) (hs : Cn s) (ht : Cn t) (w : World) (G : Gi w) :
    Calls Tryz.prog 33 #[.string s, .string t] w fun e w' => e = .returned (.string (tz (iv s - iv t))) ∧ Below w.heap.size w w' := by
  cases hb : (smallB s.data.toList && smallB t.data.toList) with
  | true => exact sub_c_few s t hs ht hb w G
  | false => exact sub_c_big s t hs ht hb w G

set_option maxHeartbeats 1000000 in
theorem cmp_c_big (s t : ByteArray) (hs : Cn s) (ht : Cn t) (hb : (smallB s.data.toList && smallB t.data.toList) = false) (w : World) (G : Gi w) :
    Calls Tryz.prog 27 #[.string s, .string t] w fun e w' => e = .returned (.int .i64 (sgn (iv s - iv t))) ∧ Below w.heap.size w w' := by
  have P := Lib.hid (fun W => pair_any s t (by have := hs.size; omega) (by have := ht.size; omega) W)
  rw [hb] at P
  have RA := Lib.hid (fun W => read_c s hs W)
  have RB := Lib.hid (fun W => read_c t ht W)
  have n1 := nd_iv hs
  have n2 := nd_iv ht
  have n3 := nd_add (iv s) (-iv t)
  rw [nd_neg] at n3
  have HZ := Lib.hid (show iv s + -iv t = iv s - iv t by omega)
  have N1 := Lib.hid n1
  have N2 := Lib.hid n2
  have N3 := Lib.hid n3
  clear hs ht hb n1 n2 n3
  go_enter Tryz.func27, Tryz.ntmps27
  go_wp2_with fail
  refine (P.out _).mono ?_
  rintro e w1 ⟨rfl, hb1⟩
  go_wp2_with fail
  refine (RA.out _).mono ?_
  rintro e w2 ⟨⟨v2, rfl, h2⟩, hb2⟩
  go_wp2_with fail
  refine (RB.out _).mono ?_
  rintro e w3 ⟨⟨v3, rfl, h3⟩, hb3⟩
  have h2' := h2.call hb3
  go_wp2_with fail
  refine (negated_any v3 _ _ h3).mono ?_
  rintro e w4 ⟨⟨v4, rfl, h4⟩, hb4⟩
  have h2'' := h2'.call hb4
  go_wp2_with fail
  refine (plus_any v2 v4 _ _ _ h2'' h4 (by have := N1.out; omega) (by rw [nd_neg]; have := N2.out; omega)).mono ?_
  rintro e w5 ⟨⟨v5, rfl, h5⟩, hb5⟩
  have hb12 := hb1.trans (hb2.mono hb1.size)
  have hb13 := hb12.trans (hb3.mono hb12.size)
  have hb14 := hb13.trans (hb4.mono hb13.size)
  have hb15 := hb14.trans (hb5.mono hb14.size)
  have G5 := G.below hb15
  go_wp2_with fail
  refine (sign_any v5 _ _ h5).mono ?_
  rintro e w6 ⟨rfl, hb6⟩
  go_wp2
  go_ret
  exact ⟨by rw [HZ.out]; rfl, hb15.trans (hb6.mono hb15.size)⟩
theorem sgn_cmp (x y : Int) : Lib.compareInt x y = sgn (x - y) := by
  unfold Lib.compareInt sgn
  by_cases h1 : x < y
  · rw [if_pos h1, if_neg (by omega), if_pos (by omega)]
  · rw [if_neg h1]
    by_cases h2 : x > y
    · rw [if_pos h2, if_neg (by omega), if_neg (by omega)]
    · rw [if_neg h2, if_pos (by omega)]
set_option maxHeartbeats 1000000 in
theorem cmp_c_few (s t : ByteArray) (hs : Cn s) (ht : Cn t) (hb : (smallB s.data.toList && smallB t.data.toList) = true) (w : World) :
    Calls Tryz.prog 27 #[.string s, .string t] w fun e w' => e = .returned (.int .i64 (sgn (iv s - iv t))) ∧ Below w.heap.size w w' := by
  have P := Lib.hid (fun W => pair_any s t (by have := hs.size; omega) (by have := ht.size; omega) W)
  rw [hb] at P
  rw [Bool.and_eq_true] at hb
  obtain ⟨e1, a1, b1⟩ := small_iv hb.1
  obtain ⟨e2, a2, b2⟩ := small_iv hb.2
  rw [e1, e2] at P
  clear hs ht hb e1 e2
  rw [← sgn_cmp]
  generalize iv s = x at *
  generalize iv t = y at *
  have O := Lib.hid (fun W => Tryz.cmp_Compare_int x y W)
  go_enter Tryz.func27, Tryz.ntmps27
  go_wp2_with fail
  refine (P.out _).mono ?_
  rintro e w1 ⟨rfl, hb1⟩
  go_wp2_with fail
  refine (O.out _).mono ?_
  rintro e w2 ⟨rfl, hww⟩
  subst w2
  go_wp2
  go_ret
  exact ⟨rfl, hb1⟩
theorem cmp_c (s t : ByteArray) (hs : Cn s) (ht : Cn t) (w : World) (G : Gi w) :
    Calls Tryz.prog 27 #[.string s, .string t] w fun e w' => e = .returned (.int .i64 (sgn (iv s - iv t))) ∧ Below w.heap.size w w' := by
  cases hb : (smallB s.data.toList && smallB t.data.toList) with
  | true => exact cmp_c_few s t hs ht hb w
  | false => exact cmp_c_big s t hs ht hb w G

set_option maxHeartbeats 1000000 in
theorem mul_c (s t : ByteArray) (hs : Cn s) (ht : Cn t) (w : World) (G : Gi w) :
    Calls Tryz.prog 36 #[.string s, .string t] w fun e w' => e = .returned (.string (tz (iv s * iv t))) ∧ Below w.heap.size w w' := by
  have DS := Lib.hid (fun W => digits_any s W)
  have DT := Lib.hid (fun W => digits_any t W)
  have P := Lib.hid (fun W => pair_any s t (by have := hs.size; omega) (by have := ht.size; omega) W)
  by_cases hg : (Im.dgs s.data.toList).length + (Im.dgs t.data.toList).length ≤ 18
  · have hb1 : smallB s.data.toList = true := by unfold smallB; rw [hs.canon]; simp; omega
    have hb2 : smallB t.data.toList = true := by unfold smallB; rw [ht.canon]; simp; omega
    obtain ⟨e1, a1, b1⟩ := small_iv hb1
    obtain ⟨e2, a2, b2⟩ := small_iv hb2
    rw [hb1, hb2, e1, e2] at P
    have hp : (iv s * iv t).natAbs < 1000000000000000000 := by
      rw [Int.natAbs_mul]
      have h3 := Nat.mul_lt_mul'' (iv_lt hs.canon) (iv_lt ht.canon)
      rw [← Nat.pow_add] at h3
      have h4 : (10 : Nat) ^ ((Im.dgs s.data.toList).length + (Im.dgs t.data.toList).length) ≤ 10 ^ 18 := Nat.pow_le_pow_right (by decide) hg
      omega
    have O := Lib.hid (fun W G => of_any (iv s * iv t) (by omega) (by omega) W G)
    have hp1 : -1000000000000000000 < iv s * iv t := by omega
    have hp2 : iv s * iv t < 1000000000000000000 := by omega
    have hgi : ((Im.dgs s.data.toList).length : Int) + ((Im.dgs t.data.toList).length : Int) ≤ 18 := by omega
    clear hs ht hb1 hb2 e1 e2 hp
    generalize Im.dgs s.data.toList = ds at *
    generalize Im.dgs t.data.toList = dt at *
    generalize iv s = x at *
    generalize iv t = y at *
    go_enter Tryz.func36, Tryz.ntmps36
    go_wp2_with fail
    refine (DS.out _).mono ?_
    rintro e w1 ⟨rfl, hww⟩
    subst w1
    go_wp2_with fail
    refine (DT.out _).mono ?_
    rintro e w1 ⟨rfl, hww⟩
    subst w1
    go_wp2_with fail
    refine (P.out _).mono ?_
    rintro e w1 ⟨rfl, hb1⟩
    have G1 := G.below hb1
    go_wp2_with fail
    refine (O.out _ G1).mono ?_
    rintro e w2 ⟨rfl, hb2⟩
    go_wp2
    go_ret
    exact ⟨rfl, hb1.trans (hb2.mono hb1.size)⟩
  · have RA := Lib.hid (fun W => read_c s hs W)
    have RB := Lib.hid (fun W => read_c t ht W)
    have n1 := nd_iv hs
    have n2 := nd_iv ht
    have n3 := nd_mul (iv s) (iv t)
    have N1 := Lib.hid n1
    have N2 := Lib.hid n2
    have N3 := Lib.hid n3
    have hgi : ¬ ((Im.dgs s.data.toList).length : Int) + ((Im.dgs t.data.toList).length : Int) ≤ 18 := by omega
    have hl1 : (Im.dgs s.data.toList).length ≤ 100000 := by have := dgs_len s.data.toList; have := size_list s; have := hs.size; omega
    have hl2 : (Im.dgs t.data.toList).length ≤ 100000 := by have := dgs_len t.data.toList; have := size_list t; have := ht.size; omega
    clear hs ht n1 n2 n3
    generalize Im.dgs s.data.toList = ds at *
    generalize Im.dgs t.data.toList = dt at *
    go_enter Tryz.func36, Tryz.ntmps36
    go_wp2_with fail
    refine (DS.out _).mono ?_
    rintro e w1 ⟨rfl, hww⟩
    subst w1
    go_wp2_with fail
    refine (DT.out _).mono ?_
    rintro e w1 ⟨rfl, hww⟩
    subst w1
    go_wp2_with fail
    refine (RA.out _).mono ?_
    rintro e w2 ⟨⟨v2, rfl, h2⟩, hb2⟩
    go_wp2_with fail
    refine (RB.out _).mono ?_
    rintro e w3 ⟨⟨v3, rfl, h3⟩, hb3⟩
    have h2' := h2.call hb3
    go_wp2_with fail
    refine (times_any v2 v3 _ _ _ h2' h3 (by have := N1.out; omega) (by have := N2.out; omega)).mono ?_
    rintro e w5 ⟨⟨v5, rfl, h5⟩, hb5⟩
    have hb13 := hb2.trans (hb3.mono hb2.size)
    have hb15 := hb13.trans (hb5.mono hb13.size)
    have G5 := G.below hb15
    go_wp2_with fail
    refine (text_any v5 _ _ h5 (by have := N1.out; have := N2.out; have := N3.out; omega) G5).mono ?_
    rintro e w6 ⟨rfl, hb6⟩
    go_wp2
    go_ret
    exact ⟨rfl, hb15.trans (hb6.mono hb15.size)⟩

theorem neg_c (s : ByteArray) (hs : Cn s) (w : World) (G : Gi w) :
    Calls Tryz.prog 29 #[.string s] w fun e w' => e = .returned (.string (tz (-iv s))) ∧ Below w.heap.size w w' := by
  have RA := Lib.hid (fun W => read_c s hs W)
  have N1 := Lib.hid (nd_iv hs)
  clear hs
  go_enter Tryz.func29, Tryz.ntmps29
  go_wp2_with fail
  refine (RA.out _).mono ?_
  rintro e w2 ⟨⟨v2, rfl, h2⟩, hb2⟩
  go_wp2_with fail
  refine (negated_any v2 _ _ h2).mono ?_
  rintro e w3 ⟨⟨v3, rfl, h3⟩, hb3⟩
  have hb13 := hb2.trans (hb3.mono hb2.size)
  have G5 := G.below hb13
  go_wp2_with fail
  refine (text_any v3 _ _ h3 (by rw [nd_neg]; have := N1.out; omega) G5).mono ?_
  rintro e w6 ⟨rfl, hb6⟩
  go_wp2
  go_ret
  exact ⟨rfl, hb13.trans (hb6.mono hb13.size)⟩
theorem sign_c (s : ByteArray) (hs : Cn s) (w : World) :
    Calls Tryz.prog 25 #[.string s] w fun e w' => e = .returned (.int .i64 (sgn (iv s))) ∧ Below w.heap.size w w' := by
  have RA := Lib.hid (fun W => read_c s hs W)
  clear hs
  go_enter Tryz.func25, Tryz.ntmps25
  go_wp2_with fail
  refine (RA.out _).mono ?_
  rintro e w2 ⟨⟨v2, rfl, h2⟩, hb2⟩
  go_wp2_with fail
  refine (sign_any v2 _ _ h2).mono ?_
  rintro e w3 ⟨rfl, hb3⟩
  go_wp2
  go_ret
  exact ⟨rfl, hb2.trans (hb3.mono hb2.size)⟩
end Go.Proofs.YtnchodofgaaeeaaGreatDoor
