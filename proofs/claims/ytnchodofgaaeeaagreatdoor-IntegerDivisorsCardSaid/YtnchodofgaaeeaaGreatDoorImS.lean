/- The contract of DivMod for integers that are small. -/
import Derived.Test.YtnchodofgaaeeaaGreatDoorImR
import Derived.Test.YtnchodofgaaeeaaGreatDoorImO
namespace Go.Proofs.YtnchodofgaaeeaaGreatDoor
open Go Go.RowKit Go.Shelf

/-- The quotient, rounded down, and the remainder. -/
def dvC (x y : Int) : Bool := x.tmod y != 0 && (decide (x.tmod y < 0) != decide (y < 0))
def dvQ (x y : Int) : Int := if dvC x y then x.tdiv y - 1 else x.tdiv y
def dvR (x y : Int) : Int := if dvC x y then x.tmod y + y else x.tmod y
theorem dv_sum (x y : Int) : dvQ x y * y + dvR x y = x := by
  have h := Int.mul_tdiv_add_tmod x y
  have e := Int.sub_mul (x.tdiv y) 1 y
  rw [Int.mul_comm] at h
  unfold dvQ dvR
  split
  · rw [e]; omega
  · exact h
theorem dv_ends (x y : Int) (hy : y ≠ 0) : (0 < y → 0 ≤ dvR x y ∧ dvR x y < y) ∧ (y < 0 → y < dvR x y ∧ dvR x y ≤ 0) := by
  have h1 : (x.tmod y).natAbs < y.natAbs := by rw [Int.natAbs_tmod]; exact Nat.mod_lt _ (by omega)
  unfold dvR dvC
  by_cases h2 : x.tmod y = 0
  · rw [h2]
    simp
  · by_cases h3 : x.tmod y < 0
    · by_cases h4 : y < 0
      · simp [h3, h4]; omega
      · simp [h2, h3, h4]; omega
    · by_cases h4 : y < 0
      · simp [h2, h3, h4]; omega
      · simp [h3, h4]; omega
theorem dv_unique {x y q r q' r' : Int} (h : q * y + r = x) (h' : q' * y + r' = x) (e : (0 < y → 0 ≤ r ∧ r < y) ∧ (y < 0 → y < r ∧ r ≤ 0)) (e' : (0 < y → 0 ≤ r' ∧ r' < y) ∧ (y < 0 → y < r' ∧ r' ≤ 0)) (hy : y ≠ 0) : q = q' ∧ r = r' := by
  have h1 : (q - q') * y = r' - r := by rw [Int.sub_mul]; omega
  have h2 : (r' - r).natAbs < y.natAbs := by
    rcases Int.lt_or_gt_of_ne hy with h3 | h3
    · have := e.2 h3; have := e'.2 h3; omega
    · have := e.1 h3; have := e'.1 h3; omega
  have h3 : q - q' = 0 := by
    rcases Int.lt_trichotomy (q - q') 0 with h4 | h4 | h4
    · exfalso
      have h5 : (r' - r).natAbs = (q - q').natAbs * y.natAbs := by rw [← h1, Int.natAbs_mul]
      have h6 : 1 * y.natAbs ≤ (q - q').natAbs * y.natAbs := Nat.mul_le_mul_right _ (by omega)
      omega
    · exact h4
    · exfalso
      have h5 : (r' - r).natAbs = (q - q').natAbs * y.natAbs := by rw [← h1, Int.natAbs_mul]
      have h6 : 1 * y.natAbs ≤ (q - q').natAbs * y.natAbs := Nat.mul_le_mul_right _ (by omega)
      omega
  rw [h3, Int.zero_mul] at h1
  exact ⟨by omega, by omega⟩
theorem sgn_zero {z : Int} : sgn z = 0 ↔ z = 0 := by
  unfold sgn
  by_cases h : z = 0
  · simp [h]
  · rw [if_neg h]; split <;> simp [h]

set_option maxHeartbeats 2000000 in
theorem div_zero (s t : ByteArray) (ht : Cn t) (h0 : iv t = 0) (w : World) :
    Calls Tryz.prog 39 #[.string s, .string t] w fun e w' => e = .returned (.tuple #[.string ⟨#[]⟩, .string ⟨#[]⟩, .int .i64 17]) ∧ Below w.heap.size w w' := by
  have SG := Lib.hid (fun W => sign_c t ht W)
  rw [h0, show sgn 0 = 0 from rfl] at SG
  clear ht h0
  go_enter Tryz.func39, Tryz.ntmps39
  go_wp2_with fail
  refine (SG.out _).mono ?_
  rintro e w1 ⟨rfl, hb1⟩
  go_wp2
  exact bodyPost_ret (v := .tuple #[.string ⟨#[]⟩, .string ⟨#[]⟩, .int .i64 17]) (by simp [results, Tryz.results39, go_sem]) rfl ⟨rfl, hb1⟩

set_option maxRecDepth 100000 in
set_option maxHeartbeats 4000000 in
theorem div_few (s t : ByteArray) (hs : Cn s) (ht : Cn t) (hb : (smallB s.data.toList && smallB t.data.toList) = true) (h0 : iv t ≠ 0) (w : World) (G : Gi w) :
    Calls Tryz.prog 39 #[.string s, .string t] w fun e w' => e = .returned (.tuple #[.string (tz (dvQ (iv s) (iv t))), .string (tz (dvR (iv s) (iv t))), .int .i64 0]) ∧ Below w.heap.size w w' := by
  have SG := Lib.hid (fun W => sign_c t ht W)
  have P := Lib.hid (fun W => pair_any s t (by have := hs.size; omega) (by have := ht.size; omega) W)
  rw [hb] at P
  rw [Bool.and_eq_true] at hb
  obtain ⟨e1, a1, b1⟩ := small_iv hb.1
  obtain ⟨e2, a2, b2⟩ := small_iv hb.2
  rw [e1, e2] at P
  clear hs ht hb e1 e2
  generalize iv s = x at *
  generalize iv t = y at *
  have hsg : ¬ sgn y = 0 := fun e => h0 (sgn_zero.1 e)
  have hq1 : (x.tdiv y).natAbs ≤ x.natAbs := Int.natAbs_tdiv_le_natAbs x y
  have hr1 : (x.tmod y).natAbs < y.natAbs := by rw [Int.natAbs_tmod]; exact Nat.mod_lt _ (by omega)
  have hC : dvC x y = (x.tmod y != 0 && (decide (x.tmod y < 0) != decide (y < 0))) := rfl
  have hQ : dvQ x y = if dvC x y then x.tdiv y - 1 else x.tdiv y := rfl
  have hR : dvR x y = if dvC x y then x.tmod y + y else x.tmod y := rfl
  rw [hQ, hR]
  clear hQ hR
  have OF := Lib.hid (fun (n : Int) (h1 : -4000000000000000000 ≤ n) (h2 : n ≤ 4000000000000000000) W G => of_any n (by omega) (by omega) W G)
  generalize hsv : sgn y = sy at *
  obtain ⟨q, hq⟩ : ∃ q, x.tdiv y = q := ⟨_, rfl⟩
  obtain ⟨r, hr⟩ : ∃ r, x.tmod y = r := ⟨_, rfl⟩
  rw [hq] at hq1 ⊢
  rw [hr] at hr1 hC ⊢
  have q1 : -2000000000000000000 < q := by omega
  have q2 : q < 2000000000000000000 := by omega
  have r1 : -2000000000000000000 < r := by omega
  have r2 : r < 2000000000000000000 := by omega
  by_cases hr0 : r = 0
  · subst hr0
    rw [show dvC x y = false by rw [hC]; rfl]
    simp only [Bool.false_eq_true, if_false]
    clear hC
    have OQ := Lib.hid (OF.out (q) (by omega) (by omega))
    have OR := Lib.hid (OF.out (0) (by omega) (by omega))
    clear OF
    go_enter Tryz.func39, Tryz.ntmps39
    go_wp2_with fail
    refine (SG.out _).mono ?_
    rintro e w1 ⟨rfl, hb1⟩
    go_wp2_with fail
    refine (P.out _).mono ?_
    rintro e w2 ⟨rfl, hb2⟩
    have hb12 := hb1.trans (hb2.mono hb1.size)
    go_wp2_with (go_quiet (fail))
    have hbq : Below w.heap.size w (w2.drewN nq) := hb12.trans ⟨rfl, rfl, rfl, Nat.le_refl _, fun _ _ => rfl⟩
    refine (OQ.out _ (G.below hbq)).mono ?_
    rintro e w3 ⟨rfl, hb3⟩
    have hb13 := hbq.trans (hb3.mono hbq.size)
    go_wp2_with fail
    refine (OR.out _ (G.below hb13)).mono ?_
    rintro e w4 ⟨rfl, hb4⟩
    have hb14 := hb13.trans (hb4.mono hb13.size)
    go_wp2
    exact bodyPost_ret (v := .tuple #[.string (tz (q)), .string (tz (0)), .int .i64 0]) (by simp [results, Tryz.results39, go_sem, tz]) rfl ⟨rfl, hb14⟩
  · by_cases hr1 : r < 0
    · by_cases hy1 : y < 0
      · rw [show dvC x y = false by rw [hC]; simp [hr1, hy1]]
        simp only [Bool.false_eq_true, if_false]
        clear hC
        have OQ := Lib.hid (OF.out (q) (by omega) (by omega))
        have OR := Lib.hid (OF.out (r) (by omega) (by omega))
        have hcond0 : (r != 0) = true := by simp [hr0]
        have hcond : (decide (r < 0) == decide (y < 0)) = true := by simp [hr1, hy1]
        have hcond2 : (decide (r < 0) != decide (y < 0)) = false := by simp [hr1, hy1]
        clear hr1 hy1
        clear OF
        go_enter Tryz.func39, Tryz.ntmps39
        go_wp2_with fail
        refine (SG.out _).mono ?_
        rintro e w1 ⟨rfl, hb1⟩
        go_wp2_with fail
        refine (P.out _).mono ?_
        rintro e w2 ⟨rfl, hb2⟩
        have hb12 := hb1.trans (hb2.mono hb1.size)
        go_wp2_with (go_quiet (fail))
        have hbq : Below w.heap.size w (w2.drewN nq) := hb12.trans ⟨rfl, rfl, rfl, Nat.le_refl _, fun _ _ => rfl⟩
        refine (OQ.out _ (G.below hbq)).mono ?_
        rintro e w3 ⟨rfl, hb3⟩
        have hb13 := hbq.trans (hb3.mono hbq.size)
        go_wp2_with fail
        refine (OR.out _ (G.below hb13)).mono ?_
        rintro e w4 ⟨rfl, hb4⟩
        have hb14 := hb13.trans (hb4.mono hb13.size)
        go_wp2
        exact bodyPost_ret (v := .tuple #[.string (tz (q)), .string (tz (r)), .int .i64 0]) (by simp [results, Tryz.results39, go_sem, tz]) rfl ⟨rfl, hb14⟩
      · rw [show dvC x y = true by rw [hC]; simp [hr0, hr1, hy1]]
        simp only [if_true]
        clear hC
        have OQ := Lib.hid (OF.out (q - 1) (by omega) (by omega))
        have OR := Lib.hid (OF.out (r + y) (by omega) (by omega))
        have hcond0 : (r != 0) = true := by simp [hr0]
        have hcond : (decide (r < 0) == decide (y < 0)) = false := by simp [hr1, hy1]
        have hcond2 : (decide (r < 0) != decide (y < 0)) = true := by simp [hr1, hy1]
        clear hr1 hy1
        clear OF
        go_enter Tryz.func39, Tryz.ntmps39
        go_wp2_with fail
        refine (SG.out _).mono ?_
        rintro e w1 ⟨rfl, hb1⟩
        go_wp2_with fail
        refine (P.out _).mono ?_
        rintro e w2 ⟨rfl, hb2⟩
        have hb12 := hb1.trans (hb2.mono hb1.size)
        go_wp2_with (go_quiet (fail))
        have hbq : Below w.heap.size w (w2.drewN nq) := hb12.trans ⟨rfl, rfl, rfl, Nat.le_refl _, fun _ _ => rfl⟩
        refine (OQ.out _ (G.below hbq)).mono ?_
        rintro e w3 ⟨rfl, hb3⟩
        have hb13 := hbq.trans (hb3.mono hbq.size)
        go_wp2_with fail
        refine (OR.out _ (G.below hb13)).mono ?_
        rintro e w4 ⟨rfl, hb4⟩
        have hb14 := hb13.trans (hb4.mono hb13.size)
        go_wp2
        exact bodyPost_ret (v := .tuple #[.string (tz (q - 1)), .string (tz (r + y)), .int .i64 0]) (by simp [results, Tryz.results39, go_sem, tz]) rfl ⟨rfl, hb14⟩
    · by_cases hy1 : y < 0
      · rw [show dvC x y = true by rw [hC]; simp [hr0, hr1, hy1]]
        simp only [if_true]
        clear hC
        have OQ := Lib.hid (OF.out (q - 1) (by omega) (by omega))
        have OR := Lib.hid (OF.out (r + y) (by omega) (by omega))
        have hcond0 : (r != 0) = true := by simp [hr0]
        have hcond : (decide (r < 0) == decide (y < 0)) = false := by simp [hr1, hy1]
        have hcond2 : (decide (r < 0) != decide (y < 0)) = true := by simp [hr1, hy1]
        clear hr1 hy1
        clear OF
        go_enter Tryz.func39, Tryz.ntmps39
        go_wp2_with fail
        refine (SG.out _).mono ?_
        rintro e w1 ⟨rfl, hb1⟩
        go_wp2_with fail
        refine (P.out _).mono ?_
        rintro e w2 ⟨rfl, hb2⟩
        have hb12 := hb1.trans (hb2.mono hb1.size)
        go_wp2_with (go_quiet (fail))
        have hbq : Below w.heap.size w (w2.drewN nq) := hb12.trans ⟨rfl, rfl, rfl, Nat.le_refl _, fun _ _ => rfl⟩
        refine (OQ.out _ (G.below hbq)).mono ?_
        rintro e w3 ⟨rfl, hb3⟩
        have hb13 := hbq.trans (hb3.mono hbq.size)
        go_wp2_with fail
        refine (OR.out _ (G.below hb13)).mono ?_
        rintro e w4 ⟨rfl, hb4⟩
        have hb14 := hb13.trans (hb4.mono hb13.size)
        go_wp2
        exact bodyPost_ret (v := .tuple #[.string (tz (q - 1)), .string (tz (r + y)), .int .i64 0]) (by simp [results, Tryz.results39, go_sem, tz]) rfl ⟨rfl, hb14⟩
      · rw [show dvC x y = false by rw [hC]; simp [hr1, hy1]]
        simp only [Bool.false_eq_true, if_false]
        clear hC
        have OQ := Lib.hid (OF.out (q) (by omega) (by omega))
        have OR := Lib.hid (OF.out (r) (by omega) (by omega))
        have hcond0 : (r != 0) = true := by simp [hr0]
        have hcond : (decide (r < 0) == decide (y < 0)) = true := by simp [hr1, hy1]
        have hcond2 : (decide (r < 0) != decide (y < 0)) = false := by simp [hr1, hy1]
        clear hr1 hy1
        clear OF
        go_enter Tryz.func39, Tryz.ntmps39
        go_wp2_with fail
        refine (SG.out _).mono ?_
        rintro e w1 ⟨rfl, hb1⟩
        go_wp2_with fail
        refine (P.out _).mono ?_
        rintro e w2 ⟨rfl, hb2⟩
        have hb12 := hb1.trans (hb2.mono hb1.size)
        go_wp2_with (go_quiet (fail))
        have hbq : Below w.heap.size w (w2.drewN nq) := hb12.trans ⟨rfl, rfl, rfl, Nat.le_refl _, fun _ _ => rfl⟩
        refine (OQ.out _ (G.below hbq)).mono ?_
        rintro e w3 ⟨rfl, hb3⟩
        have hb13 := hbq.trans (hb3.mono hbq.size)
        go_wp2_with fail
        refine (OR.out _ (G.below hb13)).mono ?_
        rintro e w4 ⟨rfl, hb4⟩
        have hb14 := hb13.trans (hb4.mono hb13.size)
        go_wp2
        exact bodyPost_ret (v := .tuple #[.string (tz (q)), .string (tz (r)), .int .i64 0]) (by simp [results, Tryz.results39, go_sem, tz]) rfl ⟨rfl, hb14⟩

end Go.Proofs.YtnchodofgaaeeaaGreatDoor
