/- IntegerDivisors, the walk. -/
import Derived.Test.YtnchodofgaaeeaaGreatDoorImDiv
import Derived.Test.YtnchodofgaaeeaaGreatDoorImYg
namespace Go.Proofs.YtnchodofgaaeeaaGreatDoor
open Go Go.RowKit Go.Shelf

theorem dv_exact (x : Int) (g : Nat) (hg : 0 < g) (h : (g : Int) ∣ x) : dvQ x g = x / g ∧ dvR x g = 0 := by
  have e1 : x / (g : Int) * g + 0 = x := by rw [Int.add_zero]; exact Int.ediv_mul_cancel h
  have hg0 : (g : Int) ≠ 0 := by omega
  obtain ⟨h1, h2⟩ := dv_unique e1 (dv_sum x g) (by omega) (dv_ends x g hg0) hg0
  exact ⟨h1.symm, h2.symm⟩
theorem div_lt' {x : Int} {g N : Nat} (hx : x.natAbs < N) : (x / (g : Int)).natAbs < N := by
  refine Nat.lt_of_le_of_lt ?_ hx
  rcases Int.lt_or_le x 0 with h | h
  · rcases Nat.eq_zero_or_pos g with h0 | h0
    · subst h0; simp
    · have h1 : x ≤ x / (g : Int) := by
        rw [Int.le_ediv_iff_mul_le (by omega)]
        have := Int.mul_le_mul_of_nonneg_right (a := 1) (b := (g : Int)) (c := -x) (by omega) (by omega)
        rw [Int.one_mul, Int.mul_neg, Int.mul_comm] at this
        omega
      have h2 : x / (g : Int) < 0 := Int.ediv_neg_of_neg_of_pos h (by omega)
      omega
  · have h1 := Int.ediv_le_self (b := (g : Int)) (a := x) h
    have h2 : 0 ≤ x / (g : Int) := Int.ediv_nonneg h (by omega)
    omega
set_option maxRecDepth 100000 in
set_option maxHeartbeats 4000000 in
theorem divisors_yes (a b : ByteArray) (ha : fitB a = true) (hb : fitB b = true) (ka : a.size ≤ 50) (kb : b.size ≤ 50) (hz : Int.gcd (iv a) (iv b) ≠ 0) (w : World) (G : Gi w) :
    Calls Tryz.prog 9 #[.string a, .string b] w fun e w' => e = .returned (.bool true) ∧ Below w.heap.size w w' := by
  have K := Lib.hid (fun W (G : Gi W) => known_any W G)
  have F := Lib.hid (fun W => fits_new [a, b] (by simp) 22 W 2 rfl)
  have hai : ¬ (50 : Int) < (a.size : Int) := by omega
  have hbi : ¬ (50 : Int) < (b.size : Int) := by omega
  rw [show [a, b].all fitB = true by simp [ha, hb]] at F
  obtain ⟨ca, za⟩ := fit_cn ha
  have la := fit_lt ha
  obtain ⟨cb, zb⟩ := fit_cn hb
  have lb := fit_lt hb
  obtain ⟨N, hN⟩ : ∃ N, N = 10 ^ 90 := ⟨_, rfl⟩
  rw [← hN] at la lb
  have hg0 : 0 < Int.gcd (iv a) (iv b) := Nat.pos_of_ne_zero hz
  have lg : (Int.gcd (iv a) (iv b) : Int).natAbs < N := by
    rw [Int.natAbs_natCast]
    by_cases h : iv a = 0
    · rw [h, Int.gcd_zero_left]; exact lb
    · exact Nat.lt_of_le_of_lt (Nat.le_of_dvd (by omega) (Int.natAbs_dvd_natAbs.2 (Int.gcd_dvd_left ..))) la
  have hone : Int.gcd (iv a / (Int.gcd (iv a) (iv b) : Int)) (iv b / (Int.gcd (iv a) (iv b) : Int)) = 1 := Int.gcd_ediv_gcd_ediv_gcd hg0
  have da := dv_exact (iv a) (Int.gcd (iv a) (iv b)) hg0 (Int.gcd_dvd_left ..)
  have db := dv_exact (iv b) (Int.gcd (iv a) (iv b)) hg0 (Int.gcd_dvd_right ..)
  have lqa : (iv a / (Int.gcd (iv a) (iv b) : Int)).natAbs < N := div_lt' la
  have lqb : (iv b / (Int.gcd (iv a) (iv b) : Int)).natAbs < N := div_lt' lb
  have o1 := fun W G => gcd_c a b ca cb W G
  have o2 := fun W G => rgcd_c a b ca cb (by omega) (by omega) W G
  generalize Int.gcd (iv a) (iv b) = g at *
  rw [hN] at lg lqa lqb
  have cg := cn_tz lg (by decide) (by decide)
  have cx := cn_tz lqa (by decide) (by decide)
  have cy := cn_tz lqb (by decide) (by decide)
  have hgi : iv (tz (g : Int)) ≠ 0 := by rw [iv_tz]; omega
  have hnz := not_zero_text cg hgi
  have hnz1 : ¬ (tz (g : Int)).toList = [48] := fun e => hnz (ext_bytes (by rw [← toList_eq]; exact e))
  have hnz2 : ((tz (g : Int)).toList == [48]) = false := by rw [beq_eq_false_iff_ne]; exact hnz1
  have o3 := fun W G => div_c a (tz (g : Int)) ca cg hgi W G
  have o4 := fun W G => div_c b (tz (g : Int)) cb cg hgi W G
  simp only [iv_tz, da.1, da.2, tz_zero] at o3
  simp only [iv_tz, db.1, db.2, tz_zero] at o4
  have o5 := fun W G => gcd_c (tz (iv a / (g : Int))) (tz (iv b / (g : Int))) cx cy W G
  simp only [iv_tz, hone] at o5
  rw [show tz ((1 : Nat) : Int) = ⟨#[49]⟩ from tz_one] at o5
  have O1 := Lib.hid o1
  have O2 := Lib.hid o2
  have O3 := Lib.hid o3
  have O4 := Lib.hid o4
  have O5 := Lib.hid o5
  clear o1 o2 o3 o4 o5 ca cb la lb za zb ha hb ka kb hz hg0 lg hone da db lqa lqb cg cx cy hgi hN
  generalize tz (iv a / (g : Int)) = X at *
  generalize tz (iv b / (g : Int)) = Y at *
  generalize tz (g : Int) = T at *
  go_enter Tryz.func9, Tryz.ntmps9
  go_wp2_with fail
  refine (K.out _ G).mono ?_
  rintro e wk ⟨rfl, hbk⟩
  go_wp2_with fail
  refine (F.out wk).mono ?_
  rintro e w0 ⟨rfl, b0⟩
  have hb0 := hbk.trans (b0.mono hbk.size)
  have g0 := G.below hb0
  go_wp2_with fail
  refine (O1.out _ g0).mono ?_
  rintro e w1 ⟨rfl, b1⟩
  have hb1 := hb0.trans (b1.mono hb0.size)
  have g1 := G.below hb1
  go_wp2_with fail
  refine (O2.out _ g1).mono ?_
  rintro e w2 ⟨rfl, b2⟩
  have hb2 := hb1.trans (b2.mono hb1.size)
  have g2 := G.below hb2
  go_wp2_with fail
  refine (O3.out _ g2).mono ?_
  rintro e w3 ⟨rfl, b3⟩
  have hb3 := hb2.trans (b3.mono hb2.size)
  have g3 := G.below hb3
  go_wp2_with fail
  refine (O4.out _ g3).mono ?_
  rintro e w4 ⟨rfl, b4⟩
  have hb4 := hb3.trans (b4.mono hb3.size)
  have g4 := G.below hb4
  go_wp2_with fail
  refine (O5.out _ g4).mono ?_
  rintro e w5 ⟨rfl, b5⟩
  have hb5 := hb4.trans (b5.mono hb4.size)
  have g5 := G.below hb5
  go_wp2
  go_ret
  exact ⟨rfl, hb5⟩

set_option maxRecDepth 100000 in
set_option maxHeartbeats 4000000 in
theorem divisors_zero   (w : World) (G : Gi w) :
    Calls Tryz.prog 9 #[.string ⟨#[48]⟩, .string ⟨#[48]⟩] w fun e w' => e = .returned (.bool true) ∧ Below w.heap.size w w' := by
  have K := Lib.hid (fun W (G : Gi W) => known_any W G)
  have F := Lib.hid (fun W => fits_new [⟨#[48]⟩, ⟨#[48]⟩] (by simp) 22 W 2 rfl)
  rw [show [(⟨#[48]⟩ : ByteArray), ⟨#[48]⟩].all fitB = true by decide] at F
  have hz : iv ⟨#[48]⟩ = 0 := iv_zero rfl
  have o1 := fun W G => gcd_c ⟨#[48]⟩ ⟨#[48]⟩ (cn_bit 48 (by decide)) (cn_bit 48 (by decide)) W G
  have o2 := fun W G => rgcd_c ⟨#[48]⟩ ⟨#[48]⟩ (cn_bit 48 (by decide)) (cn_bit 48 (by decide)) (by decide) (by decide) W G
  rw [hz, show tz ((Int.gcd 0 0 : Nat) : Int) = ⟨#[48]⟩ from tz_zero] at o1 o2
  have O1 := Lib.hid o1
  have O2 := Lib.hid o2
  clear o1 o2 hz
  go_enter Tryz.func9, Tryz.ntmps9
  go_wp2_with fail
  refine (K.out _ G).mono ?_
  rintro e wk ⟨rfl, hbk⟩
  go_wp2_with fail
  refine (F.out wk).mono ?_
  rintro e w0 ⟨rfl, b0⟩
  have hb0 := hbk.trans (b0.mono hbk.size)
  have g0 := G.below hb0
  go_wp2_with fail
  refine (O1.out _ g0).mono ?_
  rintro e w1 ⟨rfl, b1⟩
  have hb1 := hb0.trans (b1.mono hb0.size)
  have g1 := G.below hb1
  go_wp2_with fail
  refine (O2.out _ g1).mono ?_
  rintro e w2 ⟨rfl, b2⟩
  have hb2 := hb1.trans (b2.mono hb1.size)
  have g2 := G.below hb2
  go_wp2
  go_ret
  exact ⟨rfl, hb2⟩

set_option maxRecDepth 100000 in
set_option maxHeartbeats 4000000 in
theorem divisors_no (a b : ByteArray) (h : ¬ (fitB a = true ∧ fitB b = true)) (w : World) (G : Gi w) :
    Calls Tryz.prog 9 #[.string a, .string b] w fun e w' => e = .returned (.bool true) ∧ Below w.heap.size w w' := by
  have K := Lib.hid (fun W (G : Gi W) => known_any W G)
  have F := Lib.hid (fun W => fits_new [a, b] (by simp) 22 W 2 rfl)
  rw [show [a, b].all fitB = false by rw [Bool.eq_false_iff]; intro e; exact h (by simpa using e)] at F
  clear h
  go_enter Tryz.func9, Tryz.ntmps9
  go_wp2_with fail
  refine (K.out _ G).mono ?_
  rintro e wk ⟨rfl, hbk⟩
  go_wp2_with fail
  refine (F.out wk).mono ?_
  rintro e w0 ⟨rfl, b0⟩
  have hb0 := hbk.trans (b0.mono hbk.size)
  have g0 := G.below hb0
  go_wp2_with fail
  refine (K.out _ g0).mono ?_
  rintro e w1 ⟨rfl, b1⟩
  have hb1 := hb0.trans (b1.mono hb0.size)
  have g1 := G.below hb1
  go_wp2
  go_ret
  exact ⟨rfl, hb1⟩

set_option maxRecDepth 100000 in
set_option maxHeartbeats 4000000 in
theorem divisors_longA (a b : ByteArray) (ha : fitB a = true) (hb : fitB b = true) (ka : 50 < a.size) (w : World) (G : Gi w) :
    Calls Tryz.prog 9 #[.string a, .string b] w fun e w' => e = .returned (.bool true) ∧ Below w.heap.size w w' := by
  have K := Lib.hid (fun W (G : Gi W) => known_any W G)
  have F := Lib.hid (fun W => fits_new [a, b] (by simp) 22 W 2 rfl)
  have hai : (50 : Int) < (a.size : Int) := by omega
  rw [show [a, b].all fitB = true by simp [ha, hb]] at F
  clear ha hb ka
  go_enter Tryz.func9, Tryz.ntmps9
  go_wp2_with fail
  refine (K.out _ G).mono ?_
  rintro e wk ⟨rfl, hbk⟩
  go_wp2_with fail
  refine (F.out wk).mono ?_
  rintro e w0 ⟨rfl, b0⟩
  have hb0 := hbk.trans (b0.mono hbk.size)
  have g0 := G.below hb0
  go_wp2_with fail
  refine (K.out _ g0).mono ?_
  rintro e w1 ⟨rfl, b1⟩
  have hb1 := hb0.trans (b1.mono hb0.size)
  have g1 := G.below hb1
  go_wp2
  go_ret
  exact ⟨rfl, hb1⟩

set_option maxRecDepth 100000 in
set_option maxHeartbeats 4000000 in
theorem divisors_longB (a b : ByteArray) (ha : fitB a = true) (hb : fitB b = true) (ka : ¬ 50 < a.size) (kb : 50 < b.size) (w : World) (G : Gi w) :
    Calls Tryz.prog 9 #[.string a, .string b] w fun e w' => e = .returned (.bool true) ∧ Below w.heap.size w w' := by
  have K := Lib.hid (fun W (G : Gi W) => known_any W G)
  have F := Lib.hid (fun W => fits_new [a, b] (by simp) 22 W 2 rfl)
  have hai : ¬ (50 : Int) < (a.size : Int) := by omega
  have hbi : (50 : Int) < (b.size : Int) := by omega
  rw [show [a, b].all fitB = true by simp [ha, hb]] at F
  clear ha hb ka kb
  go_enter Tryz.func9, Tryz.ntmps9
  go_wp2_with fail
  refine (K.out _ G).mono ?_
  rintro e wk ⟨rfl, hbk⟩
  go_wp2_with fail
  refine (F.out wk).mono ?_
  rintro e w0 ⟨rfl, b0⟩
  have hb0 := hbk.trans (b0.mono hbk.size)
  have g0 := G.below hb0
  go_wp2_with fail
  refine (K.out _ g0).mono ?_
  rintro e w1 ⟨rfl, b1⟩
  have hb1 := hb0.trans (b1.mono hb0.size)
  have g1 := G.below hb1
  go_wp2
  go_ret
  exact ⟨rfl, hb1⟩

theorem divisors_walk (a b : ByteArray) (w : World) (G : Gi w) :
    Calls Tryz.prog 9 #[.string a, .string b] w fun e w' => e = .returned (.bool true) ∧ Below w.heap.size w w' := by
  by_cases h : fitB a = true ∧ fitB b = true
  · by_cases ka : 50 < a.size
    · exact divisors_longA a b h.1 h.2 ka w G
    · by_cases kb : 50 < b.size
      · exact divisors_longB a b h.1 h.2 ka kb w G
      · by_cases hz : Int.gcd (iv a) (iv b) = 0
        · obtain ⟨za, zb⟩ := Int.gcd_eq_zero_iff.1 hz
          obtain rfl := zero_text (fit_cn h.1).1 za
          obtain rfl := zero_text (fit_cn h.2).1 zb
          exact divisors_zero w G
        · exact divisors_yes a b h.1 h.2 (by omega) (by omega) hz w G
  · exact divisors_no a b h w G
end Go.Proofs.YtnchodofgaaeeaaGreatDoor
