/- IntegerDivides, the walk. -/
import Derived.Test.YtnchodofgaaeeaaGreatDoorImP8
import Derived.Test.YtnchodofgaaeeaaGreatDoorImYg
import Derived.Test.YtnchodofgaaeeaaGreatDoorImYs
namespace Go.Proofs.YtnchodofgaaeeaaGreatDoor
open Go Go.RowKit Go.Shelf

theorem dvQ_le (x y : Int) : (dvQ x y).natAbs ≤ x.natAbs + 1 := by
  have := Int.natAbs_tdiv_le_natAbs x y
  unfold dvQ
  split <;> omega
theorem not_zero_text {b : ByteArray} (_cb : Cn b) (hz : iv b ≠ 0) : ¬ b = ⟨#[48]⟩ := fun e => hz (by rw [e]; exact iv_zero rfl)
theorem zero_text {b : ByteArray} (cb : Cn b) (hz : iv b = 0) : b = ⟨#[48]⟩ := ext_bytes ((zero_iv cb.canon).2 hz)
set_option maxRecDepth 100000 in
set_option maxHeartbeats 4000000 in
theorem divides_yes (a b : ByteArray) (ha : fitB a = true) (hb : fitB b = true) (hz : iv b ≠ 0) (w : World) (G : Gi w) :
    Calls Tryz.prog 8 #[.string a, .string b] w fun e w' => e = .returned (.bool true) ∧ Below w.heap.size w w' := by
  have K := Lib.hid (fun W (G : Gi W) => known_any W G)
  have F := Lib.hid (fun W => fits_new [a, b] (by simp) 22 W 2 rfl)
  rw [show [a, b].all fitB = true by simp [ha, hb]] at F
  obtain ⟨ca, za⟩ := fit_cn ha
  have la := fit_lt ha
  obtain ⟨cb, zb⟩ := fit_cn hb
  have lb := fit_lt hb
  have hnz := not_zero_text cb hz
  have hnz1 : ¬ b.toList = [48] := fun e => hnz (ext_bytes (by rw [← toList_eq]; exact e))
  have hnz2 : (b.toList == [48]) = false := by rw [beq_eq_false_iff_ne]; exact hnz1
  have hql := dvQ_le (iv a) (iv b)
  have hrl := dvR_lt (iv a) (iv b) hz
  have hsum := dv_sum (iv a) (iv b)
  obtain ⟨N, hN⟩ : ∃ N, N = 10 ^ 90 := ⟨_, rfl⟩
  have hN1 : (10 : Nat) ^ 91 = 10 * N := by rw [hN, Nat.pow_succ, Nat.mul_comm]
  have hN0 : 0 < N := by rw [hN]; exact Nat.pow_pos (by decide)
  rw [← hN] at la lb
  have lq : (dvQ (iv a) (iv b)).natAbs < 10 ^ 91 := by rw [hN1]; omega
  have lr : (dvR (iv a) (iv b)).natAbs < 10 ^ 91 := by rw [hN1]; omega
  have lm : (dvQ (iv a) (iv b) * iv b).natAbs < 10 ^ 91 := by rw [hN1]; omega
  have cq := cn_tz lq (by decide) (by decide)
  have cr := cn_tz lr (by decide) (by decide)
  have cm := cn_tz lm (by decide) (by decide)
  have o1 := fun W G => div_c a b ca cb hz W G
  have o2 := fun W G => rdiv_c a b ca cb (by omega) (by omega) hz W G
  have o3 := fun W G => mul_c (tz (dvQ (iv a) (iv b))) b cq cb W G
  simp only [iv_tz] at o3
  have o4 := fun W G => add_c (tz (dvQ (iv a) (iv b) * iv b)) (tz (dvR (iv a) (iv b))) cm cr W G
  simp only [iv_tz, hsum, tz_iv ca.canon] at o4
  have O1 := Lib.hid o1
  have O2 := Lib.hid o2
  have O3 := Lib.hid o3
  have O4 := Lib.hid o4
  clear o1 o2 o3 o4 ca cb la lb za zb ha hb hql hrl hsum lq lr lm cq cr cm hN hN1 hN0 hz
  generalize tz (dvQ (iv a) (iv b) * iv b) = M at *
  generalize tz (dvQ (iv a) (iv b)) = Q at *
  generalize tz (dvR (iv a) (iv b)) = R at *
  go_enter Tryz.func8, Tryz.ntmps8
  go_wp2_with fail
  refine (K.out _ G).mono ?_
  rintro e wk ⟨rfl, hbk⟩
  go_wp2_with fail
  refine (F.out wk).mono ?_
  rintro e w0 ⟨rfl, b0⟩
  have hb0 := hbk.trans (b0.mono hbk.size)
  have g0 := G.below hb0
  go_wp2_with fail
  refine (O1.out _ g0).mono ?_
  rintro e w1 ⟨rfl, b1⟩
  have hb1 := hb0.trans (b1.mono hb0.size)
  have g1 := G.below hb1
  go_wp2_with fail
  refine (O2.out _ g1).mono ?_
  rintro e w2 ⟨rfl, b2⟩
  have hb2 := hb1.trans (b2.mono hb1.size)
  have g2 := G.below hb2
  go_wp2_with fail
  refine (O3.out _ g2).mono ?_
  rintro e w3 ⟨rfl, b3⟩
  have hb3 := hb2.trans (b3.mono hb2.size)
  have g3 := G.below hb3
  go_wp2_with fail
  refine (O4.out _ g3).mono ?_
  rintro e w4 ⟨rfl, b4⟩
  have hb4 := hb3.trans (b4.mono hb3.size)
  have g4 := G.below hb4
  go_wp2
  go_ret
  exact ⟨rfl, hb4⟩

set_option maxRecDepth 100000 in
set_option maxHeartbeats 4000000 in
theorem divides_zero (a : ByteArray) (ha : fitB a = true) (w : World) (G : Gi w) :
    Calls Tryz.prog 8 #[.string a, .string ⟨#[48]⟩] w fun e w' => e = .returned (.bool true) ∧ Below w.heap.size w w' := by
  have K := Lib.hid (fun W (G : Gi W) => known_any W G)
  have F := Lib.hid (fun W => fits_new [a, ⟨#[48]⟩] (by simp) 22 W 2 rfl)
  rw [show [a, ⟨#[48]⟩].all fitB = true by simp [ha]; decide] at F
  have O1 := Lib.hid (fun W => div_zero a ⟨#[48]⟩ (cn_bit 48 (by decide)) (iv_zero rfl) W)
  clear ha
  go_enter Tryz.func8, Tryz.ntmps8
  go_wp2_with fail
  refine (K.out _ G).mono ?_
  rintro e wk ⟨rfl, hbk⟩
  go_wp2_with fail
  refine (F.out wk).mono ?_
  rintro e w0 ⟨rfl, b0⟩
  have hb0 := hbk.trans (b0.mono hbk.size)
  have g0 := G.below hb0
  go_wp2_with fail
  refine (O1.out _).mono ?_
  rintro e w1 ⟨rfl, b1⟩
  have hb1 := hb0.trans (b1.mono hb0.size)
  have g1 := G.below hb1
  go_wp2
  go_ret
  exact ⟨rfl, hb1⟩

set_option maxRecDepth 100000 in
set_option maxHeartbeats 4000000 in
theorem divides_no (a b : ByteArray) (h : ¬ (fitB a = true ∧ fitB b = true)) (w : World) (G : Gi w) :
    Calls Tryz.prog 8 #[.string a, .string b] w fun e w' => e = .returned (.bool true) ∧ Below w.heap.size w w' := by
  have K := Lib.hid (fun W (G : Gi W) => known_any W G)
  have F := Lib.hid (fun W => fits_new [a, b] (by simp) 22 W 2 rfl)
  rw [show [a, b].all fitB = false by rw [Bool.eq_false_iff]; intro e; exact h (by simpa using e)] at F
  clear h
  go_enter Tryz.func8, Tryz.ntmps8
  go_wp2_with fail
  refine (K.out _ G).mono ?_
  rintro e wk ⟨rfl, hbk⟩
  go_wp2_with fail
  refine (F.out wk).mono ?_
  rintro e w0 ⟨rfl, b0⟩
  have hb0 := hbk.trans (b0.mono hbk.size)
  have g0 := G.below hb0
  go_wp2_with fail
  refine (K.out _ g0).mono ?_
  rintro e w1 ⟨rfl, b1⟩
  have hb1 := hb0.trans (b1.mono hb0.size)
  have g1 := G.below hb1
  go_wp2
  go_ret
  exact ⟨rfl, hb1⟩

theorem divides_walk (a b : ByteArray) (w : World) (G : Gi w) :
    Calls Tryz.prog 8 #[.string a, .string b] w fun e w' => e = .returned (.bool true) ∧ Below w.heap.size w w' := by
  by_cases h : fitB a = true ∧ fitB b = true
  · by_cases hz : iv b = 0
    · obtain rfl := zero_text (fit_cn h.2).1 hz
      exact divides_zero a h.1 w G
    · exact divides_yes a b h.1 h.2 hz w G
  · exact divides_no a b h w G
end Go.Proofs.YtnchodofgaaeeaaGreatDoor
