/- IntegerRing, the walk. -/
import Derived.Test.YtnchodofgaaeeaaGreatDoorImV
namespace Go.Proofs.YtnchodofgaaeeaaGreatDoor
open Go Go.RowKit Go.Shelf

set_option maxRecDepth 100000 in
set_option maxHeartbeats 4000000 in
theorem ring_yes (a b c : ByteArray) (ha : fitB a = true) (hb : fitB b = true) (hc : fitB c = true) (w : World) (G : Gi w) :
    Calls Tryz.prog 12 #[.string a, .string b, .string c] w fun e w' => e = .returned (.bool true) ∧ Below w.heap.size w w' := by
  have K := Lib.hid (fun W (G : Gi W) => known_any W G)
  have F := Lib.hid (fun W => fits_new [a, b, c] (by simp) 22 W 3 rfl)
  rw [show [a, b, c].all fitB = true by simp [ha, hb, hc]] at F
  obtain ⟨ca, _⟩ := fit_cn ha
  obtain ⟨cb, _⟩ := fit_cn hb
  obtain ⟨cc, _⟩ := fit_cn hc
  have la := fit_lt ha
  have lb := fit_lt hb
  have lc := fit_lt hc
  have ea := tz_iv ca.canon
  obtain ⟨x, hx⟩ : ∃ x, iv a = x := ⟨_, rfl⟩
  obtain ⟨y, hy⟩ : ∃ y, iv b = y := ⟨_, rfl⟩
  obtain ⟨z, hz⟩ : ∃ z, iv c = z := ⟨_, rfl⟩
  rw [hx] at la ea
  rw [hy] at lb
  rw [hz] at lc
  have lab := lt_add la lb
  have lcb := lt_add lc lb
  have lac := lt_mul la lc
  have lbc := lt_mul lb lc
  have lpc := lt_add la lc
  have lqc := lt_add lb lc
  have cab := cn_tz lab (by decide) (by decide)
  have ccb := cn_tz lcb (by decide) (by decide)
  have cac := cn_tz lac (by decide) (by decide)
  have cbc := cn_tz lbc (by decide) (by decide)
  have cpc := cn_tz lpc (by decide) (by decide)
  have cqc := cn_tz lqc (by decide) (by decide)
  have o1 := fun W G => add_c a b ca cb W G
  simp only [hx, hy] at o1
  have O1 := Lib.hid o1
  have o2 := fun W G => add_c (tz (x + y)) c cab cc W G
  simp only [iv_tz, hz] at o2
  have O2 := Lib.hid o2
  have o3 := fun W G => add_c c b cc cb W G
  simp only [hz, hy] at o3
  have O3 := Lib.hid o3
  have o4 := fun W G => add_c a (tz (z + y)) ca ccb W G
  simp only [hx, iv_tz] at o4
  simp only [show x + (z + y) = x + y + z by omega] at o4
  have O4 := Lib.hid o4
  have o5 := fun W G => mul_c a b ca cb W G
  simp only [hx, hy] at o5
  have O5 := Lib.hid o5
  have o6 := fun W G => mul_c b a cb ca W G
  simp only [hy, hx] at o6
  simp only [Int.mul_comm y x] at o6
  have O6 := Lib.hid o6
  have o7 := fun W G => sub_c (tz (x + y)) b cab cb W G
  simp only [iv_tz, hy] at o7
  simp only [show x + y - y = x by omega, ea] at o7
  have O7 := Lib.hid o7
  have o8 := fun W G => mul_c (tz (x + y)) c cab cc W G
  simp only [iv_tz, hz] at o8
  simp only [Int.add_mul] at o8
  have O8 := Lib.hid o8
  have o9 := fun W G => mul_c a c ca cc W G
  simp only [hx, hz] at o9
  have O9 := Lib.hid o9
  have o10 := fun W G => mul_c b c cb cc W G
  simp only [hy, hz] at o10
  have O10 := Lib.hid o10
  have o11 := fun W G => add_c (tz (x * z)) (tz (y * z)) cac cbc W G
  simp only [iv_tz] at o11
  have O11 := Lib.hid o11
  have o12 := fun W G => add_c a c ca cc W G
  simp only [hx, hz] at o12
  have O12 := Lib.hid o12
  have o13 := fun W G => add_c b c cb cc W G
  simp only [hy, hz] at o13
  have O13 := Lib.hid o13
  have o14 := fun W G => cmp_c (tz (x + z)) (tz (y + z)) cpc cqc W G
  simp only [iv_tz] at o14
  simp only [show x + z - (y + z) = x - y by omega] at o14
  have O14 := Lib.hid o14
  have o15 := fun W G => cmp_c a b ca cb W G
  simp only [hx, hy] at o15
  have O15 := Lib.hid o15
  have o16 := fun W G => cmp_c a b ca cb W G
  simp only [hx, hy] at o16
  have O16 := Lib.hid o16
  have o17 := fun W G => cmp_c b a cb ca W G
  simp only [hy, hx] at o17
  simp only [show y - x = -(x - y) by omega, sgn_neg] at o17
  have O17 := Lib.hid o17
  have hsg := sgn_le (x - y)
  clear o1 o2 o3 o4 o5 o6 o7 o8 o9 o10 o11 o12 o13 o14 o15 o16 o17 ea hx hy hz la lb lc lab lcb lac lbc lpc lqc cab ccb cac cbc cpc cqc ca cb cc ha hb hc
  generalize tz (x + y + z) = ABC at *
  generalize tz (x * z + y * z) = M1 at *
  generalize tz (x + y) = AB at *
  generalize tz (z + y) = CB at *
  generalize tz (x * y) = MAB at *
  generalize tz (x * z) = MAC at *
  generalize tz (y * z) = MBC at *
  generalize tz (x + z) = PC at *
  generalize tz (y + z) = QC at *
  generalize sgn (x - y) = SG at *
  go_enter Tryz.func12, Tryz.ntmps12
  go_wp2_with fail
  refine (K.out _ G).mono ?_
  rintro e wk ⟨rfl, hbk⟩
  go_wp2_with fail
  refine (F.out wk).mono ?_
  rintro e w0 ⟨rfl, b0⟩
  have hb0 := hbk.trans (b0.mono hbk.size)
  have g0 := G.below hb0
  go_wp2_with fail
  refine (O1.out _ g0).mono ?_
  rintro e w1 ⟨rfl, b1⟩
  have hb1 := hb0.trans (b1.mono hb0.size)
  have g1 := G.below hb1
  go_wp2_with fail
  refine (O2.out _ g1).mono ?_
  rintro e w2 ⟨rfl, b2⟩
  have hb2 := hb1.trans (b2.mono hb1.size)
  have g2 := G.below hb2
  go_wp2_with fail
  refine (O3.out _ g2).mono ?_
  rintro e w3 ⟨rfl, b3⟩
  have hb3 := hb2.trans (b3.mono hb2.size)
  have g3 := G.below hb3
  go_wp2_with fail
  refine (O4.out _ g3).mono ?_
  rintro e w4 ⟨rfl, b4⟩
  have hb4 := hb3.trans (b4.mono hb3.size)
  have g4 := G.below hb4
  go_wp2_with fail
  refine (O5.out _ g4).mono ?_
  rintro e w5 ⟨rfl, b5⟩
  have hb5 := hb4.trans (b5.mono hb4.size)
  have g5 := G.below hb5
  go_wp2_with fail
  refine (O6.out _ g5).mono ?_
  rintro e w6 ⟨rfl, b6⟩
  have hb6 := hb5.trans (b6.mono hb5.size)
  have g6 := G.below hb6
  go_wp2_with fail
  refine (O7.out _ g6).mono ?_
  rintro e w7 ⟨rfl, b7⟩
  have hb7 := hb6.trans (b7.mono hb6.size)
  have g7 := G.below hb7
  go_wp2_with fail
  refine (O8.out _ g7).mono ?_
  rintro e w8 ⟨rfl, b8⟩
  have hb8 := hb7.trans (b8.mono hb7.size)
  have g8 := G.below hb8
  go_wp2_with fail
  refine (O9.out _ g8).mono ?_
  rintro e w9 ⟨rfl, b9⟩
  have hb9 := hb8.trans (b9.mono hb8.size)
  have g9 := G.below hb9
  go_wp2_with fail
  refine (O10.out _ g9).mono ?_
  rintro e w10 ⟨rfl, b10⟩
  have hb10 := hb9.trans (b10.mono hb9.size)
  have g10 := G.below hb10
  go_wp2_with fail
  refine (O11.out _ g10).mono ?_
  rintro e w11 ⟨rfl, b11⟩
  have hb11 := hb10.trans (b11.mono hb10.size)
  have g11 := G.below hb11
  go_wp2_with fail
  refine (O12.out _ g11).mono ?_
  rintro e w12 ⟨rfl, b12⟩
  have hb12 := hb11.trans (b12.mono hb11.size)
  have g12 := G.below hb12
  go_wp2_with fail
  refine (O13.out _ g12).mono ?_
  rintro e w13 ⟨rfl, b13⟩
  have hb13 := hb12.trans (b13.mono hb12.size)
  have g13 := G.below hb13
  go_wp2_with fail
  refine (O14.out _ g13).mono ?_
  rintro e w14 ⟨rfl, b14⟩
  have hb14 := hb13.trans (b14.mono hb13.size)
  have g14 := G.below hb14
  go_wp2_with fail
  refine (O15.out _ g14).mono ?_
  rintro e w15 ⟨rfl, b15⟩
  have hb15 := hb14.trans (b15.mono hb14.size)
  have g15 := G.below hb15
  go_wp2_with fail
  refine (O16.out _ g15).mono ?_
  rintro e w16 ⟨rfl, b16⟩
  have hb16 := hb15.trans (b16.mono hb15.size)
  have g16 := G.below hb16
  go_wp2_with fail
  refine (O17.out _ g16).mono ?_
  rintro e w17 ⟨rfl, b17⟩
  have hb17 := hb16.trans (b17.mono hb16.size)
  have g17 := G.below hb17
  go_wp2
  go_ret
  exact ⟨rfl, hb17⟩

set_option maxRecDepth 100000 in
theorem ring_no (a b c : ByteArray) (h : ¬ (fitB a = true ∧ fitB b = true ∧ fitB c = true)) (w : World) (G : Gi w) :
    Calls Tryz.prog 12 #[.string a, .string b, .string c] w fun e w' => e = .returned (.bool true) ∧ Below w.heap.size w w' := by
  have K := Lib.hid (fun W (G : Gi W) => known_any W G)
  have F := Lib.hid (fun W => fits_new [a, b, c] (by simp) 22 W 3 rfl)
  rw [show [a, b, c].all fitB = false by rw [Bool.eq_false_iff]; intro e; exact h (by simpa using e)] at F
  go_enter Tryz.func12, Tryz.ntmps12
  go_wp2_with fail
  refine (K.out _ G).mono ?_
  rintro e wk ⟨rfl, hbk⟩
  go_wp2_with fail
  refine (F.out wk).mono ?_
  rintro e w0 ⟨rfl, b0⟩
  have hb0 := hbk.trans (b0.mono hbk.size)
  go_wp2_with fail
  refine (K.out _ (G.below hb0)).mono ?_
  rintro e w1 ⟨rfl, b1⟩
  go_wp2
  go_ret
  exact ⟨rfl, hb0.trans (b1.mono hb0.size)⟩
theorem ring_walk (a b c : ByteArray) (w : World) (G : Gi w) :
    Calls Tryz.prog 12 #[.string a, .string b, .string c] w fun e w' => e = .returned (.bool true) ∧ Below w.heap.size w w' := by
  by_cases h : fitB a = true ∧ fitB b = true ∧ fitB c = true
  · exact ring_yes a b c h.1 h.2.1 h.2.2 w G
  · exact ring_no a b c h w G
end Go.Proofs.YtnchodofgaaeeaaGreatDoor
