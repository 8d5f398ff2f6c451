/- IntegerMultiplies, the walk. -/
import Derived.Test.YtnchodofgaaeeaaGreatDoorImYg
import Derived.Test.YtnchodofgaaeeaaGreatDoorImYs
namespace Go.Proofs.YtnchodofgaaeeaaGreatDoor
open Go Go.RowKit Go.Shelf

set_option maxRecDepth 100000 in
set_option maxHeartbeats 4000000 in
theorem multiplies_yes (a b c : ByteArray) (ha : fitB a = true) (hb : fitB b = true) (hc : fitB c = true) (w : World) (G : Gi w) :
    Calls Tryz.prog 7 #[.string a, .string b, .string c] w fun e w' => e = .returned (.bool true) ∧ Below w.heap.size w w' := by
  have K := Lib.hid (fun W (G : Gi W) => known_any W G)
  have F := Lib.hid (fun W => fits_new [a, b, c] (by simp) 22 W 3 rfl)
  rw [show [a, b, c].all fitB = true by simp [ha, hb, hc]] at F
  obtain ⟨ca, za⟩ := fit_cn ha
  have la := fit_lt ha
  obtain ⟨cb, zb⟩ := fit_cn hb
  have lb := fit_lt hb
  obtain ⟨cc, zc⟩ := fit_cn hc
  have lc := fit_lt hc
  obtain ⟨x, hx⟩ : ∃ x, iv a = x := ⟨_, rfl⟩
  obtain ⟨y, hy⟩ : ∃ y, iv b = y := ⟨_, rfl⟩
  obtain ⟨z, hz⟩ : ∃ z, iv c = z := ⟨_, rfl⟩
  have lab := lt_mul la lb
  have sab := len_tz lab (by decide)
  have cab := cn_tz lab (by decide) (by decide)
  rw [hx, hy] at sab cab
  have o0 := fun W G => mul_c a b ca cb W G
  simp only [hx, hy] at o0
  have O0 := Lib.hid o0
  have o1 := fun W G => rmul_c a b ca cb (by omega) (by omega) W G
  simp only [hx, hy] at o1
  have O1 := Lib.hid o1
  have o2 := fun W G => product_new [a, b, c] (by simp) (by simp [ha, hb, hc]) 22 3 rfl W G
  rw [product_three, hx, hy, hz] at o2
  have O2 := Lib.hid o2
  have o3 := fun W G => rmul_c a b ca cb (by omega) (by omega) W G
  simp only [hx, hy] at o3
  have O3 := Lib.hid o3
  have o4 := fun W G => rmul_c (tz (x * y)) c cab cc (by omega) (by omega) W G
  simp only [iv_tz, hz] at o4
  have O4 := Lib.hid o4
  have o5 := fun W G => product_none W G
  have O5 := Lib.hid o5
  clear o0 o1 o2 o3 o4 o5 ca za la ha cb zb lb hb cc zc lc hc hx hy hz lab sab cab
  generalize tz (x * y * z) = N at *
  generalize tz (x * y) = M at *
  go_enter Tryz.func7, Tryz.ntmps7
  go_wp2_with fail
  refine (K.out _ G).mono ?_
  rintro e wk ⟨rfl, hbk⟩
  go_wp2_with fail
  refine (F.out wk).mono ?_
  rintro e w0 ⟨rfl, b0⟩
  have hb0 := hbk.trans (b0.mono hbk.size)
  have g0 := G.below hb0
  go_wp2_with fail
  refine (O0.out _ g0).mono ?_
  rintro e w1 ⟨rfl, b1⟩
  have hb1 := hb0.trans (b1.mono hb0.size)
  have g1 := G.below hb1
  go_wp2_with fail
  refine (O1.out _ g1).mono ?_
  rintro e w2 ⟨rfl, b2⟩
  have hb2 := hb1.trans (b2.mono hb1.size)
  have g2 := G.below hb2
  go_wp2_with fail
  refine (O2.out _ g2).mono ?_
  rintro e w3 ⟨rfl, b3⟩
  have hb3 := hb2.trans (b3.mono hb2.size)
  have g3 := G.below hb3
  go_wp2_with fail
  refine (O3.out _ g3).mono ?_
  rintro e w4 ⟨rfl, b4⟩
  have hb4 := hb3.trans (b4.mono hb3.size)
  have g4 := G.below hb4
  go_wp2_with fail
  refine (O4.out _ g4).mono ?_
  rintro e w5 ⟨rfl, b5⟩
  have hb5 := hb4.trans (b5.mono hb4.size)
  have g5 := G.below hb5
  go_wp2_with fail
  refine (O5.out _ g5).mono ?_
  rintro e w6 ⟨rfl, b6⟩
  have hb6 := hb5.trans (b6.mono hb5.size)
  have g6 := G.below hb6
  go_wp2
  go_ret
  exact ⟨rfl, hb6⟩

set_option maxRecDepth 100000 in
theorem multiplies_no (a b c : ByteArray) (h : ¬ (fitB a = true ∧ fitB b = true ∧ fitB c = true)) (w : World) (G : Gi w) :
    Calls Tryz.prog 7 #[.string a, .string b, .string c] w fun e w' => e = .returned (.bool true) ∧ Below w.heap.size w w' := by
  have K := Lib.hid (fun W (G : Gi W) => known_any W G)
  have F := Lib.hid (fun W => fits_new [a, b, c] (by simp) 22 W 3 rfl)
  rw [show [a, b, c].all fitB = false by rw [Bool.eq_false_iff]; intro e; exact h (by simpa using e)] at F
  go_enter Tryz.func7, Tryz.ntmps7
  go_wp2_with fail
  refine (K.out _ G).mono ?_
  rintro e wk ⟨rfl, hbk⟩
  go_wp2_with fail
  refine (F.out wk).mono ?_
  rintro e w0 ⟨rfl, b0⟩
  have hb0 := hbk.trans (b0.mono hbk.size)
  go_wp2_with fail
  refine (K.out _ (G.below hb0)).mono ?_
  rintro e w1 ⟨rfl, b1⟩
  go_wp2
  go_ret
  exact ⟨rfl, hb0.trans (b1.mono hb0.size)⟩
theorem multiplies_walk (a b c : ByteArray) (w : World) (G : Gi w) :
    Calls Tryz.prog 7 #[.string a, .string b, .string c] w fun e w' => e = .returned (.bool true) ∧ Below w.heap.size w w' := by
  by_cases h : fitB a = true ∧ fitB b = true ∧ fitB c = true
  · exact multiplies_yes a b c h.1 h.2.1 h.2.2 w G
  · exact multiplies_no a b c h w G
end Go.Proofs.YtnchodofgaaeeaaGreatDoor
