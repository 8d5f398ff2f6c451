/- IntegerCompares, the walk. -/
import Derived.Test.YtnchodofgaaeeaaGreatDoorImYg
namespace Go.Proofs.YtnchodofgaaeeaaGreatDoor
open Go Go.RowKit Go.Shelf

set_option maxRecDepth 100000 in
set_option maxHeartbeats 4000000 in
theorem compares_yes (a b : ByteArray) (ha : fitB a = true) (hb : fitB b = true) (w : World) (G : Gi w) :
    Calls Tryz.prog 5 #[.string a, .string b] w fun e w' => e = .returned (.bool true) ∧ Below w.heap.size w w' := by
  have K := Lib.hid (fun W (G : Gi W) => known_any W G)
  have F := Lib.hid (fun W => fits_new [a, b] (by simp) 22 W 2 rfl)
  rw [show [a, b].all fitB = true by simp [ha, hb]] at F
  obtain ⟨ca, za⟩ := fit_cn ha
  have la := fit_lt ha
  obtain ⟨cb, zb⟩ := fit_cn hb
  have lb := fit_lt hb
  have o0 := fun W => sign_c a ca W
  have O0 := Lib.hid o0
  have o1 := fun W => rsign_c a ca W
  have O1 := Lib.hid o1
  have o2 := fun W G => cmp_c a b ca cb W G
  have O2 := Lib.hid o2
  have o3 := fun W G => rcmp_c a b ca cb (by omega) (by omega) W G
  have O3 := Lib.hid o3
  have o4 := fun W G => neg_c a ca W G
  have O4 := Lib.hid o4
  have o5 := fun W => rneg_c a ca W
  have O5 := Lib.hid o5
  clear o0 o1 o2 o3 o4 o5 ca za la ha cb zb lb hb 
  generalize tz (-iv a) = N at *
  generalize sgn (iv a - iv b) = SG at *
  generalize sgn (iv a) = SA at *
  go_enter Tryz.func5, Tryz.ntmps5
  go_wp2_with fail
  refine (K.out _ G).mono ?_
  rintro e wk ⟨rfl, hbk⟩
  go_wp2_with fail
  refine (F.out wk).mono ?_
  rintro e w0 ⟨rfl, b0⟩
  have hb0 := hbk.trans (b0.mono hbk.size)
  have g0 := G.below hb0
  go_wp2_with fail
  refine (O0.out _).mono ?_
  rintro e w1 ⟨rfl, b1⟩
  have hb1 := hb0.trans (b1.mono hb0.size)
  have g1 := G.below hb1
  go_wp2_with fail
  refine (O1.out _).mono ?_
  rintro e w2 ⟨rfl, b2⟩
  have hb2 := hb1.trans (b2.mono hb1.size)
  have g2 := G.below hb2
  go_wp2_with fail
  refine (O2.out _ g2).mono ?_
  rintro e w3 ⟨rfl, b3⟩
  have hb3 := hb2.trans (b3.mono hb2.size)
  have g3 := G.below hb3
  go_wp2_with fail
  refine (O3.out _ g3).mono ?_
  rintro e w4 ⟨rfl, b4⟩
  have hb4 := hb3.trans (b4.mono hb3.size)
  have g4 := G.below hb4
  go_wp2_with fail
  refine (O4.out _ g4).mono ?_
  rintro e w5 ⟨rfl, b5⟩
  have hb5 := hb4.trans (b5.mono hb4.size)
  have g5 := G.below hb5
  go_wp2_with fail
  refine (O5.out _).mono ?_
  rintro e w6 ⟨rfl, b6⟩
  have hb6 := hb5.trans (b6.mono hb5.size)
  have g6 := G.below hb6
  go_wp2
  go_ret
  exact ⟨rfl, hb6⟩

set_option maxRecDepth 100000 in
theorem compares_no (a b : ByteArray) (h : ¬ (fitB a = true ∧ fitB b = true)) (w : World) (G : Gi w) :
    Calls Tryz.prog 5 #[.string a, .string b] w fun e w' => e = .returned (.bool true) ∧ Below w.heap.size w w' := by
  have K := Lib.hid (fun W (G : Gi W) => known_any W G)
  have F := Lib.hid (fun W => fits_new [a, b] (by simp) 22 W 2 rfl)
  rw [show [a, b].all fitB = false by rw [Bool.eq_false_iff]; intro e; exact h (by simpa using e)] at F
  go_enter Tryz.func5, Tryz.ntmps5
  go_wp2_with fail
  refine (K.out _ G).mono ?_
  rintro e wk ⟨rfl, hbk⟩
  go_wp2_with fail
  refine (F.out wk).mono ?_
  rintro e w0 ⟨rfl, b0⟩
  have hb0 := hbk.trans (b0.mono hbk.size)
  go_wp2_with fail
  refine (K.out _ (G.below hb0)).mono ?_
  rintro e w1 ⟨rfl, b1⟩
  go_wp2
  go_ret
  exact ⟨rfl, hb0.trans (b1.mono hb0.size)⟩
theorem compares_walk (a b : ByteArray) (w : World) (G : Gi w) :
    Calls Tryz.prog 5 #[.string a, .string b] w fun e w' => e = .returned (.bool true) ∧ Below w.heap.size w w' := by
  by_cases h : fitB a = true ∧ fitB b = true
  · exact compares_yes a b h.1 h.2 w G
  · exact compares_no a b h w G
end Go.Proofs.YtnchodofgaaeeaaGreatDoor
