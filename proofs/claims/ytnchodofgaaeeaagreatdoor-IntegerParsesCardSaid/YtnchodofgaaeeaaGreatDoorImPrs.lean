/- IntegerParses, the walk. -/
import Derived.Test.YtnchodofgaaeeaaGreatDoorImV
import Derived.Test.YtnchodofgaaeeaaGreatDoorImX
namespace Go.Proofs.YtnchodofgaaeeaaGreatDoor
open Go Go.RowKit Go.Shelf

set_option maxRecDepth 100000 in
theorem parses_long (s : ByteArray) (z : Int) (h : 60 < s.size) (w : World) (G : Gi w) :
    Calls Tryz.prog 4 #[.string s, .int .u16 z] w fun e w' => e = .returned (.bool true) ∧ Below w.heap.size w w' := by
  have K := Lib.hid (fun W (G : Gi W) => known_any W G)
  have hi : (60 : Int) < (s.size : Int) := by omega
  go_enter Tryz.func4, Tryz.ntmps4
  go_wp2_with fail
  refine (K.out _ G).mono ?_
  rintro e w1 ⟨rfl, b1⟩
  go_wp2_with fail
  refine (K.out _ (G.below b1)).mono ?_
  rintro e w2 ⟨rfl, b2⟩
  go_wp2
  go_ret
  exact ⟨rfl, b1.trans (b2.mono b1.size)⟩
set_option maxRecDepth 100000 in
set_option maxHeartbeats 2000000 in
theorem parses_few (s : ByteArray) (z : Int) (z0 : 0 ≤ z) (z1 : z ≤ 65535) (h : ¬ 60 < s.size) (w : World) (G : Gi w) :
    Calls Tryz.prog 4 #[.string s, .int .u16 z] w fun e w' => e = .returned (.bool true) ∧ Below w.heap.size w w' := by
  have K := Lib.hid (fun W (G : Gi W) => known_any W G)
  have hi : ¬ (60 : Int) < (s.size : Int) := by omega
  obtain ⟨r, hr⟩ : ∃ r : Nat, z.tmod 401 = (r : Int) := ⟨(z.tmod 401).toNat, by have := Int.tmod_nonneg 401 z0; omega⟩
  have hr2 : r < 401 := by
    have h1 := Int.tmod_lt_of_pos z (show (0 : Int) < 401 by decide)
    omega
  have RP := Lib.hid (fun W => Tryz.strings_Repeat ⟨#[48]⟩ r W (by omega) (by show 1 * r ≤ _; omega))
  obtain ⟨q, hq⟩ : ∃ q : ByteArray, ⟨(Lib.repeatL (ByteArray.mk #[48]).data.toList r).toArray⟩ = q := ⟨_, rfl⟩
  have hqs : q.size = r := by
    rw [← hq, size_mk, show (ByteArray.mk #[48]).data.toList = [48] from rfl, repeat_one, List.length_replicate]
  rw [hq] at RP
  have hcl : ¬ 9223372036854775807 < s.size + q.size := by omega
  have hts : (s ++ q).size ≤ 1048576 := by rw [ByteArray.size_append]; omega
  obtain ⟨t, ht⟩ : ∃ t, s ++ q = t := ⟨_, rfl⟩
  rw [ht] at hts
  have P1 := Lib.hid (fun W G => parse_any t hts W G)
  have P2 := Lib.hid (fun W => rparse_any t hts W)
  have P3 := Lib.hid (fun W G => parse_any s (by omega) W G)
  have R := Lib.hid (fun W => right_any s (by omega) W)
  clear hts hq
  generalize Im.prsL t.data.toList = T1 at *
  generalize Im.prsE t.data.toList = E1 at *
  cases hc : rightL s.data.toList with
  | false =>
    rw [hc] at R
    clear hc
    generalize Im.prsL s.data.toList = T2 at *
    generalize Im.prsE s.data.toList = E2 at *
    go_enter Tryz.func4, Tryz.ntmps4
    go_wp2_with fail
    refine (K.out _ G).mono ?_
    rintro e w1 ⟨rfl, b1⟩
    go_wp2_with fail
    with_reducible refine (RP.out _).mono ?_
    rintro e w2 ⟨rfl, b2⟩
    have b12 := b1.trans (b2.mono b1.size)
    go_wp2_with fail
    with_reducible refine (P1.out _ (G.below b12)).mono ?_
    rintro e w3 ⟨rfl, b3⟩
    have b13 := b12.trans (b3.mono b12.size)
    go_wp2_with fail
    refine (P2.out _).mono ?_
    rintro e w4 ⟨rfl, m4, hw4⟩
    have b14 : Below w.heap.size w w4 := by rw [hw4]; exact b13.trans (drew_below _ _ |>.mono b13.size)
    clear hw4
    go_wp2_with fail
    refine (P3.out _ (G.below b14)).mono ?_
    rintro e w5 ⟨rfl, b5⟩
    have b15 := b14.trans (b5.mono b14.size)
    go_wp2_with fail
    refine (R.out _).mono ?_
    rintro e w6 ⟨rfl, m6, hw6⟩
    have b16 : Below w.heap.size w w6 := by rw [hw6]; exact b15.trans (drew_below _ _ |>.mono b15.size)
    clear hw6
    go_wp2
    go_ret
    exact ⟨rfl, b16⟩
  | true =>
    rw [hc] at R
    have hcc : Im.canonI s.data.toList = true ∧ (Im.dgs s.data.toList).length ≤ 400 := by
      unfold rightL at hc
      rw [Bool.and_eq_true, decide_eq_true_iff] at hc
      exact hc
    obtain ⟨e1, e2⟩ := Im.prs_canon hcc.1 hcc.2
    rw [e1, e2] at P3
    rw [show (ByteArray.mk s.data.toList.toArray) = s from rfl] at P3
    clear hc hcc e1 e2
    go_enter Tryz.func4, Tryz.ntmps4
    go_wp2_with fail
    refine (K.out _ G).mono ?_
    rintro e w1 ⟨rfl, b1⟩
    go_wp2_with fail
    with_reducible refine (RP.out _).mono ?_
    rintro e w2 ⟨rfl, b2⟩
    have b12 := b1.trans (b2.mono b1.size)
    go_wp2_with fail
    with_reducible refine (P1.out _ (G.below b12)).mono ?_
    rintro e w3 ⟨rfl, b3⟩
    have b13 := b12.trans (b3.mono b12.size)
    go_wp2_with fail
    refine (P2.out _).mono ?_
    rintro e w4 ⟨rfl, m4, hw4⟩
    have b14 : Below w.heap.size w w4 := by rw [hw4]; exact b13.trans (drew_below _ _ |>.mono b13.size)
    clear hw4
    go_wp2_with fail
    refine (P3.out _ (G.below b14)).mono ?_
    rintro e w5 ⟨rfl, b5⟩
    have b15 := b14.trans (b5.mono b14.size)
    go_wp2_with fail
    refine (R.out _).mono ?_
    rintro e w6 ⟨rfl, m6, hw6⟩
    have b16 : Below w.heap.size w w6 := by rw [hw6]; exact b15.trans (drew_below _ _ |>.mono b15.size)
    clear hw6
    go_wp2
    go_ret
    exact ⟨rfl, b16⟩
theorem parses_walk (s : ByteArray) (z : Int) (z0 : 0 ≤ z) (z1 : z ≤ 65535) (w : World) (G : Gi w) :
    Calls Tryz.prog 4 #[.string s, .int .u16 z] w fun e w' => e = .returned (.bool true) ∧ Below w.heap.size w w' := by
  by_cases h : 60 < s.size
  · exact parses_long s z h w G
  · exact parses_few s z z0 z1 h w G
end Go.Proofs.YtnchodofgaaeeaaGreatDoor
