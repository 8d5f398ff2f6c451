/- IntegerChecks, the walk. -/
import Derived.Test.YtnchodofgaaeeaaGreatDoorImV
namespace Go.Proofs.YtnchodofgaaeeaaGreatDoor
open Go Go.RowKit Go.Shelf

set_option maxRecDepth 100000 in
theorem checks_long (a : ByteArray) (n : Int) (h : 410 < a.size) (w : World) (G : Gi w) :
    Calls Tryz.prog 3 #[.string a, .int .i64 n] w fun e w' => e = .returned (.bool true) ∧ Below w.heap.size w w' := by
  have K := Lib.hid (fun W (G : Gi W) => known_any W G)
  have hi : (410 : Int) < (a.size : Int) := by omega
  go_enter Tryz.func3, Tryz.ntmps3
  go_wp2_with fail
  refine (K.out _ G).mono ?_
  rintro e w1 ⟨rfl, b1⟩
  go_wp2_with fail
  refine (K.out _ (G.below b1)).mono ?_
  rintro e w2 ⟨rfl, b2⟩
  go_wp2
  go_ret
  exact ⟨rfl, b1.trans (b2.mono b1.size)⟩
set_option maxRecDepth 100000 in
set_option maxHeartbeats 2000000 in
theorem checks_right (a : ByteArray) (n : Int) (n0 : -9223372036854775808 ≤ n) (n1 : n ≤ 9223372036854775807) (h : ¬ 410 < a.size) (hr : rightL a.data.toList = true) (hc : Im.canonI a.data.toList = true) (w : World) (G : Gi w) :
    Calls Tryz.prog 3 #[.string a, .int .i64 n] w fun e w' => e = .returned (.bool true) ∧ Below w.heap.size w w' := by
  have K := Lib.hid (fun W (G : Gi W) => known_any W G)
  have R := Lib.hid (fun W => right_any a (by omega) W)
  rw [hr] at R
  have e1 : chkL a.data.toList = 0 := by
    unfold rightL at hr
    unfold chkL
    rw [Bool.and_eq_true, decide_eq_true_iff] at hr; rw [if_pos hr]
  have C := Lib.hid (fun W => check_any a (by omega) W)
  rw [e1] at C
  have O1 := Lib.hid (fun W G => of_any n n0 n1 W G)
  have O2 := Lib.hid (fun W G => rof_any n n0 n1 W G)
  have CN := Lib.hid (fun W => rcanon_any a (by omega) W)
  rw [hc] at CN
  have S1 := Lib.hid (fun W => small_any a (by omega) W)
  have S2 := Lib.hid (fun W => rsmall_any a (by omega) hc W)
  generalize smallV a.data.toList = sv1 at *
  generalize smallB a.data.toList = sb1 at *
  have hi : ¬ (410 : Int) < (a.size : Int) := by omega
  clear hr hc e1
  change Hid (∀ W, Gi W → Calls Tryz.prog 16 #[.int .i64 n] W fun e w' => e = .returned (.string (tz n)) ∧ Below W.heap.size W w') at O1
  generalize tz n = tn at *
  go_enter Tryz.func3, Tryz.ntmps3
  go_wp2_with fail
  refine (K.out _ G).mono ?_
  rintro e w1 ⟨rfl, b1⟩
  go_wp2_with fail
  refine (R.out _).mono ?_
  rintro e w2 ⟨rfl, m2, hw2⟩
  have b2 : Below w.heap.size w w2 := by rw [hw2]; exact b1.trans (drew_below _ _ |>.mono b1.size)
  clear hw2
  go_wp2_with fail
  refine (C.out _).mono ?_
  rintro e w3 ⟨rfl, hww⟩
  subst w3
  go_wp2_with fail
  refine (O1.out _ (G.below b2)).mono ?_
  rintro e w4 ⟨rfl, b4⟩
  have b14 := b2.trans (b4.mono b2.size)
  go_wp2_with fail
  refine (O2.out _ (G.below b14)).mono ?_
  rintro e w5 ⟨rfl, b5⟩
  have b15 := b14.trans (b5.mono b14.size)
  go_wp2_with fail
  refine (CN.out _).mono ?_
  rintro e w6 ⟨rfl, m6, hw6⟩
  have b6 : Below w.heap.size w w6 := by rw [hw6]; exact b15.trans (drew_below _ _ |>.mono b15.size)
  clear hw6
  go_wp2_with fail
  refine (S1.out _).mono ?_
  rintro e w7 ⟨rfl, b7⟩
  have b17 := b6.trans (b7.mono b6.size)
  go_wp2_with fail
  refine (S2.out _).mono ?_
  rintro e w8 ⟨rfl, b8⟩
  have b18 := b17.trans (b8.mono b17.size)
  go_wp2
  go_ret
  exact ⟨rfl, b18⟩
set_option maxRecDepth 100000 in
set_option maxHeartbeats 2000000 in
theorem checks_canon (a : ByteArray) (n : Int) (n0 : -9223372036854775808 ≤ n) (n1 : n ≤ 9223372036854775807) (h : ¬ 410 < a.size) (hr : rightL a.data.toList = false) (hc : Im.canonI a.data.toList = true) (w : World) (G : Gi w) :
    Calls Tryz.prog 3 #[.string a, .int .i64 n] w fun e w' => e = .returned (.bool true) ∧ Below w.heap.size w w' := by
  have K := Lib.hid (fun W (G : Gi W) => known_any W G)
  have R := Lib.hid (fun W => right_any a (by omega) W)
  rw [hr] at R
  have e1 : chkL a.data.toList = 2 := by
    unfold rightL at hr
    unfold chkL
    rw [if_neg (fun e => by rw [e.1, Bool.true_and, decide_eq_false_iff_not] at hr; exact hr e.2)]
  have C := Lib.hid (fun W => check_any a (by omega) W)
  rw [e1] at C
  have O1 := Lib.hid (fun W G => of_any n n0 n1 W G)
  have O2 := Lib.hid (fun W G => rof_any n n0 n1 W G)
  have CN := Lib.hid (fun W => rcanon_any a (by omega) W)
  rw [hc] at CN
  have S1 := Lib.hid (fun W => small_any a (by omega) W)
  have S2 := Lib.hid (fun W => rsmall_any a (by omega) hc W)
  generalize smallV a.data.toList = sv1 at *
  generalize smallB a.data.toList = sb1 at *
  have hi : ¬ (410 : Int) < (a.size : Int) := by omega
  clear hr hc e1
  change Hid (∀ W, Gi W → Calls Tryz.prog 16 #[.int .i64 n] W fun e w' => e = .returned (.string (tz n)) ∧ Below W.heap.size W w') at O1
  generalize tz n = tn at *
  go_enter Tryz.func3, Tryz.ntmps3
  go_wp2_with fail
  refine (K.out _ G).mono ?_
  rintro e w1 ⟨rfl, b1⟩
  go_wp2_with fail
  refine (R.out _).mono ?_
  rintro e w2 ⟨rfl, m2, hw2⟩
  have b2 : Below w.heap.size w w2 := by rw [hw2]; exact b1.trans (drew_below _ _ |>.mono b1.size)
  clear hw2
  go_wp2_with fail
  refine (C.out _).mono ?_
  rintro e w3 ⟨rfl, hww⟩
  subst w3
  go_wp2_with fail
  refine (O1.out _ (G.below b2)).mono ?_
  rintro e w4 ⟨rfl, b4⟩
  have b14 := b2.trans (b4.mono b2.size)
  go_wp2_with fail
  refine (O2.out _ (G.below b14)).mono ?_
  rintro e w5 ⟨rfl, b5⟩
  have b15 := b14.trans (b5.mono b14.size)
  go_wp2_with fail
  refine (CN.out _).mono ?_
  rintro e w6 ⟨rfl, m6, hw6⟩
  have b6 : Below w.heap.size w w6 := by rw [hw6]; exact b15.trans (drew_below _ _ |>.mono b15.size)
  clear hw6
  go_wp2_with fail
  refine (S1.out _).mono ?_
  rintro e w7 ⟨rfl, b7⟩
  have b17 := b6.trans (b7.mono b6.size)
  go_wp2_with fail
  refine (S2.out _).mono ?_
  rintro e w8 ⟨rfl, b8⟩
  have b18 := b17.trans (b8.mono b17.size)
  go_wp2
  go_ret
  exact ⟨rfl, b18⟩
set_option maxRecDepth 100000 in
set_option maxHeartbeats 2000000 in
theorem checks_wrong (a : ByteArray) (n : Int) (n0 : -9223372036854775808 ≤ n) (n1 : n ≤ 9223372036854775807) (h : ¬ 410 < a.size) (hr : rightL a.data.toList = false) (hc : Im.canonI a.data.toList = false) (w : World) (G : Gi w) :
    Calls Tryz.prog 3 #[.string a, .int .i64 n] w fun e w' => e = .returned (.bool true) ∧ Below w.heap.size w w' := by
  have K := Lib.hid (fun W (G : Gi W) => known_any W G)
  have R := Lib.hid (fun W => right_any a (by omega) W)
  rw [hr] at R
  have e1 : chkL a.data.toList = 2 := by
    unfold rightL at hr
    unfold chkL
    rw [if_neg (fun e => by rw [e.1, Bool.true_and, decide_eq_false_iff_not] at hr; exact hr e.2)]
  have C := Lib.hid (fun W => check_any a (by omega) W)
  rw [e1] at C
  have O1 := Lib.hid (fun W G => of_any n n0 n1 W G)
  have O2 := Lib.hid (fun W G => rof_any n n0 n1 W G)
  have CN := Lib.hid (fun W => rcanon_any a (by omega) W)
  rw [hc] at CN
  have hi : ¬ (410 : Int) < (a.size : Int) := by omega
  clear hr hc e1
  change Hid (∀ W, Gi W → Calls Tryz.prog 16 #[.int .i64 n] W fun e w' => e = .returned (.string (tz n)) ∧ Below W.heap.size W w') at O1
  generalize tz n = tn at *
  go_enter Tryz.func3, Tryz.ntmps3
  go_wp2_with fail
  refine (K.out _ G).mono ?_
  rintro e w1 ⟨rfl, b1⟩
  go_wp2_with fail
  refine (R.out _).mono ?_
  rintro e w2 ⟨rfl, m2, hw2⟩
  have b2 : Below w.heap.size w w2 := by rw [hw2]; exact b1.trans (drew_below _ _ |>.mono b1.size)
  clear hw2
  go_wp2_with fail
  refine (C.out _).mono ?_
  rintro e w3 ⟨rfl, hww⟩
  subst w3
  go_wp2_with fail
  refine (O1.out _ (G.below b2)).mono ?_
  rintro e w4 ⟨rfl, b4⟩
  have b14 := b2.trans (b4.mono b2.size)
  go_wp2_with fail
  refine (O2.out _ (G.below b14)).mono ?_
  rintro e w5 ⟨rfl, b5⟩
  have b15 := b14.trans (b5.mono b14.size)
  go_wp2_with fail
  refine (CN.out _).mono ?_
  rintro e w6 ⟨rfl, m6, hw6⟩
  have b6 : Below w.heap.size w w6 := by rw [hw6]; exact b15.trans (drew_below _ _ |>.mono b15.size)
  clear hw6
  go_wp2
  go_ret
  exact ⟨rfl, b6⟩
theorem checks_walk (a : ByteArray) (n : Int) (n0 : -9223372036854775808 ≤ n) (n1 : n ≤ 9223372036854775807) (w : World) (G : Gi w) :
    Calls Tryz.prog 3 #[.string a, .int .i64 n] w fun e w' => e = .returned (.bool true) ∧ Below w.heap.size w w' := by
  by_cases h : 410 < a.size
  · exact checks_long a n h w G
  · cases hr : rightL a.data.toList with
    | true => exact checks_right a n n0 n1 h hr (by unfold rightL at hr; rw [Bool.and_eq_true] at hr; exact hr.1) w G
    | false =>
      cases hc : Im.canonI a.data.toList with
      | true => exact checks_canon a n n0 n1 h hr hc w G
      | false => exact checks_wrong a n n0 n1 h hr hc w G
end Go.Proofs.YtnchodofgaaeeaaGreatDoor
