/- The reference's Text of a right fraction. -/
import Derived.Test.YtoeacbmlodfciaaDoorFracTb
namespace Go.Proofs.YtoeacbmlodfciaaDoor
open Go Go.RowKit Go.Shelf

theorem at_drawn {P : Program} {c : Code} {Q : Exit → Act → World → Prop} {a : Act} {w : World} {x y : Value} {T : TypeId} {k : Nat}
    (h : ∀ W0, Below w.heap.size w W0 → W0.cell? ⟨w.heap.size, 1, none⟩ = some y → w.heap.size < W0.heap.size → c.wp P Q a W0) : c.wp P Q a ((w.alloc (.cells #[x, y] T)).drewN k) :=
  h _ (below_drewN ((Below.refl _ _).alloc (Nat.le_refl _) _) _) (by simp) (by simp)

def rtextInv (bx d r : Nat) (S Y Z : ByteArray) : Nat → Value → World → Prop := fun j v _ => match j, v with | 0, v => v = .string S | 1, v => v = .int .i64 (r : Nat) | 2, v => v = .string Y | 3, v => v = .string (S ++ Y) | 4, v => v = .string (S ++ Y ++ (⟨#[47]⟩ : ByteArray)) | 5, v => v = .pointer (some ⟨bx, 1, none⟩) | 6, v => v = .int .i64 (d : Nat) | 7, v => v = .string Z | 8, v => v = .string (S ++ Y ++ (⟨#[47]⟩ : ByteArray) ++ Z) | 9, v => v = .string (S ++ Y ++ (⟨#[47]⟩ : ByteArray) ++ Z) | _, _ => True

set_option maxRecDepth 100000 in
set_option maxHeartbeats 2000000 in
theorem rtext_whole_neg (a d : Nat) (ha0 : 0 < a) (ha : a ≤ 1000000) (hd1 : 1 ≤ d) (hd : d ≤ 1000000) (q r : Nat) (hq : a / d = q) (hrm : a % d = r) (h0 : r = 0) (X Y Z : ByteArray) (hX : (⟨(Lib.decDigits q).toArray⟩ : ByteArray) = X) (hY : (⟨(Lib.decDigits r).toArray⟩ : ByteArray) = Y) (hZ : (⟨(Lib.decDigits d).toArray⟩ : ByteArray) = Z) (T : ByteArray) (hT : (⟨#[45]⟩ : ByteArray) ++ X = T) (w : World) :
    Calls Tryd.prog 28 #[.agg #[.int .i64 (-(a : Int)), .int .i64 (d : Nat)]] w fun e w' => e = .returned (.string T) ∧ Below w.heap.size w w' := by
  have hqi : q ≤ 1000000 := by rw [← hq]; exact Nat.le_trans (Nat.div_le_self _ _) ha
  have hri : r ≤ 1000000 := by rw [← hrm]; exact Nat.le_trans (Nat.mod_le _ _) ha
  have i1 := fun W => digits_any q hqi W
  have i2 := fun W => digits_any r hri W
  have i3 := fun W => digits_any d hd W
  have sX := dec_size q hqi
  have sY := dec_size r hri
  have sZ := dec_size d hd
  rw [hX] at i1 sX
  rw [hY] at i2 sY
  rw [hZ] at i3 sZ
  have I1 := Lib.hid i1
  have I2 := Lib.hid i2
  have I3 := Lib.hid i3
  have e1 : (a : Int).tdiv (d : Int) = (q : Int) := by rw [← hq, Int.tdiv_eq_ediv_of_nonneg (by omega)]; omega
  have e2 : (a : Int).tmod (d : Int) = (r : Int) := by rw [← hrm, Int.tmod_eq_emod_of_nonneg (by omega)]; omega
  have e3 : (a : Int) / (d : Int) = (q : Int) := by rw [← hq]; omega
  have e4 : (a : Int) % (d : Int) = (r : Int) := by rw [← hrm]; omega
  have hdne : ¬ d = 0 := by omega
  have hqw : IntKind.i64.wrap (q : Int) = (q : Int) := by rw [IntKind.wrap_i64]; omega
  have hd0 : (0 : Int) < (d : Int) := by omega
  have hai : (a : Int) ≤ 1000000 := by omega
  have hdi : (d : Int) ≤ 1000000 := by omega
  have HT := Lib.hid hT
  clear hT i1 i2 i3 hX hY hZ hq hrm
  have t1 : ((r : Int) == 0) = true := by rw [h0]; rfl
  clear h0
  go_enter Tryd.func28, Tryd.ntmps28
  have C0 := World.cell?_alloc_new
  obtain ⟨b0, b1, bl, bf⟩ := Two.new w (.int .i64 (-(a : Int))) (.int .i64 (d : Nat)) 27
  clear C0
  go_wp2
  go_quiet (fail)
  go_wp2
  go_quiet (fail)
  go_wp2_with (go_at_call 49; refine (I1.out _).mono ?_; rintro e w1 ⟨rfl, hb1⟩)
  go_ret
  exact ⟨ret_str HT.out, (below_drewN ((Below.refl _ _).alloc (Nat.le_refl _) _) _).trans (hb1.mono (by simp))⟩

set_option maxRecDepth 100000 in
set_option maxHeartbeats 2000000 in
theorem rtext_frac_neg (a d : Nat) (ha0 : 0 < a) (ha : a ≤ 1000000) (hd1 : 1 ≤ d) (hd : d ≤ 1000000) (q r : Nat) (hq : a / d = q) (hrm : a % d = r) (h0 : 0 < r) (hq0 : q = 0) (X Y Z : ByteArray) (hX : (⟨(Lib.decDigits q).toArray⟩ : ByteArray) = X) (hY : (⟨(Lib.decDigits r).toArray⟩ : ByteArray) = Y) (hZ : (⟨(Lib.decDigits d).toArray⟩ : ByteArray) = Z) (T : ByteArray) (hT : (⟨#[45]⟩ : ByteArray) ++ Y ++ ⟨#[47]⟩ ++ Z = T) (w : World) :
    Calls Tryd.prog 28 #[.agg #[.int .i64 (-(a : Int)), .int .i64 (d : Nat)]] w fun e w' => e = .returned (.string T) ∧ Below w.heap.size w w' := by
  have hqi : q ≤ 1000000 := by rw [← hq]; exact Nat.le_trans (Nat.div_le_self _ _) ha
  have hri : r ≤ 1000000 := by rw [← hrm]; exact Nat.le_trans (Nat.mod_le _ _) ha
  have i1 := fun W => digits_any q hqi W
  have i2 := fun W => digits_any r hri W
  have i3 := fun W => digits_any d hd W
  have sX := dec_size q hqi
  have sY := dec_size r hri
  have sZ := dec_size d hd
  rw [hX] at i1 sX
  rw [hY] at i2 sY
  rw [hZ] at i3 sZ
  have I1 := Lib.hid i1
  have I2 := Lib.hid i2
  have I3 := Lib.hid i3
  have e1 : (a : Int).tdiv (d : Int) = (q : Int) := by rw [← hq, Int.tdiv_eq_ediv_of_nonneg (by omega)]; omega
  have e2 : (a : Int).tmod (d : Int) = (r : Int) := by rw [← hrm, Int.tmod_eq_emod_of_nonneg (by omega)]; omega
  have e3 : (a : Int) / (d : Int) = (q : Int) := by rw [← hq]; omega
  have e4 : (a : Int) % (d : Int) = (r : Int) := by rw [← hrm]; omega
  have hdne : ¬ d = 0 := by omega
  have hqw : IntKind.i64.wrap (q : Int) = (q : Int) := by rw [IntKind.wrap_i64]; omega
  have hd0 : (0 : Int) < (d : Int) := by omega
  have hai : (a : Int) ≤ 1000000 := by omega
  have hdi : (d : Int) ≤ 1000000 := by omega
  have HT := Lib.hid hT
  clear hT i1 i2 i3 hX hY hZ hq hrm
  have t1 : ((r : Int) == 0) = false := by rw [beq_eq_false_iff_ne]; omega
  have t2 : ¬ (0 : Int) < (q : Int) := by omega
  have t3 : decide (0 < q) = false := by simp; omega
  clear hq0
  go_enter Tryd.func28, Tryd.ntmps28
  have C0 := World.cell?_alloc_new
  obtain ⟨b0, b1, bl, bf⟩ := Two.new w (.int .i64 (-(a : Int))) (.int .i64 (d : Nat)) 27
  clear C0
  go_wp2
  go_quiet (fail)
  go_wp2
  go_quiet (fail)
  go_upto_region 9 with fail
  refine at_drawn ?_
  intro W0 hw1 c1 lb
  have C1 := Lib.hid c1
  have LB := Lib.hid lb
  clear c1 lb
  clear b0 b1 bl bf
  obtain ⟨S, hS⟩ : ∃ S, (⟨#[45]⟩ : ByteArray) = S := ⟨_, rfl⟩
  have sS : S.size ≤ 1 := by
    rw [← hS]
    have e45 : (⟨#[45]⟩ : ByteArray).size = 1 := rfl
    have e32 : (⟨#[32]⟩ : ByteArray).size = 1 := rfl
    have e0 : (⟨#[]⟩ : ByteArray).size = 0 := rfl
    try simp only [ByteArray.size_append]
    omega
  rw [hS]
  have HS := Lib.hid hS
  have nl1 : (9223372036854775807 < S.size + Y.size) = False := eq_false (by omega)
  have nl2 : (9223372036854775807 < S.size + Y.size + 1) = False := eq_false (by omega)
  have nl3 : (9223372036854775807 < S.size + Y.size + 1 + Z.size) = False := eq_false (by omega)
  obtain ⟨bx, hbx⟩ : ∃ bx, w.heap.size = bx := ⟨_, rfl⟩
  rw [hbx] at C1 LB hw1 ⊢
  have HBX := Lib.hid hbx
  clear hS hbx
  refine wp_region_slots_at rfl rfl (fun base ys => (((((((((base.set 36 (ys 0)).set 37 (ys 1)).set 38 (ys 2)).set 39 (ys 3)).set 40 (ys 4)).set 41 (ys 5)).set 42 (ys 6)).set 43 (ys 7)).set 44 (ys 8)).set 2 (ys 9)) (BelowI 10 (Below W0.heap.size W0) (rtextInv bx d r S Y Z)) (fun j => match j with | 0 => undef | 1 => undef | 2 => undef | 3 => undef | 4 => undef | 5 => undef | 6 => undef | 7 => undef | 8 => undef | 9 => .string ⟨#[]⟩ | _ => undef) (by kernel_rfl) ?h0 ?h
  case h0 => exact ⟨(Below.refl _ _).drew, fun j hj hL => absurd (of_decide_eq_true hL) (by have : j < 10 := hj; show ¬ 10 ≤ j; omega)⟩
  case h =>
    intro F hF
    simp only [List.set_cons_succ, List.set_cons_zero] at hF
    subst hF
    refine ⟨rfl, ?_, ?_⟩
    refine ⟨?_, ?_⟩
    · refine SlotStep.below (fun A B hb h => h.trans (hb.mono h.size)) (fun j v A B hb h => h) ?_
      intro ys W hR hd K hK
      go_simp
      have hK2 := hK (.string S) _ (Below.refl _ _) rfl
      simp (config := { decide := true }) only [upd, if_true, if_false] at hK2
      exact hK2
    refine ⟨?_, ?_⟩
    · refine SlotStep.below (fun A B hb h => h.trans (hb.mono h.size)) (fun j v A B hb h => h) ?_
      intro ys W hR hd K hK
      go_simp
      have hK2 := hK (.int .i64 (r : Nat)) _ (Below.refl _ _) rfl
      simp (config := { decide := true }) only [upd, if_true, if_false] at hK2
      exact hK2
    refine ⟨?_, ?_⟩
    · refine SlotStep.below (fun A B hb h => h.trans (hb.mono h.size)) (fun j v A B hb h => h) ?_
      intro ys W hR hd K hK
      have d1 : ys 1 = .int .i64 (r : Nat) := hd 1 (by kernel_rfl) (by decide)
      go_simp
      refine (I2.out W).mono ?_
      rintro e' W' ⟨rfl, hb⟩
      have hK2 := hK (.string Y) _ hb rfl
      simp (config := { decide := true }) only [upd, if_true, if_false, d1] at hK2
      exact hK2
    refine ⟨?_, ?_⟩
    · refine SlotStep.below (fun A B hb h => h.trans (hb.mono h.size)) (fun j v A B hb h => h) ?_
      intro ys W hR hd K hK
      have d0 : ys 0 = .string S := hd 0 (by kernel_rfl) (by decide)
      have d2 : ys 2 = .string Y := hd 2 (by kernel_rfl) (by decide)
      go_simp
      have hK2 := hK (.string (S ++ Y)) _ (Below.refl _ _) rfl
      simp (config := { decide := true }) only [upd, if_true, if_false, d0, d2] at hK2
      exact hK2
    refine ⟨?_, ?_⟩
    · refine SlotStep.below (fun A B hb h => h.trans (hb.mono h.size)) (fun j v A B hb h => h) ?_
      intro ys W hR hd K hK
      have d3 : ys 3 = .string (S ++ Y) := hd 3 (by kernel_rfl) (by decide)
      go_simp
      have hK2 := hK (.string (S ++ Y ++ (⟨#[47]⟩ : ByteArray))) _ (Below.refl _ _) rfl
      simp (config := { decide := true }) only [upd, if_true, if_false, d3] at hK2
      exact hK2
    refine ⟨?_, ?_⟩
    · refine SlotStep.below (fun A B hb h => h.trans (hb.mono h.size)) (fun j v A B hb h => h) ?_
      intro ys W hR hd K hK
      go_simp
      have hK2 := hK (.pointer (some ⟨bx, 1, none⟩)) _ (Below.refl _ _) rfl
      simp (config := { decide := true }) only [upd, if_true, if_false] at hK2
      exact hK2
    refine ⟨?_, ?_⟩
    · refine SlotStep.below (fun A B hb h => h.trans (hb.mono h.size)) (fun j v A B hb h => h) ?_
      intro ys W hR hd K hK
      have d5 : ys 5 = .pointer (some ⟨bx, 1, none⟩) := hd 5 (by kernel_rfl) (by decide)
      have c1 := (hR.cell (p := ⟨bx, 1, none⟩) LB.out).trans C1.out
      go_simp
      have hK2 := hK (.int .i64 (d : Nat)) _ (Below.refl _ _) rfl
      simp (config := { decide := true }) only [upd, if_true, if_false, d5] at hK2
      exact hK2
    refine ⟨?_, ?_⟩
    · refine SlotStep.below (fun A B hb h => h.trans (hb.mono h.size)) (fun j v A B hb h => h) ?_
      intro ys W hR hd K hK
      have d6 : ys 6 = .int .i64 (d : Nat) := hd 6 (by kernel_rfl) (by decide)
      go_simp
      refine (I3.out W).mono ?_
      rintro e' W' ⟨rfl, hb⟩
      have hK2 := hK (.string Z) _ hb rfl
      simp (config := { decide := true }) only [upd, if_true, if_false, d6] at hK2
      exact hK2
    refine ⟨?_, ?_⟩
    · refine SlotStep.below (fun A B hb h => h.trans (hb.mono h.size)) (fun j v A B hb h => h) ?_
      intro ys W hR hd K hK
      have d4 : ys 4 = .string (S ++ Y ++ (⟨#[47]⟩ : ByteArray)) := hd 4 (by kernel_rfl) (by decide)
      have d7 : ys 7 = .string Z := hd 7 (by kernel_rfl) (by decide)
      go_simp
      have hK2 := hK (.string (S ++ Y ++ (⟨#[47]⟩ : ByteArray) ++ Z)) _ (Below.refl _ _) rfl
      simp (config := { decide := true }) only [upd, if_true, if_false, d4, d7] at hK2
      exact hK2
    refine ⟨?_, ?_⟩
    · refine SlotStep.below (fun A B hb h => h.trans (hb.mono h.size)) (fun j v A B hb h => h) ?_
      intro ys W hR hd K hK
      have d8 : ys 8 = .string (S ++ Y ++ (⟨#[47]⟩ : ByteArray) ++ Z) := hd 8 (by kernel_rfl) (by decide)
      go_simp
      have hK2 := hK (.string (S ++ Y ++ (⟨#[47]⟩ : ByteArray) ++ Z)) _ (Below.refl _ _) rfl
      simp (config := { decide := true }) only [upd, if_true, if_false, d8] at hK2
      exact hK2
    trivial
    intro L2 ys W hL2 hI
    obtain ⟨hbW, hv⟩ := hI
    have y9 : ys 9 = .string (S ++ Y ++ (⟨#[47]⟩ : ByteArray) ++ Z) := hv 9 (by decide) (hL2 9 (by decide))
    simp only [y9]
    clear hL2 hv y9
    have hw2 := hw1.trans (hbW.mono (Nat.le_of_lt LB.out))
    clear C1 LB hbW hw1 I1 I2 I3
    go_wp2
    go_ret
    exact ⟨ret_str (by rw [← HS.out]; exact HT.out), by rw [HBX.out]; exact hw2⟩


set_option maxRecDepth 100000 in
set_option maxHeartbeats 2000000 in
theorem rtext_mixed_neg (a d : Nat) (ha0 : 0 < a) (ha : a ≤ 1000000) (hd1 : 1 ≤ d) (hd : d ≤ 1000000) (q r : Nat) (hq : a / d = q) (hrm : a % d = r) (h0 : 0 < r) (hq0 : 0 < q) (X Y Z : ByteArray) (hX : (⟨(Lib.decDigits q).toArray⟩ : ByteArray) = X) (hY : (⟨(Lib.decDigits r).toArray⟩ : ByteArray) = Y) (hZ : (⟨(Lib.decDigits d).toArray⟩ : ByteArray) = Z) (T : ByteArray) (hT : (⟨#[45]⟩ : ByteArray) ++ X ++ ⟨#[32]⟩ ++ Y ++ ⟨#[47]⟩ ++ Z = T) (w : World) :
    Calls Tryd.prog 28 #[.agg #[.int .i64 (-(a : Int)), .int .i64 (d : Nat)]] w fun e w' => e = .returned (.string T) ∧ Below w.heap.size w w' := by
  have hqi : q ≤ 1000000 := by rw [← hq]; exact Nat.le_trans (Nat.div_le_self _ _) ha
  have hri : r ≤ 1000000 := by rw [← hrm]; exact Nat.le_trans (Nat.mod_le _ _) ha
  have i1 := fun W => digits_any q hqi W
  have i2 := fun W => digits_any r hri W
  have i3 := fun W => digits_any d hd W
  have sX := dec_size q hqi
  have sY := dec_size r hri
  have sZ := dec_size d hd
  rw [hX] at i1 sX
  rw [hY] at i2 sY
  rw [hZ] at i3 sZ
  have I1 := Lib.hid i1
  have I2 := Lib.hid i2
  have I3 := Lib.hid i3
  have e1 : (a : Int).tdiv (d : Int) = (q : Int) := by rw [← hq, Int.tdiv_eq_ediv_of_nonneg (by omega)]; omega
  have e2 : (a : Int).tmod (d : Int) = (r : Int) := by rw [← hrm, Int.tmod_eq_emod_of_nonneg (by omega)]; omega
  have e3 : (a : Int) / (d : Int) = (q : Int) := by rw [← hq]; omega
  have e4 : (a : Int) % (d : Int) = (r : Int) := by rw [← hrm]; omega
  have hdne : ¬ d = 0 := by omega
  have hqw : IntKind.i64.wrap (q : Int) = (q : Int) := by rw [IntKind.wrap_i64]; omega
  have hd0 : (0 : Int) < (d : Int) := by omega
  have hai : (a : Int) ≤ 1000000 := by omega
  have hdi : (d : Int) ≤ 1000000 := by omega
  have HT := Lib.hid hT
  clear hT i1 i2 i3 hX hY hZ hq hrm
  have t1 : ((r : Int) == 0) = false := by rw [beq_eq_false_iff_ne]; omega
  have t2 : (0 : Int) < (q : Int) := by omega
  go_enter Tryd.func28, Tryd.ntmps28
  have C0 := World.cell?_alloc_new
  obtain ⟨b0, b1, bl, bf⟩ := Two.new w (.int .i64 (-(a : Int))) (.int .i64 (d : Nat)) 27
  clear C0
  go_wp2
  go_quiet (fail)
  go_wp2
  go_quiet (fail)
  have nlx : (9223372036854775807 < 1 + X.size) = False := eq_false (by omega)
  have nlx2 : (9223372036854775807 < 1 + X.size + 1) = False := eq_false (by omega)
  have nlx3 : (9223372036854775807 < X.size + 1) = False := eq_false (by omega)
  go_upto_region 9 with (go_at_call 49; refine (I1.out _).mono ?_; rintro e w1 ⟨rfl, hb1⟩)
  have hw1 := (below_drewN ((Below.refl _ _).alloc (Nat.le_refl _) (.cells #[.int .i64 (-(a : Int)), .int .i64 (d : Nat)] 27)) _).trans (hb1.mono (by simp))
  have C1 := Lib.hid ((hb1.cell (p := ⟨w.heap.size, 1, none⟩) (by simp)).trans (by simp : _ = some (.int .i64 (d : Nat))))
  have LB := Lib.hid (show w.heap.size < w1.heap.size from Nat.lt_of_lt_of_le (by simp) hb1.size)
  obtain ⟨W0, hW0⟩ : ∃ W0, w1 = W0 := ⟨_, rfl⟩
  rw [hW0] at hw1 C1 LB ⊢
  clear hW0 b0 b1 bl bf hb1
  obtain ⟨S, hS⟩ : ∃ S, (⟨#[45]⟩ ++ X ++ ⟨#[32]⟩ : ByteArray) = S := ⟨_, rfl⟩
  have sS : S.size ≤ 9 := by
    rw [← hS]
    have e45 : (⟨#[45]⟩ : ByteArray).size = 1 := rfl
    have e32 : (⟨#[32]⟩ : ByteArray).size = 1 := rfl
    have e0 : (⟨#[]⟩ : ByteArray).size = 0 := rfl
    try simp only [ByteArray.size_append]
    omega
  rw [hS]
  have HS := Lib.hid hS
  have nl1 : (9223372036854775807 < S.size + Y.size) = False := eq_false (by omega)
  have nl2 : (9223372036854775807 < S.size + Y.size + 1) = False := eq_false (by omega)
  have nl3 : (9223372036854775807 < S.size + Y.size + 1 + Z.size) = False := eq_false (by omega)
  obtain ⟨bx, hbx⟩ : ∃ bx, w.heap.size = bx := ⟨_, rfl⟩
  rw [hbx] at C1 LB hw1 ⊢
  have HBX := Lib.hid hbx
  clear hS hbx
  refine wp_region_slots_at rfl rfl (fun base ys => (((((((((base.set 36 (ys 0)).set 37 (ys 1)).set 38 (ys 2)).set 39 (ys 3)).set 40 (ys 4)).set 41 (ys 5)).set 42 (ys 6)).set 43 (ys 7)).set 44 (ys 8)).set 2 (ys 9)) (BelowI 10 (Below W0.heap.size W0) (rtextInv bx d r S Y Z)) (fun j => match j with | 0 => undef | 1 => undef | 2 => undef | 3 => undef | 4 => undef | 5 => undef | 6 => undef | 7 => undef | 8 => undef | 9 => .string ⟨#[]⟩ | _ => undef) (by kernel_rfl) ?h0 ?h
  case h0 => exact ⟨(Below.refl _ _).drew, fun j hj hL => absurd (of_decide_eq_true hL) (by have : j < 10 := hj; show ¬ 10 ≤ j; omega)⟩
  case h =>
    intro F hF
    simp only [List.set_cons_succ, List.set_cons_zero] at hF
    subst hF
    refine ⟨rfl, ?_, ?_⟩
    refine ⟨?_, ?_⟩
    · refine SlotStep.below (fun A B hb h => h.trans (hb.mono h.size)) (fun j v A B hb h => h) ?_
      intro ys W hR hd K hK
      go_simp
      have hK2 := hK (.string S) _ (Below.refl _ _) rfl
      simp (config := { decide := true }) only [upd, if_true, if_false] at hK2
      exact hK2
    refine ⟨?_, ?_⟩
    · refine SlotStep.below (fun A B hb h => h.trans (hb.mono h.size)) (fun j v A B hb h => h) ?_
      intro ys W hR hd K hK
      go_simp
      have hK2 := hK (.int .i64 (r : Nat)) _ (Below.refl _ _) rfl
      simp (config := { decide := true }) only [upd, if_true, if_false] at hK2
      exact hK2
    refine ⟨?_, ?_⟩
    · refine SlotStep.below (fun A B hb h => h.trans (hb.mono h.size)) (fun j v A B hb h => h) ?_
      intro ys W hR hd K hK
      have d1 : ys 1 = .int .i64 (r : Nat) := hd 1 (by kernel_rfl) (by decide)
      go_simp
      refine (I2.out W).mono ?_
      rintro e' W' ⟨rfl, hb⟩
      have hK2 := hK (.string Y) _ hb rfl
      simp (config := { decide := true }) only [upd, if_true, if_false, d1] at hK2
      exact hK2
    refine ⟨?_, ?_⟩
    · refine SlotStep.below (fun A B hb h => h.trans (hb.mono h.size)) (fun j v A B hb h => h) ?_
      intro ys W hR hd K hK
      have d0 : ys 0 = .string S := hd 0 (by kernel_rfl) (by decide)
      have d2 : ys 2 = .string Y := hd 2 (by kernel_rfl) (by decide)
      go_simp
      have hK2 := hK (.string (S ++ Y)) _ (Below.refl _ _) rfl
      simp (config := { decide := true }) only [upd, if_true, if_false, d0, d2] at hK2
      exact hK2
    refine ⟨?_, ?_⟩
    · refine SlotStep.below (fun A B hb h => h.trans (hb.mono h.size)) (fun j v A B hb h => h) ?_
      intro ys W hR hd K hK
      have d3 : ys 3 = .string (S ++ Y) := hd 3 (by kernel_rfl) (by decide)
      go_simp
      have hK2 := hK (.string (S ++ Y ++ (⟨#[47]⟩ : ByteArray))) _ (Below.refl _ _) rfl
      simp (config := { decide := true }) only [upd, if_true, if_false, d3] at hK2
      exact hK2
    refine ⟨?_, ?_⟩
    · refine SlotStep.below (fun A B hb h => h.trans (hb.mono h.size)) (fun j v A B hb h => h) ?_
      intro ys W hR hd K hK
      go_simp
      have hK2 := hK (.pointer (some ⟨bx, 1, none⟩)) _ (Below.refl _ _) rfl
      simp (config := { decide := true }) only [upd, if_true, if_false] at hK2
      exact hK2
    refine ⟨?_, ?_⟩
    · refine SlotStep.below (fun A B hb h => h.trans (hb.mono h.size)) (fun j v A B hb h => h) ?_
      intro ys W hR hd K hK
      have d5 : ys 5 = .pointer (some ⟨bx, 1, none⟩) := hd 5 (by kernel_rfl) (by decide)
      have c1 := (hR.cell (p := ⟨bx, 1, none⟩) LB.out).trans C1.out
      go_simp
      have hK2 := hK (.int .i64 (d : Nat)) _ (Below.refl _ _) rfl
      simp (config := { decide := true }) only [upd, if_true, if_false, d5] at hK2
      exact hK2
    refine ⟨?_, ?_⟩
    · refine SlotStep.below (fun A B hb h => h.trans (hb.mono h.size)) (fun j v A B hb h => h) ?_
      intro ys W hR hd K hK
      have d6 : ys 6 = .int .i64 (d : Nat) := hd 6 (by kernel_rfl) (by decide)
      go_simp
      refine (I3.out W).mono ?_
      rintro e' W' ⟨rfl, hb⟩
      have hK2 := hK (.string Z) _ hb rfl
      simp (config := { decide := true }) only [upd, if_true, if_false, d6] at hK2
      exact hK2
    refine ⟨?_, ?_⟩
    · refine SlotStep.below (fun A B hb h => h.trans (hb.mono h.size)) (fun j v A B hb h => h) ?_
      intro ys W hR hd K hK
      have d4 : ys 4 = .string (S ++ Y ++ (⟨#[47]⟩ : ByteArray)) := hd 4 (by kernel_rfl) (by decide)
      have d7 : ys 7 = .string Z := hd 7 (by kernel_rfl) (by decide)
      go_simp
      have hK2 := hK (.string (S ++ Y ++ (⟨#[47]⟩ : ByteArray) ++ Z)) _ (Below.refl _ _) rfl
      simp (config := { decide := true }) only [upd, if_true, if_false, d4, d7] at hK2
      exact hK2
    refine ⟨?_, ?_⟩
    · refine SlotStep.below (fun A B hb h => h.trans (hb.mono h.size)) (fun j v A B hb h => h) ?_
      intro ys W hR hd K hK
      have d8 : ys 8 = .string (S ++ Y ++ (⟨#[47]⟩ : ByteArray) ++ Z) := hd 8 (by kernel_rfl) (by decide)
      go_simp
      have hK2 := hK (.string (S ++ Y ++ (⟨#[47]⟩ : ByteArray) ++ Z)) _ (Below.refl _ _) rfl
      simp (config := { decide := true }) only [upd, if_true, if_false, d8] at hK2
      exact hK2
    trivial
    intro L2 ys W hL2 hI
    obtain ⟨hbW, hv⟩ := hI
    have y9 : ys 9 = .string (S ++ Y ++ (⟨#[47]⟩ : ByteArray) ++ Z) := hv 9 (by decide) (hL2 9 (by decide))
    simp only [y9]
    clear hL2 hv y9
    have hw2 := hw1.trans (hbW.mono (Nat.le_of_lt LB.out))
    clear C1 LB hbW hw1 I1 I2 I3
    go_wp2
    go_ret
    exact ⟨ret_str (by rw [← HS.out]; exact HT.out), by rw [HBX.out]; exact hw2⟩


set_option maxRecDepth 100000 in
set_option maxHeartbeats 2000000 in
theorem rtext_whole_pos (a d : Nat) (ha : a ≤ 1000000) (hd1 : 1 ≤ d) (hd : d ≤ 1000000) (q r : Nat) (hq : a / d = q) (hrm : a % d = r) (h0 : r = 0) (X Y Z : ByteArray) (hX : (⟨(Lib.decDigits q).toArray⟩ : ByteArray) = X) (hY : (⟨(Lib.decDigits r).toArray⟩ : ByteArray) = Y) (hZ : (⟨(Lib.decDigits d).toArray⟩ : ByteArray) = Z) (T : ByteArray) (hT : (⟨#[]⟩ : ByteArray) ++ X = T) (w : World) :
    Calls Tryd.prog 28 #[.agg #[.int .i64 ((a : Int)), .int .i64 (d : Nat)]] w fun e w' => e = .returned (.string T) ∧ Below w.heap.size w w' := by
  have hqi : q ≤ 1000000 := by rw [← hq]; exact Nat.le_trans (Nat.div_le_self _ _) ha
  have hri : r ≤ 1000000 := by rw [← hrm]; exact Nat.le_trans (Nat.mod_le _ _) ha
  have i1 := fun W => digits_any q hqi W
  have i2 := fun W => digits_any r hri W
  have i3 := fun W => digits_any d hd W
  have sX := dec_size q hqi
  have sY := dec_size r hri
  have sZ := dec_size d hd
  rw [hX] at i1 sX
  rw [hY] at i2 sY
  rw [hZ] at i3 sZ
  have I1 := Lib.hid i1
  have I2 := Lib.hid i2
  have I3 := Lib.hid i3
  have e1 : (a : Int).tdiv (d : Int) = (q : Int) := by rw [← hq, Int.tdiv_eq_ediv_of_nonneg (by omega)]; omega
  have e2 : (a : Int).tmod (d : Int) = (r : Int) := by rw [← hrm, Int.tmod_eq_emod_of_nonneg (by omega)]; omega
  have e3 : (a : Int) / (d : Int) = (q : Int) := by rw [← hq]; omega
  have e4 : (a : Int) % (d : Int) = (r : Int) := by rw [← hrm]; omega
  have hdne : ¬ d = 0 := by omega
  have hqw : IntKind.i64.wrap (q : Int) = (q : Int) := by rw [IntKind.wrap_i64]; omega
  have hd0 : (0 : Int) < (d : Int) := by omega
  have hai : (a : Int) ≤ 1000000 := by omega
  have hdi : (d : Int) ≤ 1000000 := by omega
  have HT := Lib.hid hT
  clear hT i1 i2 i3 hX hY hZ hq hrm
  have t1 : ((r : Int) == 0) = true := by rw [h0]; rfl
  clear h0
  go_enter Tryd.func28, Tryd.ntmps28
  have C0 := World.cell?_alloc_new
  obtain ⟨b0, b1, bl, bf⟩ := Two.new w (.int .i64 ((a : Int))) (.int .i64 (d : Nat)) 27
  clear C0
  go_wp2
  go_quiet (fail)
  go_wp2
  go_quiet (fail)
  go_wp2_with (go_at_call 49; refine (I1.out _).mono ?_; rintro e w1 ⟨rfl, hb1⟩)
  go_ret
  exact ⟨ret_str HT.out, (below_drewN ((Below.refl _ _).alloc (Nat.le_refl _) _) _).trans (hb1.mono (by simp))⟩

set_option maxRecDepth 100000 in
set_option maxHeartbeats 2000000 in
theorem rtext_frac_pos (a d : Nat) (ha : a ≤ 1000000) (hd1 : 1 ≤ d) (hd : d ≤ 1000000) (q r : Nat) (hq : a / d = q) (hrm : a % d = r) (h0 : 0 < r) (hq0 : q = 0) (X Y Z : ByteArray) (hX : (⟨(Lib.decDigits q).toArray⟩ : ByteArray) = X) (hY : (⟨(Lib.decDigits r).toArray⟩ : ByteArray) = Y) (hZ : (⟨(Lib.decDigits d).toArray⟩ : ByteArray) = Z) (T : ByteArray) (hT : (⟨#[]⟩ : ByteArray) ++ Y ++ ⟨#[47]⟩ ++ Z = T) (w : World) :
    Calls Tryd.prog 28 #[.agg #[.int .i64 ((a : Int)), .int .i64 (d : Nat)]] w fun e w' => e = .returned (.string T) ∧ Below w.heap.size w w' := by
  have hqi : q ≤ 1000000 := by rw [← hq]; exact Nat.le_trans (Nat.div_le_self _ _) ha
  have hri : r ≤ 1000000 := by rw [← hrm]; exact Nat.le_trans (Nat.mod_le _ _) ha
  have i1 := fun W => digits_any q hqi W
  have i2 := fun W => digits_any r hri W
  have i3 := fun W => digits_any d hd W
  have sX := dec_size q hqi
  have sY := dec_size r hri
  have sZ := dec_size d hd
  rw [hX] at i1 sX
  rw [hY] at i2 sY
  rw [hZ] at i3 sZ
  have I1 := Lib.hid i1
  have I2 := Lib.hid i2
  have I3 := Lib.hid i3
  have e1 : (a : Int).tdiv (d : Int) = (q : Int) := by rw [← hq, Int.tdiv_eq_ediv_of_nonneg (by omega)]; omega
  have e2 : (a : Int).tmod (d : Int) = (r : Int) := by rw [← hrm, Int.tmod_eq_emod_of_nonneg (by omega)]; omega
  have e3 : (a : Int) / (d : Int) = (q : Int) := by rw [← hq]; omega
  have e4 : (a : Int) % (d : Int) = (r : Int) := by rw [← hrm]; omega
  have hdne : ¬ d = 0 := by omega
  have hqw : IntKind.i64.wrap (q : Int) = (q : Int) := by rw [IntKind.wrap_i64]; omega
  have hd0 : (0 : Int) < (d : Int) := by omega
  have hai : (a : Int) ≤ 1000000 := by omega
  have hdi : (d : Int) ≤ 1000000 := by omega
  have HT := Lib.hid hT
  clear hT i1 i2 i3 hX hY hZ hq hrm
  have t1 : ((r : Int) == 0) = false := by rw [beq_eq_false_iff_ne]; omega
  have t2 : ¬ (0 : Int) < (q : Int) := by omega
  have t3 : decide (0 < q) = false := by simp; omega
  clear hq0
  go_enter Tryd.func28, Tryd.ntmps28
  have C0 := World.cell?_alloc_new
  obtain ⟨b0, b1, bl, bf⟩ := Two.new w (.int .i64 ((a : Int))) (.int .i64 (d : Nat)) 27
  clear C0
  go_wp2
  go_quiet (fail)
  go_wp2
  go_quiet (fail)
  go_upto_region 9 with fail
  refine at_drawn ?_
  intro W0 hw1 c1 lb
  have C1 := Lib.hid c1
  have LB := Lib.hid lb
  clear c1 lb
  clear b0 b1 bl bf
  obtain ⟨S, hS⟩ : ∃ S, (⟨#[]⟩ : ByteArray) = S := ⟨_, rfl⟩
  have sS : S.size ≤ 0 := by
    rw [← hS]
    have e45 : (⟨#[45]⟩ : ByteArray).size = 1 := rfl
    have e32 : (⟨#[32]⟩ : ByteArray).size = 1 := rfl
    have e0 : (⟨#[]⟩ : ByteArray).size = 0 := rfl
    try simp only [ByteArray.size_append]
    omega
  rw [hS]
  have HS := Lib.hid hS
  have nl1 : (9223372036854775807 < S.size + Y.size) = False := eq_false (by omega)
  have nl2 : (9223372036854775807 < S.size + Y.size + 1) = False := eq_false (by omega)
  have nl3 : (9223372036854775807 < S.size + Y.size + 1 + Z.size) = False := eq_false (by omega)
  obtain ⟨bx, hbx⟩ : ∃ bx, w.heap.size = bx := ⟨_, rfl⟩
  rw [hbx] at C1 LB hw1 ⊢
  have HBX := Lib.hid hbx
  clear hS hbx
  refine wp_region_slots_at rfl rfl (fun base ys => (((((((((base.set 36 (ys 0)).set 37 (ys 1)).set 38 (ys 2)).set 39 (ys 3)).set 40 (ys 4)).set 41 (ys 5)).set 42 (ys 6)).set 43 (ys 7)).set 44 (ys 8)).set 2 (ys 9)) (BelowI 10 (Below W0.heap.size W0) (rtextInv bx d r S Y Z)) (fun j => match j with | 0 => undef | 1 => undef | 2 => undef | 3 => undef | 4 => undef | 5 => undef | 6 => undef | 7 => undef | 8 => undef | 9 => .string S | _ => undef) (by kernel_rfl) ?h0 ?h
  case h0 => exact ⟨(Below.refl _ _).drew, fun j hj hL => absurd (of_decide_eq_true hL) (by have : j < 10 := hj; show ¬ 10 ≤ j; omega)⟩
  case h =>
    intro F hF
    simp only [List.set_cons_succ, List.set_cons_zero] at hF
    subst hF
    refine ⟨rfl, ?_, ?_⟩
    refine ⟨?_, ?_⟩
    · refine SlotStep.below (fun A B hb h => h.trans (hb.mono h.size)) (fun j v A B hb h => h) ?_
      intro ys W hR hd K hK
      go_simp
      have hK2 := hK (.string S) _ (Below.refl _ _) rfl
      simp (config := { decide := true }) only [upd, if_true, if_false] at hK2
      exact hK2
    refine ⟨?_, ?_⟩
    · refine SlotStep.below (fun A B hb h => h.trans (hb.mono h.size)) (fun j v A B hb h => h) ?_
      intro ys W hR hd K hK
      go_simp
      have hK2 := hK (.int .i64 (r : Nat)) _ (Below.refl _ _) rfl
      simp (config := { decide := true }) only [upd, if_true, if_false] at hK2
      exact hK2
    refine ⟨?_, ?_⟩
    · refine SlotStep.below (fun A B hb h => h.trans (hb.mono h.size)) (fun j v A B hb h => h) ?_
      intro ys W hR hd K hK
      have d1 : ys 1 = .int .i64 (r : Nat) := hd 1 (by kernel_rfl) (by decide)
      go_simp
      refine (I2.out W).mono ?_
      rintro e' W' ⟨rfl, hb⟩
      have hK2 := hK (.string Y) _ hb rfl
      simp (config := { decide := true }) only [upd, if_true, if_false, d1] at hK2
      exact hK2
    refine ⟨?_, ?_⟩
    · refine SlotStep.below (fun A B hb h => h.trans (hb.mono h.size)) (fun j v A B hb h => h) ?_
      intro ys W hR hd K hK
      have d0 : ys 0 = .string S := hd 0 (by kernel_rfl) (by decide)
      have d2 : ys 2 = .string Y := hd 2 (by kernel_rfl) (by decide)
      go_simp
      have hK2 := hK (.string (S ++ Y)) _ (Below.refl _ _) rfl
      simp (config := { decide := true }) only [upd, if_true, if_false, d0, d2] at hK2
      exact hK2
    refine ⟨?_, ?_⟩
    · refine SlotStep.below (fun A B hb h => h.trans (hb.mono h.size)) (fun j v A B hb h => h) ?_
      intro ys W hR hd K hK
      have d3 : ys 3 = .string (S ++ Y) := hd 3 (by kernel_rfl) (by decide)
      go_simp
      have hK2 := hK (.string (S ++ Y ++ (⟨#[47]⟩ : ByteArray))) _ (Below.refl _ _) rfl
      simp (config := { decide := true }) only [upd, if_true, if_false, d3] at hK2
      exact hK2
    refine ⟨?_, ?_⟩
    · refine SlotStep.below (fun A B hb h => h.trans (hb.mono h.size)) (fun j v A B hb h => h) ?_
      intro ys W hR hd K hK
      go_simp
      have hK2 := hK (.pointer (some ⟨bx, 1, none⟩)) _ (Below.refl _ _) rfl
      simp (config := { decide := true }) only [upd, if_true, if_false] at hK2
      exact hK2
    refine ⟨?_, ?_⟩
    · refine SlotStep.below (fun A B hb h => h.trans (hb.mono h.size)) (fun j v A B hb h => h) ?_
      intro ys W hR hd K hK
      have d5 : ys 5 = .pointer (some ⟨bx, 1, none⟩) := hd 5 (by kernel_rfl) (by decide)
      have c1 := (hR.cell (p := ⟨bx, 1, none⟩) LB.out).trans C1.out
      go_simp
      have hK2 := hK (.int .i64 (d : Nat)) _ (Below.refl _ _) rfl
      simp (config := { decide := true }) only [upd, if_true, if_false, d5] at hK2
      exact hK2
    refine ⟨?_, ?_⟩
    · refine SlotStep.below (fun A B hb h => h.trans (hb.mono h.size)) (fun j v A B hb h => h) ?_
      intro ys W hR hd K hK
      have d6 : ys 6 = .int .i64 (d : Nat) := hd 6 (by kernel_rfl) (by decide)
      go_simp
      refine (I3.out W).mono ?_
      rintro e' W' ⟨rfl, hb⟩
      have hK2 := hK (.string Z) _ hb rfl
      simp (config := { decide := true }) only [upd, if_true, if_false, d6] at hK2
      exact hK2
    refine ⟨?_, ?_⟩
    · refine SlotStep.below (fun A B hb h => h.trans (hb.mono h.size)) (fun j v A B hb h => h) ?_
      intro ys W hR hd K hK
      have d4 : ys 4 = .string (S ++ Y ++ (⟨#[47]⟩ : ByteArray)) := hd 4 (by kernel_rfl) (by decide)
      have d7 : ys 7 = .string Z := hd 7 (by kernel_rfl) (by decide)
      go_simp
      have hK2 := hK (.string (S ++ Y ++ (⟨#[47]⟩ : ByteArray) ++ Z)) _ (Below.refl _ _) rfl
      simp (config := { decide := true }) only [upd, if_true, if_false, d4, d7] at hK2
      exact hK2
    refine ⟨?_, ?_⟩
    · refine SlotStep.below (fun A B hb h => h.trans (hb.mono h.size)) (fun j v A B hb h => h) ?_
      intro ys W hR hd K hK
      have d8 : ys 8 = .string (S ++ Y ++ (⟨#[47]⟩ : ByteArray) ++ Z) := hd 8 (by kernel_rfl) (by decide)
      go_simp
      have hK2 := hK (.string (S ++ Y ++ (⟨#[47]⟩ : ByteArray) ++ Z)) _ (Below.refl _ _) rfl
      simp (config := { decide := true }) only [upd, if_true, if_false, d8] at hK2
      exact hK2
    trivial
    intro L2 ys W hL2 hI
    obtain ⟨hbW, hv⟩ := hI
    have y9 : ys 9 = .string (S ++ Y ++ (⟨#[47]⟩ : ByteArray) ++ Z) := hv 9 (by decide) (hL2 9 (by decide))
    simp only [y9]
    clear hL2 hv y9
    have hw2 := hw1.trans (hbW.mono (Nat.le_of_lt LB.out))
    clear C1 LB hbW hw1 I1 I2 I3
    go_wp2
    go_ret
    exact ⟨ret_str (by rw [← HS.out]; exact HT.out), by rw [HBX.out]; exact hw2⟩


set_option maxRecDepth 100000 in
set_option maxHeartbeats 2000000 in
theorem rtext_mixed_pos (a d : Nat) (ha : a ≤ 1000000) (hd1 : 1 ≤ d) (hd : d ≤ 1000000) (q r : Nat) (hq : a / d = q) (hrm : a % d = r) (h0 : 0 < r) (hq0 : 0 < q) (X Y Z : ByteArray) (hX : (⟨(Lib.decDigits q).toArray⟩ : ByteArray) = X) (hY : (⟨(Lib.decDigits r).toArray⟩ : ByteArray) = Y) (hZ : (⟨(Lib.decDigits d).toArray⟩ : ByteArray) = Z) (T : ByteArray) (hT : (⟨#[]⟩ : ByteArray) ++ X ++ ⟨#[32]⟩ ++ Y ++ ⟨#[47]⟩ ++ Z = T) (w : World) :
    Calls Tryd.prog 28 #[.agg #[.int .i64 ((a : Int)), .int .i64 (d : Nat)]] w fun e w' => e = .returned (.string T) ∧ Below w.heap.size w w' := by
  have hqi : q ≤ 1000000 := by rw [← hq]; exact Nat.le_trans (Nat.div_le_self _ _) ha
  have hri : r ≤ 1000000 := by rw [← hrm]; exact Nat.le_trans (Nat.mod_le _ _) ha
  have i1 := fun W => digits_any q hqi W
  have i2 := fun W => digits_any r hri W
  have i3 := fun W => digits_any d hd W
  have sX := dec_size q hqi
  have sY := dec_size r hri
  have sZ := dec_size d hd
  rw [hX] at i1 sX
  rw [hY] at i2 sY
  rw [hZ] at i3 sZ
  have I1 := Lib.hid i1
  have I2 := Lib.hid i2
  have I3 := Lib.hid i3
  have e1 : (a : Int).tdiv (d : Int) = (q : Int) := by rw [← hq, Int.tdiv_eq_ediv_of_nonneg (by omega)]; omega
  have e2 : (a : Int).tmod (d : Int) = (r : Int) := by rw [← hrm, Int.tmod_eq_emod_of_nonneg (by omega)]; omega
  have e3 : (a : Int) / (d : Int) = (q : Int) := by rw [← hq]; omega
  have e4 : (a : Int) % (d : Int) = (r : Int) := by rw [← hrm]; omega
  have hdne : ¬ d = 0 := by omega
  have hqw : IntKind.i64.wrap (q : Int) = (q : Int) := by rw [IntKind.wrap_i64]; omega
  have hd0 : (0 : Int) < (d : Int) := by omega
  have hai : (a : Int) ≤ 1000000 := by omega
  have hdi : (d : Int) ≤ 1000000 := by omega
  have HT := Lib.hid hT
  clear hT i1 i2 i3 hX hY hZ hq hrm
  have t1 : ((r : Int) == 0) = false := by rw [beq_eq_false_iff_ne]; omega
  have t2 : (0 : Int) < (q : Int) := by omega
  go_enter Tryd.func28, Tryd.ntmps28
  have C0 := World.cell?_alloc_new
  obtain ⟨b0, b1, bl, bf⟩ := Two.new w (.int .i64 ((a : Int))) (.int .i64 (d : Nat)) 27
  clear C0
  go_wp2
  go_quiet (fail)
  go_wp2
  go_quiet (fail)
  have nlx : (9223372036854775807 < 1 + X.size) = False := eq_false (by omega)
  have nlx2 : (9223372036854775807 < 1 + X.size + 1) = False := eq_false (by omega)
  have nlx3 : (9223372036854775807 < X.size + 1) = False := eq_false (by omega)
  go_upto_region 9 with (go_at_call 49; refine (I1.out _).mono ?_; rintro e w1 ⟨rfl, hb1⟩)
  have hw1 := (below_drewN ((Below.refl _ _).alloc (Nat.le_refl _) (.cells #[.int .i64 ((a : Int)), .int .i64 (d : Nat)] 27)) _).trans (hb1.mono (by simp))
  have C1 := Lib.hid ((hb1.cell (p := ⟨w.heap.size, 1, none⟩) (by simp)).trans (by simp : _ = some (.int .i64 (d : Nat))))
  have LB := Lib.hid (show w.heap.size < w1.heap.size from Nat.lt_of_lt_of_le (by simp) hb1.size)
  obtain ⟨W0, hW0⟩ : ∃ W0, w1 = W0 := ⟨_, rfl⟩
  rw [hW0] at hw1 C1 LB ⊢
  clear hW0 b0 b1 bl bf hb1
  obtain ⟨S, hS⟩ : ∃ S, (⟨#[]⟩ ++ X ++ ⟨#[32]⟩ : ByteArray) = S := ⟨_, rfl⟩
  have sS : S.size ≤ 8 := by
    rw [← hS]
    have e45 : (⟨#[45]⟩ : ByteArray).size = 1 := rfl
    have e32 : (⟨#[32]⟩ : ByteArray).size = 1 := rfl
    have e0 : (⟨#[]⟩ : ByteArray).size = 0 := rfl
    try simp only [ByteArray.size_append]
    omega
  rw [hS]
  have HS := Lib.hid hS
  have nl1 : (9223372036854775807 < S.size + Y.size) = False := eq_false (by omega)
  have nl2 : (9223372036854775807 < S.size + Y.size + 1) = False := eq_false (by omega)
  have nl3 : (9223372036854775807 < S.size + Y.size + 1 + Z.size) = False := eq_false (by omega)
  obtain ⟨bx, hbx⟩ : ∃ bx, w.heap.size = bx := ⟨_, rfl⟩
  rw [hbx] at C1 LB hw1 ⊢
  have HBX := Lib.hid hbx
  clear hS hbx
  refine wp_region_slots_at rfl rfl (fun base ys => (((((((((base.set 36 (ys 0)).set 37 (ys 1)).set 38 (ys 2)).set 39 (ys 3)).set 40 (ys 4)).set 41 (ys 5)).set 42 (ys 6)).set 43 (ys 7)).set 44 (ys 8)).set 2 (ys 9)) (BelowI 10 (Below W0.heap.size W0) (rtextInv bx d r S Y Z)) (fun j => match j with | 0 => undef | 1 => undef | 2 => undef | 3 => undef | 4 => undef | 5 => undef | 6 => undef | 7 => undef | 8 => undef | 9 => .string ⟨#[]⟩ | _ => undef) (by kernel_rfl) ?h0 ?h
  case h0 => exact ⟨(Below.refl _ _).drew, fun j hj hL => absurd (of_decide_eq_true hL) (by have : j < 10 := hj; show ¬ 10 ≤ j; omega)⟩
  case h =>
    intro F hF
    simp only [List.set_cons_succ, List.set_cons_zero] at hF
    subst hF
    refine ⟨rfl, ?_, ?_⟩
    refine ⟨?_, ?_⟩
    · refine SlotStep.below (fun A B hb h => h.trans (hb.mono h.size)) (fun j v A B hb h => h) ?_
      intro ys W hR hd K hK
      go_simp
      have hK2 := hK (.string S) _ (Below.refl _ _) rfl
      simp (config := { decide := true }) only [upd, if_true, if_false] at hK2
      exact hK2
    refine ⟨?_, ?_⟩
    · refine SlotStep.below (fun A B hb h => h.trans (hb.mono h.size)) (fun j v A B hb h => h) ?_
      intro ys W hR hd K hK
      go_simp
      have hK2 := hK (.int .i64 (r : Nat)) _ (Below.refl _ _) rfl
      simp (config := { decide := true }) only [upd, if_true, if_false] at hK2
      exact hK2
    refine ⟨?_, ?_⟩
    · refine SlotStep.below (fun A B hb h => h.trans (hb.mono h.size)) (fun j v A B hb h => h) ?_
      intro ys W hR hd K hK
      have d1 : ys 1 = .int .i64 (r : Nat) := hd 1 (by kernel_rfl) (by decide)
      go_simp
      refine (I2.out W).mono ?_
      rintro e' W' ⟨rfl, hb⟩
      have hK2 := hK (.string Y) _ hb rfl
      simp (config := { decide := true }) only [upd, if_true, if_false, d1] at hK2
      exact hK2
    refine ⟨?_, ?_⟩
    · refine SlotStep.below (fun A B hb h => h.trans (hb.mono h.size)) (fun j v A B hb h => h) ?_
      intro ys W hR hd K hK
      have d0 : ys 0 = .string S := hd 0 (by kernel_rfl) (by decide)
      have d2 : ys 2 = .string Y := hd 2 (by kernel_rfl) (by decide)
      go_simp
      have hK2 := hK (.string (S ++ Y)) _ (Below.refl _ _) rfl
      simp (config := { decide := true }) only [upd, if_true, if_false, d0, d2] at hK2
      exact hK2
    refine ⟨?_, ?_⟩
    · refine SlotStep.below (fun A B hb h => h.trans (hb.mono h.size)) (fun j v A B hb h => h) ?_
      intro ys W hR hd K hK
      have d3 : ys 3 = .string (S ++ Y) := hd 3 (by kernel_rfl) (by decide)
      go_simp
      have hK2 := hK (.string (S ++ Y ++ (⟨#[47]⟩ : ByteArray))) _ (Below.refl _ _) rfl
      simp (config := { decide := true }) only [upd, if_true, if_false, d3] at hK2
      exact hK2
    refine ⟨?_, ?_⟩
    · refine SlotStep.below (fun A B hb h => h.trans (hb.mono h.size)) (fun j v A B hb h => h) ?_
      intro ys W hR hd K hK
      go_simp
      have hK2 := hK (.pointer (some ⟨bx, 1, none⟩)) _ (Below.refl _ _) rfl
      simp (config := { decide := true }) only [upd, if_true, if_false] at hK2
      exact hK2
    refine ⟨?_, ?_⟩
    · refine SlotStep.below (fun A B hb h => h.trans (hb.mono h.size)) (fun j v A B hb h => h) ?_
      intro ys W hR hd K hK
      have d5 : ys 5 = .pointer (some ⟨bx, 1, none⟩) := hd 5 (by kernel_rfl) (by decide)
      have c1 := (hR.cell (p := ⟨bx, 1, none⟩) LB.out).trans C1.out
      go_simp
      have hK2 := hK (.int .i64 (d : Nat)) _ (Below.refl _ _) rfl
      simp (config := { decide := true }) only [upd, if_true, if_false, d5] at hK2
      exact hK2
    refine ⟨?_, ?_⟩
    · refine SlotStep.below (fun A B hb h => h.trans (hb.mono h.size)) (fun j v A B hb h => h) ?_
      intro ys W hR hd K hK
      have d6 : ys 6 = .int .i64 (d : Nat) := hd 6 (by kernel_rfl) (by decide)
      go_simp
      refine (I3.out W).mono ?_
      rintro e' W' ⟨rfl, hb⟩
      have hK2 := hK (.string Z) _ hb rfl
      simp (config := { decide := true }) only [upd, if_true, if_false, d6] at hK2
      exact hK2
    refine ⟨?_, ?_⟩
    · refine SlotStep.below (fun A B hb h => h.trans (hb.mono h.size)) (fun j v A B hb h => h) ?_
      intro ys W hR hd K hK
      have d4 : ys 4 = .string (S ++ Y ++ (⟨#[47]⟩ : ByteArray)) := hd 4 (by kernel_rfl) (by decide)
      have d7 : ys 7 = .string Z := hd 7 (by kernel_rfl) (by decide)
      go_simp
      have hK2 := hK (.string (S ++ Y ++ (⟨#[47]⟩ : ByteArray) ++ Z)) _ (Below.refl _ _) rfl
      simp (config := { decide := true }) only [upd, if_true, if_false, d4, d7] at hK2
      exact hK2
    refine ⟨?_, ?_⟩
    · refine SlotStep.below (fun A B hb h => h.trans (hb.mono h.size)) (fun j v A B hb h => h) ?_
      intro ys W hR hd K hK
      have d8 : ys 8 = .string (S ++ Y ++ (⟨#[47]⟩ : ByteArray) ++ Z) := hd 8 (by kernel_rfl) (by decide)
      go_simp
      have hK2 := hK (.string (S ++ Y ++ (⟨#[47]⟩ : ByteArray) ++ Z)) _ (Below.refl _ _) rfl
      simp (config := { decide := true }) only [upd, if_true, if_false, d8] at hK2
      exact hK2
    trivial
    intro L2 ys W hL2 hI
    obtain ⟨hbW, hv⟩ := hI
    have y9 : ys 9 = .string (S ++ Y ++ (⟨#[47]⟩ : ByteArray) ++ Z) := hv 9 (by decide) (hL2 9 (by decide))
    simp only [y9]
    clear hL2 hv y9
    have hw2 := hw1.trans (hbW.mono (Nat.le_of_lt LB.out))
    clear C1 LB hbW hw1 I1 I2 I3
    go_wp2
    go_ret
    exact ⟨ret_str (by rw [← HS.out]; exact HT.out), by rw [HBX.out]; exact hw2⟩


end Go.Proofs.YtoeacbmlodfciaaDoor
