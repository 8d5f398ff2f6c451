/- Text of a right fraction: its integer part, and the rest as a fraction. -/
import Derived.Test.YtoeacbmlodfciaaDoorFracTm
import Derived.Test.YtoeacbmlodfciaaDoorFracLa
import Derived.Test.YtoeacbmlodfciaaDoorFracPc
import Derived.Lib.AppendIntMem
import Derived.Lib.SmallJoins
namespace Go.Proofs.YtoeacbmlodfciaaDoor
open Go Go.RowKit Go.Shelf

/-- The library's table of powers of ten lies in a world. -/
def Gf (w : World) : Prop := Lib.TabIs Tryd.prog w "internal/strconv.uint64pow10" .u64 Lib.pow10Tab
theorem Gf.below {w w' : World} (h : Gf w) (hb : Below w.heap.size w w') : Gf w' := Joins.tab_stays (g := 0) (by kernel_rfl) h hb (Nat.le_refl _)
theorem itoa_any (n : Int) (h0 : -9223372036854775808 ≤ n) (h1 : n ≤ 9223372036854775807) (w : World) (G : Gf w) :
    Calls Tryd.prog 44 #[.int .i64 n] w fun e w' => e = .returned (.string ⟨(Lib.itoa n).toArray⟩) ∧ Below w.heap.size w w' := by
  refine (Any.strconv_Itoa Tryd.laysM171 n h0 h1 w G).mono ?_
  rintro e w' ⟨rfl, k, os, rfl⟩
  exact ⟨rfl, Lib.below_grow _ _ (Nat.le_refl _) k os⟩
theorem itoa_nat (n : Nat) (h1 : n ≤ 1000000) (w : World) (G : Gf w) :
    Calls Tryd.prog 44 #[.int .i64 (n : Nat)] w fun e w' => e = .returned (.string ⟨(Lib.decDigits n).toArray⟩) ∧ Below w.heap.size w w' := by
  have h := itoa_any (n : Int) (by omega) (by omega) w G
  rwa [show Lib.itoa (n : Int) = Lib.decDigits n by unfold Lib.itoa; rw [if_neg (by omega)]; simp] at h

def textInv (bx a d q r : Nat) (X Y Z : ByteArray) : Nat → Value → World → Prop := fun j v _ => match j, v with | 0, v => v = .int .i64 (a : Nat) | 1, v => v = .pointer (some ⟨bx, 1, none⟩) | 2, v => v = .int .i64 (d : Nat) | 3, v => v = .int .i64 (q : Nat) | 4, v => v = .string X | 5, v => v = .int .i64 (a : Nat) | 6, v => v = .pointer (some ⟨bx, 1, none⟩) | 7, v => v = .int .i64 (d : Nat) | 8, v => v = .int .i64 (r : Nat) | 9, v => v = .string Y | 10, v => v = .string (Y ++ (⟨#[47]⟩ : ByteArray)) | 11, v => v = .pointer (some ⟨bx, 1, none⟩) | 12, v => v = .int .i64 (d : Nat) | 13, v => v = .string Z | 14, v => v = .string (Y ++ (⟨#[47]⟩ : ByteArray) ++ Z) | 15, v => v = .string X | 16, v => v = .string (Y ++ (⟨#[47]⟩ : ByteArray) ++ Z) | _, _ => True

theorem ret_text {A B : ByteArray} {n : Int} (h : A = B) : Ending.returned (.tuple #[.string A, .int .i64 n]) = .returned (.tuple #[.string B, .int .i64 n]) := by rw [h]
theorem dec_size (n : Nat) (h : n ≤ 1000000) : (⟨(Lib.decDigits n).toArray⟩ : ByteArray).size ≤ 7 := by
  show (Lib.decDigits n).toArray.size ≤ 7
  rw [List.size_toArray]
  exact FracMath.dec_len n 7 (by omega) (by decide)

set_option maxRecDepth 100000 in
set_option maxHeartbeats 2000000 in
theorem text_neg (a d : Nat) (ha0 : 0 < a) (ha : a ≤ 1000000) (hd1 : 1 ≤ d) (hd : d ≤ 1000000) (hr : FracMath.rightB (-(a : Int)) d = true) (q r : Nat) (hq : a / d = q) (hrm : a % d = r) (X Y Z : ByteArray) (hX : (⟨(Lib.decDigits q).toArray⟩ : ByteArray) = X) (hY : (⟨(Lib.decDigits r).toArray⟩ : ByteArray) = Y) (hZ : (⟨(Lib.decDigits d).toArray⟩ : ByteArray) = Z) (T : ByteArray) (hT : (if r = 0 then ⟨#[45]⟩ ++ X else if a < d then ⟨#[45]⟩ ++ (Y ++ ⟨#[47]⟩ ++ Z) else ⟨#[45]⟩ ++ X ++ ⟨#[32]⟩ ++ (Y ++ ⟨#[47]⟩ ++ Z)) = T) (w : World) (G : Gf w) :
    Calls Tryd.prog 26 #[.agg #[.int .i64 (-(a : Int)), .int .i64 (d : Nat)]] w fun e w' => e = .returned (.tuple #[.string T, .int .i64 0]) ∧ Below w.heap.size w w' := by
  have c := fun W => check_any (-(a : Int)) d W
  rw [chk_yes hr] at c
  have C := Lib.hid c
  have hqi : q ≤ 1000000 := by rw [← hq]; exact Nat.le_trans (Nat.div_le_self _ _) ha
  have hri : r ≤ 1000000 := by rw [← hrm]; exact Nat.le_trans (Nat.mod_le _ _) ha
  have i1 := fun W g => itoa_nat q hqi W g
  have i2 := fun W g => itoa_nat r hri W g
  have i3 := fun W g => itoa_nat d hd W g
  have sX := dec_size q hqi
  have sY := dec_size r hri
  have sZ := dec_size d hd
  rw [hX] at i1 sX
  rw [hY] at i2 sY
  rw [hZ] at i3 sZ
  have I1 := Lib.hid i1
  have I2 := Lib.hid i2
  have I3 := Lib.hid i3
  have GW0 := Lib.hid (fun W (hb : Below w.heap.size w W) => G.below hb)
  have e1 : (a : Int).tdiv (d : Int) = (q : Int) := by rw [← hq, Int.tdiv_eq_ediv_of_nonneg (by omega)]; omega
  have e2 : (a : Int).tmod (d : Int) = (r : Int) := by rw [← hrm, Int.tmod_eq_emod_of_nonneg (by omega)]; omega
  have e3 : (a : Int) / (d : Int) = (q : Int) := by rw [← hq]; omega
  have e4 : (a : Int) % (d : Int) = (r : Int) := by rw [← hrm]; omega
  have hdne : ¬ d = 0 := by omega
  have nl1 : (9223372036854775807 < Y.size + 1) = False := eq_false (by omega)
  have nl2 : (9223372036854775807 < Y.size + 1 + Z.size) = False := eq_false (by omega)
  have hqw : IntKind.i64.wrap (q : Int) = (q : Int) := by rw [IntKind.wrap_i64]; omega
  have hd0 : (0 : Int) < (d : Int) := by omega
  have hai : (a : Int) ≤ 1000000 := by omega
  have hdi : (d : Int) ≤ 1000000 := by omega
  have HT := Lib.hid hT
  clear c hT i1 i2 i3 hr hX hY hZ hq hrm
  go_enter Tryd.func26, Tryd.ntmps26
  go_wp2_with fail
  refine (C.out _).mono ?_
  rintro e W1 ⟨rfl, hb1⟩
  obtain ⟨b0, b1, bl, bf⟩ := (Two.new w (.int .i64 (-(a : Int))) (.int .i64 (d : Nat)) 27).below hb1
  have hw1 : Below w.heap.size w W1 := ((Below.refl _ _).alloc (Nat.le_refl _) _).trans (hb1.mono (by go_size))
  clear hb1
  go_wp2
  go_quiet (fail)
  go_upto_region 7 with fail
  obtain ⟨W0, hW0⟩ : ∃ W0, W1.drewN nq = W0 := ⟨_, rfl⟩
  have C1 := Lib.hid (show W0.cell? ⟨w.heap.size, 1, none⟩ = some (.int .i64 (d : Nat)) by rw [← hW0]; simpa using b1)
  have LB := Lib.hid (show w.heap.size < W0.heap.size by rw [← hW0]; simpa using bl)
  have hw0 : Below w.heap.size w W0 := by rw [← hW0]; exact below_drewN hw1 _
  have GW := Lib.hid (fun W (hb : Below W0.heap.size W0 W) => GW0.out W (hw0.trans (hb.mono hw0.size)))
  rw [hW0]
  clear hW0 b0 b1 bl bf GW0 C hw1
  obtain ⟨bx, hbx⟩ : ∃ bx, w.heap.size = bx := ⟨_, rfl⟩
  rw [hbx] at C1 LB hw0 ⊢
  have HBX := Lib.hid hbx
  clear hbx
  refine wp_region_slots_at rfl rfl (fun base ys => ((((((((((((((((base.set 20 (ys 0)).set 21 (ys 1)).set 22 (ys 2)).set 23 (ys 3)).set 24 (ys 4)).set 25 (ys 5)).set 26 (ys 6)).set 27 (ys 7)).set 28 (ys 8)).set 29 (ys 9)).set 30 (ys 10)).set 31 (ys 11)).set 32 (ys 12)).set 33 (ys 13)).set 34 (ys 14)).set 7 (ys 15)).set 8 (ys 16)) (BelowI 17 (Below W0.heap.size W0) (textInv bx a d q r X Y Z)) (fun j => match j with | 0 => undef | 1 => undef | 2 => undef | 3 => undef | 4 => undef | 5 => undef | 6 => undef | 7 => undef | 8 => undef | 9 => undef | 10 => undef | 11 => undef | 12 => undef | 13 => undef | 14 => undef | 15 => undef | 16 => undef | _ => undef) (by kernel_rfl) ?h0 ?h
  case h0 => exact ⟨(Below.refl _ _).drew, fun j hj hL => absurd (of_decide_eq_true hL) (by have : j < 17 := hj; show ¬ 17 ≤ j; omega)⟩
  case h =>
    intro F hF
    simp only [List.set_cons_succ, List.set_cons_zero] at hF
    subst hF
    refine ⟨rfl, ?_, ?_⟩
    refine ⟨?_, ?_⟩
    · refine SlotStep.below (fun A B hb h => h.trans (hb.mono h.size)) (fun j v A B hb h => h) ?_
      intro ys W hR hd K hK
      go_simp
      have hK2 := hK (.int .i64 (a : Nat)) _ (Below.refl _ _) rfl
      simp (config := { decide := true }) only [upd, if_true, if_false] at hK2
      exact hK2
    refine ⟨?_, ?_⟩
    · refine SlotStep.below (fun A B hb h => h.trans (hb.mono h.size)) (fun j v A B hb h => h) ?_
      intro ys W hR hd K hK
      go_simp
      have hK2 := hK (.pointer (some ⟨bx, 1, none⟩)) _ (Below.refl _ _) rfl
      simp (config := { decide := true }) only [upd, if_true, if_false] at hK2
      exact hK2
    refine ⟨?_, ?_⟩
    · refine SlotStep.below (fun A B hb h => h.trans (hb.mono h.size)) (fun j v A B hb h => h) ?_
      intro ys W hR hd K hK
      have d1 : ys 1 = .pointer (some ⟨bx, 1, none⟩) := hd 1 (by kernel_rfl) (by decide)
      have c1 := (hR.cell (p := ⟨bx, 1, none⟩) LB.out).trans C1.out
      go_simp
      have hK2 := hK (.int .i64 (d : Nat)) _ (Below.refl _ _) rfl
      simp (config := { decide := true }) only [upd, if_true, if_false, d1] at hK2
      exact hK2
    refine ⟨?_, ?_⟩
    · refine SlotStep.below (fun A B hb h => h.trans (hb.mono h.size)) (fun j v A B hb h => h) ?_
      intro ys W hR hd K hK
      have d0 : ys 0 = .int .i64 (a : Nat) := hd 0 (by kernel_rfl) (by decide)
      have d2 : ys 2 = .int .i64 (d : Nat) := hd 2 (by kernel_rfl) (by decide)
      go_simp
      have hK2 := hK (.int .i64 (q : Nat)) _ (Below.refl _ _) rfl
      simp (config := { decide := true }) only [upd, if_true, if_false, d0, d2] at hK2
      exact hK2
    refine ⟨?_, ?_⟩
    · refine SlotStep.below (fun A B hb h => h.trans (hb.mono h.size)) (fun j v A B hb h => h) ?_
      intro ys W hR hd K hK
      have d3 : ys 3 = .int .i64 (q : Nat) := hd 3 (by kernel_rfl) (by decide)
      go_simp
      refine (I1.out W (GW.out W hR)).mono ?_
      rintro e' W' ⟨rfl, hb⟩
      have hK2 := hK (.string X) _ hb rfl
      simp (config := { decide := true }) only [upd, if_true, if_false, d3] at hK2
      exact hK2
    refine ⟨?_, ?_⟩
    · refine SlotStep.below (fun A B hb h => h.trans (hb.mono h.size)) (fun j v A B hb h => h) ?_
      intro ys W hR hd K hK
      go_simp
      have hK2 := hK (.int .i64 (a : Nat)) _ (Below.refl _ _) rfl
      simp (config := { decide := true }) only [upd, if_true, if_false] at hK2
      exact hK2
    refine ⟨?_, ?_⟩
    · refine SlotStep.below (fun A B hb h => h.trans (hb.mono h.size)) (fun j v A B hb h => h) ?_
      intro ys W hR hd K hK
      go_simp
      have hK2 := hK (.pointer (some ⟨bx, 1, none⟩)) _ (Below.refl _ _) rfl
      simp (config := { decide := true }) only [upd, if_true, if_false] at hK2
      exact hK2
    refine ⟨?_, ?_⟩
    · refine SlotStep.below (fun A B hb h => h.trans (hb.mono h.size)) (fun j v A B hb h => h) ?_
      intro ys W hR hd K hK
      have d6 : ys 6 = .pointer (some ⟨bx, 1, none⟩) := hd 6 (by kernel_rfl) (by decide)
      have c1 := (hR.cell (p := ⟨bx, 1, none⟩) LB.out).trans C1.out
      go_simp
      have hK2 := hK (.int .i64 (d : Nat)) _ (Below.refl _ _) rfl
      simp (config := { decide := true }) only [upd, if_true, if_false, d6] at hK2
      exact hK2
    refine ⟨?_, ?_⟩
    · refine SlotStep.below (fun A B hb h => h.trans (hb.mono h.size)) (fun j v A B hb h => h) ?_
      intro ys W hR hd K hK
      have d5 : ys 5 = .int .i64 (a : Nat) := hd 5 (by kernel_rfl) (by decide)
      have d7 : ys 7 = .int .i64 (d : Nat) := hd 7 (by kernel_rfl) (by decide)
      go_simp
      have hK2 := hK (.int .i64 (r : Nat)) _ (Below.refl _ _) rfl
      simp (config := { decide := true }) only [upd, if_true, if_false, d5, d7] at hK2
      exact hK2
    refine ⟨?_, ?_⟩
    · refine SlotStep.below (fun A B hb h => h.trans (hb.mono h.size)) (fun j v A B hb h => h) ?_
      intro ys W hR hd K hK
      have d8 : ys 8 = .int .i64 (r : Nat) := hd 8 (by kernel_rfl) (by decide)
      go_simp
      refine (I2.out W (GW.out W hR)).mono ?_
      rintro e' W' ⟨rfl, hb⟩
      have hK2 := hK (.string Y) _ hb rfl
      simp (config := { decide := true }) only [upd, if_true, if_false, d8] at hK2
      exact hK2
    refine ⟨?_, ?_⟩
    · refine SlotStep.below (fun A B hb h => h.trans (hb.mono h.size)) (fun j v A B hb h => h) ?_
      intro ys W hR hd K hK
      have d9 : ys 9 = .string Y := hd 9 (by kernel_rfl) (by decide)
      go_simp
      have hK2 := hK (.string (Y ++ (⟨#[47]⟩ : ByteArray))) _ (Below.refl _ _) rfl
      simp (config := { decide := true }) only [upd, if_true, if_false, d9] at hK2
      exact hK2
    refine ⟨?_, ?_⟩
    · refine SlotStep.below (fun A B hb h => h.trans (hb.mono h.size)) (fun j v A B hb h => h) ?_
      intro ys W hR hd K hK
      go_simp
      have hK2 := hK (.pointer (some ⟨bx, 1, none⟩)) _ (Below.refl _ _) rfl
      simp (config := { decide := true }) only [upd, if_true, if_false] at hK2
      exact hK2
    refine ⟨?_, ?_⟩
    · refine SlotStep.below (fun A B hb h => h.trans (hb.mono h.size)) (fun j v A B hb h => h) ?_
      intro ys W hR hd K hK
      have d11 : ys 11 = .pointer (some ⟨bx, 1, none⟩) := hd 11 (by kernel_rfl) (by decide)
      have c1 := (hR.cell (p := ⟨bx, 1, none⟩) LB.out).trans C1.out
      go_simp
      have hK2 := hK (.int .i64 (d : Nat)) _ (Below.refl _ _) rfl
      simp (config := { decide := true }) only [upd, if_true, if_false, d11] at hK2
      exact hK2
    refine ⟨?_, ?_⟩
    · refine SlotStep.below (fun A B hb h => h.trans (hb.mono h.size)) (fun j v A B hb h => h) ?_
      intro ys W hR hd K hK
      have d12 : ys 12 = .int .i64 (d : Nat) := hd 12 (by kernel_rfl) (by decide)
      go_simp
      refine (I3.out W (GW.out W hR)).mono ?_
      rintro e' W' ⟨rfl, hb⟩
      have hK2 := hK (.string Z) _ hb rfl
      simp (config := { decide := true }) only [upd, if_true, if_false, d12] at hK2
      exact hK2
    refine ⟨?_, ?_⟩
    · refine SlotStep.below (fun A B hb h => h.trans (hb.mono h.size)) (fun j v A B hb h => h) ?_
      intro ys W hR hd K hK
      have d10 : ys 10 = .string (Y ++ (⟨#[47]⟩ : ByteArray)) := hd 10 (by kernel_rfl) (by decide)
      have d13 : ys 13 = .string Z := hd 13 (by kernel_rfl) (by decide)
      go_simp
      have hK2 := hK (.string (Y ++ (⟨#[47]⟩ : ByteArray) ++ Z)) _ (Below.refl _ _) rfl
      simp (config := { decide := true }) only [upd, if_true, if_false, d10, d13] at hK2
      exact hK2
    refine ⟨?_, ?_⟩
    · refine SlotStep.below (fun A B hb h => h.trans (hb.mono h.size)) (fun j v A B hb h => h) ?_
      intro ys W hR hd K hK
      have d4 : ys 4 = .string X := hd 4 (by kernel_rfl) (by decide)
      go_simp
      have hK2 := hK (.string X) _ (Below.refl _ _) rfl
      simp (config := { decide := true }) only [upd, if_true, if_false, d4] at hK2
      exact hK2
    refine ⟨?_, ?_⟩
    · refine SlotStep.below (fun A B hb h => h.trans (hb.mono h.size)) (fun j v A B hb h => h) ?_
      intro ys W hR hd K hK
      have d14 : ys 14 = .string (Y ++ (⟨#[47]⟩ : ByteArray) ++ Z) := hd 14 (by kernel_rfl) (by decide)
      go_simp
      have hK2 := hK (.string (Y ++ (⟨#[47]⟩ : ByteArray) ++ Z)) _ (Below.refl _ _) rfl
      simp (config := { decide := true }) only [upd, if_true, if_false, d14] at hK2
      exact hK2
    trivial
    intro L2 ys W hL2 hI
    obtain ⟨hbW, hv⟩ := hI
    have y15 : ys 15 = .string X := hv 15 (by decide) (hL2 15 (by decide))
    have y16 : ys 16 = .string (Y ++ (⟨#[47]⟩ : ByteArray) ++ Z) := hv 16 (by decide) (hL2 16 (by decide))
    simp only [y15, y16]
    clear hL2 hv y15 y16
    have b1 := (hbW.cell (p := ⟨bx, 1, none⟩) LB.out).trans C1.out
    have hw2 := hw0.trans (hbW.mono (Nat.le_of_lt LB.out))
    clear C1 LB hbW hw0 I1 I2 I3 GW
    by_cases hm : r = 0
    · have t1 : ((r : Int) == 0) = true := by rw [hm]; rfl
      have ht := HT.out
      rw [if_pos hm] at ht
      have HU := Lib.hid ht
      clear ht
      go_wp2
      go_ret2
      exact ⟨ret_text HU.out, by rw [HBX.out]; exact hw2⟩
    · have t1 : ((r : Int) == 0) = false := by rw [beq_eq_false_iff_ne]; omega
      have ht := HT.out
      rw [if_neg hm] at ht
      by_cases hl : a < d
      · rw [if_pos hl] at ht
        have HU := Lib.hid ht
        clear ht
        go_wp2
        go_ret2
        exact ⟨ret_text HU.out, by rw [HBX.out]; exact hw2⟩
      · rw [if_neg hl] at ht
        have HU := Lib.hid ht
        clear ht
        go_wp2
        go_ret2
        exact ⟨ret_text HU.out, by rw [HBX.out]; exact hw2⟩

set_option maxRecDepth 100000 in
set_option maxHeartbeats 2000000 in
theorem text_pos (a d : Nat) (ha : a ≤ 1000000) (hd1 : 1 ≤ d) (hd : d ≤ 1000000) (hr : FracMath.rightB ((a : Int)) d = true) (q r : Nat) (hq : a / d = q) (hrm : a % d = r) (X Y Z : ByteArray) (hX : (⟨(Lib.decDigits q).toArray⟩ : ByteArray) = X) (hY : (⟨(Lib.decDigits r).toArray⟩ : ByteArray) = Y) (hZ : (⟨(Lib.decDigits d).toArray⟩ : ByteArray) = Z) (T : ByteArray) (hT : (if r = 0 then X else if a < d then Y ++ ⟨#[47]⟩ ++ Z else X ++ ⟨#[32]⟩ ++ (Y ++ ⟨#[47]⟩ ++ Z)) = T) (w : World) (G : Gf w) :
    Calls Tryd.prog 26 #[.agg #[.int .i64 ((a : Int)), .int .i64 (d : Nat)]] w fun e w' => e = .returned (.tuple #[.string T, .int .i64 0]) ∧ Below w.heap.size w w' := by
  have c := fun W => check_any ((a : Int)) d W
  rw [chk_yes hr] at c
  have C := Lib.hid c
  have hqi : q ≤ 1000000 := by rw [← hq]; exact Nat.le_trans (Nat.div_le_self _ _) ha
  have hri : r ≤ 1000000 := by rw [← hrm]; exact Nat.le_trans (Nat.mod_le _ _) ha
  have i1 := fun W g => itoa_nat q hqi W g
  have i2 := fun W g => itoa_nat r hri W g
  have i3 := fun W g => itoa_nat d hd W g
  have sX := dec_size q hqi
  have sY := dec_size r hri
  have sZ := dec_size d hd
  rw [hX] at i1 sX
  rw [hY] at i2 sY
  rw [hZ] at i3 sZ
  have I1 := Lib.hid i1
  have I2 := Lib.hid i2
  have I3 := Lib.hid i3
  have GW0 := Lib.hid (fun W (hb : Below w.heap.size w W) => G.below hb)
  have e1 : (a : Int).tdiv (d : Int) = (q : Int) := by rw [← hq, Int.tdiv_eq_ediv_of_nonneg (by omega)]; omega
  have e2 : (a : Int).tmod (d : Int) = (r : Int) := by rw [← hrm, Int.tmod_eq_emod_of_nonneg (by omega)]; omega
  have e3 : (a : Int) / (d : Int) = (q : Int) := by rw [← hq]; omega
  have e4 : (a : Int) % (d : Int) = (r : Int) := by rw [← hrm]; omega
  have hdne : ¬ d = 0 := by omega
  have nl1 : (9223372036854775807 < Y.size + 1) = False := eq_false (by omega)
  have nl2 : (9223372036854775807 < Y.size + 1 + Z.size) = False := eq_false (by omega)
  have hqw : IntKind.i64.wrap (q : Int) = (q : Int) := by rw [IntKind.wrap_i64]; omega
  have hd0 : (0 : Int) < (d : Int) := by omega
  have hai : (a : Int) ≤ 1000000 := by omega
  have hdi : (d : Int) ≤ 1000000 := by omega
  have HT := Lib.hid hT
  clear c hT i1 i2 i3 hr hX hY hZ hq hrm
  go_enter Tryd.func26, Tryd.ntmps26
  go_wp2_with fail
  refine (C.out _).mono ?_
  rintro e W1 ⟨rfl, hb1⟩
  obtain ⟨b0, b1, bl, bf⟩ := (Two.new w (.int .i64 ((a : Int))) (.int .i64 (d : Nat)) 27).below hb1
  have hw1 : Below w.heap.size w W1 := ((Below.refl _ _).alloc (Nat.le_refl _) _).trans (hb1.mono (by go_size))
  clear hb1
  go_wp2
  go_quiet (fail)
  go_upto_region 7 with fail
  obtain ⟨W0, hW0⟩ : ∃ W0, W1.drewN nq = W0 := ⟨_, rfl⟩
  have C1 := Lib.hid (show W0.cell? ⟨w.heap.size, 1, none⟩ = some (.int .i64 (d : Nat)) by rw [← hW0]; simpa using b1)
  have LB := Lib.hid (show w.heap.size < W0.heap.size by rw [← hW0]; simpa using bl)
  have hw0 : Below w.heap.size w W0 := by rw [← hW0]; exact below_drewN hw1 _
  have GW := Lib.hid (fun W (hb : Below W0.heap.size W0 W) => GW0.out W (hw0.trans (hb.mono hw0.size)))
  rw [hW0]
  clear hW0 b0 b1 bl bf GW0 C hw1
  obtain ⟨bx, hbx⟩ : ∃ bx, w.heap.size = bx := ⟨_, rfl⟩
  rw [hbx] at C1 LB hw0 ⊢
  have HBX := Lib.hid hbx
  clear hbx
  refine wp_region_slots_at rfl rfl (fun base ys => ((((((((((((((((base.set 20 (ys 0)).set 21 (ys 1)).set 22 (ys 2)).set 23 (ys 3)).set 24 (ys 4)).set 25 (ys 5)).set 26 (ys 6)).set 27 (ys 7)).set 28 (ys 8)).set 29 (ys 9)).set 30 (ys 10)).set 31 (ys 11)).set 32 (ys 12)).set 33 (ys 13)).set 34 (ys 14)).set 7 (ys 15)).set 8 (ys 16)) (BelowI 17 (Below W0.heap.size W0) (textInv bx a d q r X Y Z)) (fun j => match j with | 0 => undef | 1 => undef | 2 => undef | 3 => undef | 4 => undef | 5 => undef | 6 => undef | 7 => undef | 8 => undef | 9 => undef | 10 => undef | 11 => undef | 12 => undef | 13 => undef | 14 => undef | 15 => undef | 16 => undef | _ => undef) (by kernel_rfl) ?h0 ?h
  case h0 => exact ⟨(Below.refl _ _).drew, fun j hj hL => absurd (of_decide_eq_true hL) (by have : j < 17 := hj; show ¬ 17 ≤ j; omega)⟩
  case h =>
    intro F hF
    simp only [List.set_cons_succ, List.set_cons_zero] at hF
    subst hF
    refine ⟨rfl, ?_, ?_⟩
    refine ⟨?_, ?_⟩
    · refine SlotStep.below (fun A B hb h => h.trans (hb.mono h.size)) (fun j v A B hb h => h) ?_
      intro ys W hR hd K hK
      go_simp
      have hK2 := hK (.int .i64 (a : Nat)) _ (Below.refl _ _) rfl
      simp (config := { decide := true }) only [upd, if_true, if_false] at hK2
      exact hK2
    refine ⟨?_, ?_⟩
    · refine SlotStep.below (fun A B hb h => h.trans (hb.mono h.size)) (fun j v A B hb h => h) ?_
      intro ys W hR hd K hK
      go_simp
      have hK2 := hK (.pointer (some ⟨bx, 1, none⟩)) _ (Below.refl _ _) rfl
      simp (config := { decide := true }) only [upd, if_true, if_false] at hK2
      exact hK2
    refine ⟨?_, ?_⟩
    · refine SlotStep.below (fun A B hb h => h.trans (hb.mono h.size)) (fun j v A B hb h => h) ?_
      intro ys W hR hd K hK
      have d1 : ys 1 = .pointer (some ⟨bx, 1, none⟩) := hd 1 (by kernel_rfl) (by decide)
      have c1 := (hR.cell (p := ⟨bx, 1, none⟩) LB.out).trans C1.out
      go_simp
      have hK2 := hK (.int .i64 (d : Nat)) _ (Below.refl _ _) rfl
      simp (config := { decide := true }) only [upd, if_true, if_false, d1] at hK2
      exact hK2
    refine ⟨?_, ?_⟩
    · refine SlotStep.below (fun A B hb h => h.trans (hb.mono h.size)) (fun j v A B hb h => h) ?_
      intro ys W hR hd K hK
      have d0 : ys 0 = .int .i64 (a : Nat) := hd 0 (by kernel_rfl) (by decide)
      have d2 : ys 2 = .int .i64 (d : Nat) := hd 2 (by kernel_rfl) (by decide)
      go_simp
      have hK2 := hK (.int .i64 (q : Nat)) _ (Below.refl _ _) rfl
      simp (config := { decide := true }) only [upd, if_true, if_false, d0, d2] at hK2
      exact hK2
    refine ⟨?_, ?_⟩
    · refine SlotStep.below (fun A B hb h => h.trans (hb.mono h.size)) (fun j v A B hb h => h) ?_
      intro ys W hR hd K hK
      have d3 : ys 3 = .int .i64 (q : Nat) := hd 3 (by kernel_rfl) (by decide)
      go_simp
      refine (I1.out W (GW.out W hR)).mono ?_
      rintro e' W' ⟨rfl, hb⟩
      have hK2 := hK (.string X) _ hb rfl
      simp (config := { decide := true }) only [upd, if_true, if_false, d3] at hK2
      exact hK2
    refine ⟨?_, ?_⟩
    · refine SlotStep.below (fun A B hb h => h.trans (hb.mono h.size)) (fun j v A B hb h => h) ?_
      intro ys W hR hd K hK
      go_simp
      have hK2 := hK (.int .i64 (a : Nat)) _ (Below.refl _ _) rfl
      simp (config := { decide := true }) only [upd, if_true, if_false] at hK2
      exact hK2
    refine ⟨?_, ?_⟩
    · refine SlotStep.below (fun A B hb h => h.trans (hb.mono h.size)) (fun j v A B hb h => h) ?_
      intro ys W hR hd K hK
      go_simp
      have hK2 := hK (.pointer (some ⟨bx, 1, none⟩)) _ (Below.refl _ _) rfl
      simp (config := { decide := true }) only [upd, if_true, if_false] at hK2
      exact hK2
    refine ⟨?_, ?_⟩
    · refine SlotStep.below (fun A B hb h => h.trans (hb.mono h.size)) (fun j v A B hb h => h) ?_
      intro ys W hR hd K hK
      have d6 : ys 6 = .pointer (some ⟨bx, 1, none⟩) := hd 6 (by kernel_rfl) (by decide)
      have c1 := (hR.cell (p := ⟨bx, 1, none⟩) LB.out).trans C1.out
      go_simp
      have hK2 := hK (.int .i64 (d : Nat)) _ (Below.refl _ _) rfl
      simp (config := { decide := true }) only [upd, if_true, if_false, d6] at hK2
      exact hK2
    refine ⟨?_, ?_⟩
    · refine SlotStep.below (fun A B hb h => h.trans (hb.mono h.size)) (fun j v A B hb h => h) ?_
      intro ys W hR hd K hK
      have d5 : ys 5 = .int .i64 (a : Nat) := hd 5 (by kernel_rfl) (by decide)
      have d7 : ys 7 = .int .i64 (d : Nat) := hd 7 (by kernel_rfl) (by decide)
      go_simp
      have hK2 := hK (.int .i64 (r : Nat)) _ (Below.refl _ _) rfl
      simp (config := { decide := true }) only [upd, if_true, if_false, d5, d7] at hK2
      exact hK2
    refine ⟨?_, ?_⟩
    · refine SlotStep.below (fun A B hb h => h.trans (hb.mono h.size)) (fun j v A B hb h => h) ?_
      intro ys W hR hd K hK
      have d8 : ys 8 = .int .i64 (r : Nat) := hd 8 (by kernel_rfl) (by decide)
      go_simp
      refine (I2.out W (GW.out W hR)).mono ?_
      rintro e' W' ⟨rfl, hb⟩
      have hK2 := hK (.string Y) _ hb rfl
      simp (config := { decide := true }) only [upd, if_true, if_false, d8] at hK2
      exact hK2
    refine ⟨?_, ?_⟩
    · refine SlotStep.below (fun A B hb h => h.trans (hb.mono h.size)) (fun j v A B hb h => h) ?_
      intro ys W hR hd K hK
      have d9 : ys 9 = .string Y := hd 9 (by kernel_rfl) (by decide)
      go_simp
      have hK2 := hK (.string (Y ++ (⟨#[47]⟩ : ByteArray))) _ (Below.refl _ _) rfl
      simp (config := { decide := true }) only [upd, if_true, if_false, d9] at hK2
      exact hK2
    refine ⟨?_, ?_⟩
    · refine SlotStep.below (fun A B hb h => h.trans (hb.mono h.size)) (fun j v A B hb h => h) ?_
      intro ys W hR hd K hK
      go_simp
      have hK2 := hK (.pointer (some ⟨bx, 1, none⟩)) _ (Below.refl _ _) rfl
      simp (config := { decide := true }) only [upd, if_true, if_false] at hK2
      exact hK2
    refine ⟨?_, ?_⟩
    · refine SlotStep.below (fun A B hb h => h.trans (hb.mono h.size)) (fun j v A B hb h => h) ?_
      intro ys W hR hd K hK
      have d11 : ys 11 = .pointer (some ⟨bx, 1, none⟩) := hd 11 (by kernel_rfl) (by decide)
      have c1 := (hR.cell (p := ⟨bx, 1, none⟩) LB.out).trans C1.out
      go_simp
      have hK2 := hK (.int .i64 (d : Nat)) _ (Below.refl _ _) rfl
      simp (config := { decide := true }) only [upd, if_true, if_false, d11] at hK2
      exact hK2
    refine ⟨?_, ?_⟩
    · refine SlotStep.below (fun A B hb h => h.trans (hb.mono h.size)) (fun j v A B hb h => h) ?_
      intro ys W hR hd K hK
      have d12 : ys 12 = .int .i64 (d : Nat) := hd 12 (by kernel_rfl) (by decide)
      go_simp
      refine (I3.out W (GW.out W hR)).mono ?_
      rintro e' W' ⟨rfl, hb⟩
      have hK2 := hK (.string Z) _ hb rfl
      simp (config := { decide := true }) only [upd, if_true, if_false, d12] at hK2
      exact hK2
    refine ⟨?_, ?_⟩
    · refine SlotStep.below (fun A B hb h => h.trans (hb.mono h.size)) (fun j v A B hb h => h) ?_
      intro ys W hR hd K hK
      have d10 : ys 10 = .string (Y ++ (⟨#[47]⟩ : ByteArray)) := hd 10 (by kernel_rfl) (by decide)
      have d13 : ys 13 = .string Z := hd 13 (by kernel_rfl) (by decide)
      go_simp
      have hK2 := hK (.string (Y ++ (⟨#[47]⟩ : ByteArray) ++ Z)) _ (Below.refl _ _) rfl
      simp (config := { decide := true }) only [upd, if_true, if_false, d10, d13] at hK2
      exact hK2
    refine ⟨?_, ?_⟩
    · refine SlotStep.below (fun A B hb h => h.trans (hb.mono h.size)) (fun j v A B hb h => h) ?_
      intro ys W hR hd K hK
      have d4 : ys 4 = .string X := hd 4 (by kernel_rfl) (by decide)
      go_simp
      have hK2 := hK (.string X) _ (Below.refl _ _) rfl
      simp (config := { decide := true }) only [upd, if_true, if_false, d4] at hK2
      exact hK2
    refine ⟨?_, ?_⟩
    · refine SlotStep.below (fun A B hb h => h.trans (hb.mono h.size)) (fun j v A B hb h => h) ?_
      intro ys W hR hd K hK
      have d14 : ys 14 = .string (Y ++ (⟨#[47]⟩ : ByteArray) ++ Z) := hd 14 (by kernel_rfl) (by decide)
      go_simp
      have hK2 := hK (.string (Y ++ (⟨#[47]⟩ : ByteArray) ++ Z)) _ (Below.refl _ _) rfl
      simp (config := { decide := true }) only [upd, if_true, if_false, d14] at hK2
      exact hK2
    trivial
    intro L2 ys W hL2 hI
    obtain ⟨hbW, hv⟩ := hI
    have y15 : ys 15 = .string X := hv 15 (by decide) (hL2 15 (by decide))
    have y16 : ys 16 = .string (Y ++ (⟨#[47]⟩ : ByteArray) ++ Z) := hv 16 (by decide) (hL2 16 (by decide))
    simp only [y15, y16]
    clear hL2 hv y15 y16
    have b1 := (hbW.cell (p := ⟨bx, 1, none⟩) LB.out).trans C1.out
    have hw2 := hw0.trans (hbW.mono (Nat.le_of_lt LB.out))
    clear C1 LB hbW hw0 I1 I2 I3 GW
    by_cases hm : r = 0
    · have t1 : ((r : Int) == 0) = true := by rw [hm]; rfl
      have ht := HT.out
      rw [if_pos hm] at ht
      have HU := Lib.hid ht
      clear ht
      go_wp2
      go_ret2
      exact ⟨ret_text HU.out, by rw [HBX.out]; exact hw2⟩
    · have t1 : ((r : Int) == 0) = false := by rw [beq_eq_false_iff_ne]; omega
      have ht := HT.out
      rw [if_neg hm] at ht
      by_cases hl : a < d
      · rw [if_pos hl] at ht
        have HU := Lib.hid ht
        clear ht
        go_wp2
        go_ret2
        exact ⟨ret_text HU.out, by rw [HBX.out]; exact hw2⟩
      · rw [if_neg hl] at ht
        have HU := Lib.hid ht
        clear ht
        go_wp2
        go_ret2
        exact ⟨ret_text HU.out, by rw [HBX.out]; exact hw2⟩

end Go.Proofs.YtoeacbmlodfciaaDoor
