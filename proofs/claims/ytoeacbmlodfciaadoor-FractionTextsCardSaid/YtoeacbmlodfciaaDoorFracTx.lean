/- FractionTexts: the law's walk. -/
import Derived.Test.YtoeacbmlodfciaaDoorFracTc
import Derived.Test.YtoeacbmlodfciaaDoorFracPs
namespace Go.Proofs.YtoeacbmlodfciaaDoor
open Go Go.RowKit Go.Shelf

theorem rtext_any (n d : Int) (hr : FracMath.rightB n d = true) (w : World) :
    Calls Tryd.prog 28 #[.agg #[.int .i64 n, .int .i64 d]] w fun e w' => e = .returned (.string ⟨(FracMath.textL n d.toNat).toArray⟩) ∧ Below w.heap.size w w' := by
  obtain ⟨h1, h2, h3, h4, h5⟩ := FracMath.right_of hr
  obtain ⟨e, he⟩ : ∃ e : Nat, d = e := ⟨d.toNat, by omega⟩
  subst he
  rw [Int.toNat_natCast]
  obtain ⟨a, ha⟩ : ∃ a, n.natAbs = a := ⟨_, rfl⟩
  have hb : ∀ l m : List UInt8, (⟨l.toArray⟩ : ByteArray) ++ ⟨m.toArray⟩ = ⟨(l ++ m).toArray⟩ := bytes_append
  have e45 : (⟨#[45]⟩ : ByteArray) = ⟨[(45 : UInt8)].toArray⟩ := rfl
  have e47 : (⟨#[47]⟩ : ByteArray) = ⟨[(47 : UInt8)].toArray⟩ := rfl
  have e32 : (⟨#[32]⟩ : ByteArray) = ⟨[(32 : UInt8)].toArray⟩ := rfl
  have e0 : (⟨#[]⟩ : ByteArray) = ⟨([] : List UInt8).toArray⟩ := rfl
  have hq : ¬ a < e → 0 < a / e := fun h => Nat.div_pos (by omega) (by omega)
  by_cases hn : n < 0
  · have e : n = -(a : Int) := by omega
    subst e
    unfold FracMath.textL FracMath.textM
    rw [if_pos hn, ha]
    by_cases hm : a % e = 0
    · rw [if_pos hm]
      exact rtext_whole_neg a e (by omega) (by omega) (by omega) (by omega) _ _ rfl rfl hm _ _ _ rfl rfl rfl _ (by rw [e45, hb]; rfl) w
    · rw [if_neg hm]
      by_cases hl : a < e
      · rw [if_pos hl]
        exact rtext_frac_neg a e (by omega) (by omega) (by omega) (by omega) _ _ rfl rfl (Nat.pos_of_ne_zero hm) (Nat.div_eq_of_lt hl) _ _ _ rfl rfl rfl _ (by rw [e45, e47]; simp only [hb]; simp) w
      · rw [if_neg hl]
        exact rtext_mixed_neg a e (by omega) (by omega) (by omega) (by omega) _ _ rfl rfl (Nat.pos_of_ne_zero hm) (hq hl) _ _ _ rfl rfl rfl _ (by rw [e45, e47, e32]; simp only [hb]; simp) w
  · have e : n = (a : Int) := by omega
    subst e
    unfold FracMath.textL FracMath.textM
    rw [if_neg hn, ha]
    by_cases hm : a % e = 0
    · rw [if_pos hm]
      exact rtext_whole_pos a e (by omega) (by omega) (by omega) _ _ rfl rfl hm _ _ _ rfl rfl rfl _ (by rw [e0, hb]; rfl) w
    · rw [if_neg hm]
      by_cases hl : a < e
      · rw [if_pos hl]
        exact rtext_frac_pos a e (by omega) (by omega) (by omega) _ _ rfl rfl (Nat.pos_of_ne_zero hm) (Nat.div_eq_of_lt hl) _ _ _ rfl rfl rfl _ (by rw [e0, e47]; simp only [hb]; simp) w
      · rw [if_neg hl]
        exact rtext_mixed_pos a e (by omega) (by omega) (by omega) _ _ rfl rfl (Nat.pos_of_ne_zero hm) (hq hl) _ _ _ rfl rfl rfl _ (by rw [e0, e47, e32]; simp only [hb]; simp) w

set_option maxHeartbeats 1000000 in
theorem texts_wrong (n d : Int) (hr : FracMath.rightB n d = false) (w : World) :
    Calls Tryd.prog 7 #[.agg #[.int .i64 n, .int .i64 d]] w fun e w' => e = .returned (.bool true) ∧ Below w.heap.size w w' := by
  have K := Lib.hid (fun W => known_any W)
  have c := fun W => ref_right_any n d W
  rw [hr] at c
  have C := Lib.hid c
  clear c hr
  go_enter Tryd.func7, Tryd.ntmps7
  go_wp2_with fail
  refine (K.out _).mono ?_
  rintro e w1 ⟨rfl, hb1⟩
  obtain ⟨b0, b1, bl, bf⟩ := (Two.new w (.int .i64 n) (.int .i64 d) 27).below hb1
  have hw1 := ((Below.refl _ w).alloc (Nat.le_refl _) (.cells #[.int .i64 n, .int .i64 d] 27)).trans (hb1.mono (by simp))
  go_wp2_with fail
  refine (C.out _).mono ?_
  rintro e w2 ⟨rfl, hb2⟩
  go_wp2_with fail
  refine (K.out _).mono ?_
  rintro e w3 ⟨rfl, hb3⟩
  go_wp2
  go_ret
  exact ⟨rfl, (hw1.trans (hb2.mono hw1.size)).trans (hb3.mono (Nat.le_trans hw1.size hb2.size))⟩

set_option maxRecDepth 100000 in
set_option maxHeartbeats 2000000 in
theorem texts_right (n d : Int) (hr : FracMath.rightB n d = true) (w : World) (G : Gf w) :
    Calls Tryd.prog 7 #[.agg #[.int .i64 n, .int .i64 d]] w fun e w' => e = .returned (.bool true) ∧ Below w.heap.size w w' := by
  have K := Lib.hid (fun W => known_any W)
  have c := fun W => ref_right_any n d W
  rw [hr] at c
  have C := Lib.hid c
  have hback := FracMath.text_back hr
  obtain ⟨T, hT⟩ : ∃ T : ByteArray, ⟨(FracMath.textL n d.toNat).toArray⟩ = T := ⟨_, rfl⟩
  have t1 := fun W g => text_any n d hr W g
  have t2 := fun W => rtext_any n d hr W
  rw [hT] at t1 t2
  have hTl : T.data.toList = FracMath.textL n d.toNat := by rw [← hT]
  have hTs : T.size ≤ 1048576 := by
    rw [← size_list, hTl]
    obtain ⟨h1, h2, h3, h4, h5⟩ := FracMath.right_of hr
    have := (FracMath.textM_len n.natAbs d.toNat (by omega) (by omega) (by omega)).1
    unfold FracMath.textL
    split
    · simp; omega
    · omega
  have T1 := Lib.hid t1
  have T2 := Lib.hid t2
  have T3 := Lib.hid (fun W => parse_any T hTs n d 0 (by rw [hTl]; exact hback) W)
  clear c hr hback hT t1 t2 hTl
  go_enter Tryd.func7, Tryd.ntmps7
  go_wp2_with fail
  refine (K.out _).mono ?_
  rintro e w1 ⟨rfl, hb1⟩
  have x1 := (FAt.new w n d).call hb1
  have hw1 := ((Below.refl _ w).alloc (Nat.le_refl _) (.cells #[.int .i64 n, .int .i64 d] 27)).trans (hb1.mono (by simp))
  have c0 := x1.fst
  have c1 := x1.snd
  go_wp2_with fail
  refine (C.out _).mono ?_
  rintro e w2 ⟨rfl, hb2⟩
  have x2 := x1.call hb2
  have hw2 := hw1.trans (hb2.mono hw1.size)
  clear c0 c1 hb1 hb2
  have c0 := x2.fst
  have c1 := x2.snd
  go_wp2_with fail
  refine (T1.out _ (G.below hw2)).mono ?_
  rintro e w3 ⟨rfl, hb3⟩
  have x3 := x2.call hb3
  have hw3 := hw2.trans (hb3.mono hw2.size)
  clear c0 c1 hb3
  go_wp2_with fail
  refine (T3.out _).mono ?_
  rintro e w4 ⟨rfl, hb4⟩
  have x4 := (x3.call hb4).alloc (.cells #[.int .i64 n, .int .i64 d] 27)
  have y4 := FAt.new w4 n d
  have hw4 := (hw3.trans (hb4.mono hw3.size)).alloc (Nat.le_trans hw3.size hb4.size) (.cells #[.int .i64 n, .int .i64 d] 27)
  clear hb4
  have c0 := x4.fst
  have c1 := x4.snd
  have d0 := y4.fst
  have d1 := y4.snd
  have d2 := y4.lt
  go_wp2_with fail
  refine (T2.out _).mono ?_
  rintro e w5 ⟨rfl, hb5⟩
  have x5 := x4.call hb5
  have y5 := y4.call hb5
  have hw5 := hw4.trans (hb5.mono hw4.size)
  clear c0 c1 d0 d1 d2 hb5
  have c0 := x5.fst
  have c1 := x5.snd
  have d0 := y5.fst
  have d1 := y5.snd
  go_wp2
  all_goals
    go_ret
    exact ⟨rfl, hw5⟩

theorem texts_walk (n d : Int) (w : World) (G : Gf w) :
    Calls Tryd.prog 7 #[.agg #[.int .i64 n, .int .i64 d]] w fun e w' => e = .returned (.bool true) ∧ Below w.heap.size w w' := by
  cases hr : FracMath.rightB n d
  · exact texts_wrong n d hr w
  · exact texts_right n d hr w G
end Go.Proofs.YtoeacbmlodfciaaDoor
