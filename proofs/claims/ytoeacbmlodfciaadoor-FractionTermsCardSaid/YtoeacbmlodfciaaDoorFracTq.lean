/- FractionTerms: the reference's terms, and the law's walk. -/
import Derived.Test.YtoeacbmlodfciaaDoorFracTp
import Derived.Test.YtoeacbmlodfciaaDoorFracVp
namespace Go.Proofs.YtoeacbmlodfciaaDoor
open Go Go.RowKit Go.Shelf

theorem grown_below {W w1 : World} {B e size : Nat} {v : Value} {k : Nat} {xs : List Value} {o : Obj} (hB : B ≤ W.heap.size) (hrow : W.ownsRow B e size v k xs) (hg : (W.alloc o).grownBy w1 v.ownBlock) : Below B W w1 :=
  ((Below.refl B W).alloc hB o).grown hg (by simp; omega) (fun g hgv => by
    rcases hrow.2 with ⟨rfl, _⟩ | ⟨g', cap, cur, rfl, h1, _⟩
    · cases hgv
    · simp [Value.ownBlock] at hgv
      omega)

set_option maxHeartbeats 2000000 in
theorem rterms_any (a b : Int) (n : Nat) (hn : n ≤ 40) (ha1 : -1000000 ≤ a) (ha2 : a ≤ 1000000) (hb : b ≤ 1000000) (he : FracMath.Ends a b n) (w : World) :
    Calls Tryd.prog 23 #[.agg #[.int .i64 a, .int .i64 b]] w fun e w' => (∃ v, e = .returned v ∧ w'.ownsRow w.heap.size 3 1 v n (intsI (tl a b n))) ∧ Below w.heap.size w w' := by
  obtain ⟨i0, hi0, hz0, hz1, hz2⟩ := info_parts info_int
  have F := Lib.hid (fun (p q : Int) W (h1 : -4000000 ≤ p) (h2 : p ≤ 4000000) (h3 : 1 ≤ q) (h4 : q ≤ 4000000) => ref_floor_any p q W h1 h2 h3 h4)
  have HE := Lib.hid he
  clear he
  go_enter Tryd.func23, Tryd.ntmps23
  go_wp2_with (go_quiet (fail))
  go_loopw [3, 4, 5] (fun v p q wr => ∃ r : Nat, r ≤ n ∧ p = .int .i64 (FracMath.eu a b r).1 ∧ q = .int .i64 (FracMath.eu a b r).2 ∧ wr.ownsRow w.heap.size 3 1 v r (intsI (tl a b r)) ∧ Below w.heap.size w wr) (fun _ _ q _ => (intOf q).toNat)
  case atStart => exact ⟨0, Nat.zero_le _, rfl, rfl, World.ownsRow_nil _ _ _ _, ((Below.refl _ w).alloc (Nat.le_refl _) _).trans ⟨rfl, rfl, rfl, Nat.le_refl _, fun _ _ => rfl⟩⟩
  case round =>
    obtain ⟨r, hr, rfl, rfl, hrow, hw⟩ := hrel
    have hsz := hw.size
    by_cases h1 : r < n
    · obtain ⟨b1, b2⟩ := FracMath.eu_bound hb HE.out h1
      obtain ⟨b3, b4⟩ := FracMath.eu_num ha1 ha2 hb HE.out (show r ≤ n by omega)
      obtain ⟨b5, b6⟩ := FracMath.te_bound ha1 ha2 hb HE.out h1
      obtain ⟨p, hp⟩ : ∃ p, (FracMath.eu a b r).1 = p := ⟨_, rfl⟩
      obtain ⟨q, hq⟩ : ∃ q, (FracMath.eu a b r).2 = q := ⟨_, rfl⟩
      have hs1 : (FracMath.eu a b (r + 1)).1 = q := by rw [FracMath.eu_succ]; exact hq
      have hs2 : p - FracMath.te a b r * q = (FracMath.eu a b (r + 1)).2 := by rw [← hp, ← hq]; exact FracMath.eu_step a b r
      have hs3 : (FracMath.eu a b (r + 1)).2 < q := by rw [FracMath.eu_succ, ← hq]; exact Int.emod_lt_of_pos _ b1
      have hs4 : 0 ≤ (FracMath.eu a b (r + 1)).2 := by rw [FracMath.eu_succ]; exact Int.emod_nonneg _ (by omega)
      have ht : FracMath.te a b r = p / q := by unfold FracMath.te; rw [hp, hq]
      obtain ⟨t, htt⟩ : ∃ t, FracMath.te a b r = t := ⟨_, rfl⟩
      have hS := Lib.hid (tl_succ a b r)
      rw [hp] at b3 b4 ⊢
      rw [hq] at b1 b2 ⊢
      rw [htt] at hS hs2 ht b5 b6
      obtain ⟨q', hq'⟩ : ∃ q', (FracMath.eu a b (r + 1)).2 = q' := ⟨_, rfl⟩
      rw [hq'] at hs2 hs3 hs4
      have f := fun W => F.out p q W (by omega) (by omega) (by omega) (by omega)
      rw [← ht] at f
      have FF := Lib.hid f
      have m1 : -(1000000 * 1000000) ≤ t * q ∧ t * q ≤ 1000000 * 1000000 := FracMath.mul_bound b5 b6 (by omega) b2 (by omega)
      have HS1 := Lib.hid hs1
      have HQ := Lib.hid hq'
      clear f ht hs1 hq' htt hp hq
      go_wp2_with fail
      refine (FF.out _).mono ?_
      rintro e w2 ⟨rfl, rfl⟩
      go_wp2_with (at_builtin; refine wpList_append_own _ rfl _ _ 42 rfl w.heap.size 3 i0 (.int .i64 0) 1 8 Tryd.underlying42 hi0 hz0 hz1 hz2 rfl (by decide) _ _ _ rfl (hrow.alloc _) ⟨wr.heap.size, 0, none⟩ 1 1 [.int .i64 t] rfl rfl (cell_one_new _ _ _) (by simp [Value.oneCell']) (by unfold maxLen; omega) (by omega) (by simp; omega) ?_; intro v' w6 hown' hgrow _)
      have hb6 := grown_below hsz hrow hgrow
      go_roundw
      case rel => exact ⟨r + 1, by omega, by rw [HS1.out], by rw [HQ.out], by rw [hS.out]; simpa [intsI] using hown', hw.trans hb6⟩
      case measure => simp [intOf]; omega
    · obtain rfl : r = n := by omega
      have hz := HE.out.1
      rw [hz]
      go_wp2
      go_ret
      exact ⟨⟨_, rfl, hrow⟩, hw⟩

theorem row_of {W : World} {b0 n : Nat} {v : Value} {a b : Int} (h : W.ownsRow b0 3 1 v n (intsI (tl a b n))) (h0 : 0 < n) :
    ∃ g cap, v = .slice (some ⟨g, 0, none⟩) n cap ∧ n ≤ cap ∧ g < W.heap.size ∧ ∀ k, k < n → W.cell? ⟨g, 0 + k, none⟩ = some (.int .i64 (FracMath.te a b k)) := by
  have hc := fun g hv => h.cells (g := g) hv
  obtain ⟨_, h2⟩ := h
  rcases h2 with ⟨rfl, hn⟩ | ⟨g, cap, cur, rfl, hg, hh, hcap, hcm, hsz, htk⟩
  · first | omega | (have := hn.1; omega) | (have := hn.2; simp [intsI, tl] at this; omega)
  · refine ⟨g, cap, rfl, hcap, (Array.getElem?_eq_some_iff.1 hh).1, fun k hk => ?_⟩
    have := hc g rfl k (.int .i64 (FracMath.te a b k)) (by simp [intsI, tl, hk])
    have e : (⟨g, 0, none⟩ : Addr).add k = ⟨g, 0 + k, none⟩ := by unfold Addr.add; split <;> simp_all
    rwa [e] at this

set_option maxHeartbeats 2000000 in
theorem terms_right (n d : Int) (hr : FracMath.rightB n d = true) (w : World) :
    Calls Tryd.prog 5 #[.agg #[.int .i64 n, .int .i64 d]] w fun e w' => e = .returned (.bool true) ∧ Below w.heap.size w w' := by
  have K := Lib.hid (fun W => known_any W)
  have c := fun W => ref_right_any n d W
  rw [hr] at c
  have C := Lib.hid c
  obtain ⟨m, m1, m2, m3, m4⟩ := FracMath.terms_value hr
  obtain ⟨h1, h2, h3, h4, h5⟩ := FracMath.right_of hr
  have T1 := Lib.hid (fun W => terms_any n d m m2 hr m3 W)
  have T2 := Lib.hid (fun W => rterms_any n d m m2 h1 h2 h4 m3 W)
  have T3 := Lib.hid (fun g cap W (hcap : m ≤ cap) (hg : g < W.heap.size) hx => (value_both (some ⟨g, 0, none⟩) g 0 m cap (FracMath.te n d) W hcap (fun _ => ⟨rfl, hg⟩) hx n d 0 (.inr (.inr ⟨m1, m2, m4⟩))).1)
  clear c hr m3 m4 h1 h2 h3 h4 h5
  go_enter Tryd.func5, Tryd.ntmps5
  go_wp2_with fail
  refine (K.out _).mono ?_
  rintro e w1 ⟨rfl, hb1⟩
  have x1 := (FAt.new w n d).call hb1
  have hw1 := ((Below.refl _ w).alloc (Nat.le_refl _) (.cells #[.int .i64 n, .int .i64 d] 27)).trans (hb1.mono (by simp))
  have c0 := x1.fst
  have c1 := x1.snd
  go_wp2_with fail
  refine (C.out _).mono ?_
  rintro e w2 ⟨rfl, hb2⟩
  have x2 := x1.call hb2
  have hw2 := hw1.trans (hb2.mono hw1.size)
  clear c0 c1 hb1 hb2
  have c0 := x2.fst
  have c1 := x2.snd
  go_wp2_with fail
  refine (T1.out _).mono ?_
  rintro e w3 ⟨⟨v3, rfl, hr3⟩, hb3⟩
  obtain ⟨g3, cap3, rfl, hcap3, hlt3, hx3⟩ := row_of hr3 m1
  have x3 := x2.call hb3
  have hw3 := hw2.trans (hb3.mono hw2.size)
  clear c0 c1 hb3
  have c0 := x3.fst
  have c1 := x3.snd
  go_wp2_with fail
  refine (T2.out _).mono ?_
  rintro e w4 ⟨⟨v4, rfl, hr4⟩, hb4⟩
  obtain ⟨g4, cap4, rfl, hcap4, hlt4, hx4⟩ := row_of hr4 m1
  have hx34 : ∀ k, k < m → w4.cell? ⟨g3, 0 + k, none⟩ = some (.int .i64 (FracMath.te n d k)) := fun k hk => (hb4.cell (p := ⟨g3, 0 + k, none⟩) hlt3).trans (hx3 k hk)
  have hlt34 : g3 < w4.heap.size := Nat.lt_of_lt_of_le hlt3 hb4.size
  have x4 := x3.call hb4
  have hw4 := hw3.trans (hb4.mono hw3.size)
  clear c0 c1 hb4 hx3
  have HX3 := Lib.hid hx34
  have HX4 := Lib.hid hx4
  clear hx34 hx4 hr3 hr4
  go_wp2_with fail
  go_loopw [6] (fun i wr => ∃ k : Nat, k ≤ m ∧ i = .int .i64 (k : Int) ∧ Below w4.heap.size w4 wr) (fun i _ => m - (intOf i).toNat)
  case atStart => exact ⟨0, Nat.zero_le _, rfl, Below.refl _ _⟩
  case round =>
    obtain ⟨k, hk, rfl, hw⟩ := hrel
    by_cases h1 : k < m
    · have hki : (k : Int) < (m : Int) := by omega
      have e3 := (hw.cell (p := ⟨g3, 0 + k, none⟩) hlt34).trans (HX3.out k h1)
      have e4 := (hw.cell (p := ⟨g4, 0 + k, none⟩) hlt4).trans (HX4.out k h1)
      rw [Nat.zero_add] at e3 e4
      generalize FracMath.te n d k = t at *
      go_wp2_with (go_quiet (fail))
      go_roundw
      case rel => exact ⟨k + 1, by omega, by go_num, hw.trans ⟨rfl, rfl, rfl, Nat.le_refl _, fun _ _ => rfl⟩⟩
      case measure => simp [intOf]; omega
    · obtain rfl : k = m := by omega
      have x5 := (x4.call hw)
      have hw5 := hw4.trans (hw.mono hw4.size)
      have hlt5 : g3 < wr.heap.size := Nat.lt_of_lt_of_le hlt34 hw.size
      have hx5 : ∀ j, j < k → wr.cell? ⟨g3, 0 + j, none⟩ = some (.int .i64 (FracMath.te n d j)) := fun j hj => (hw.cell (p := ⟨g3, 0 + j, none⟩) hlt34).trans (HX3.out j hj)
      have HX5 := Lib.hid hx5
      clear hx5
      go_wp2_with fail
      refine (T3.out _ _ _ hcap3 hlt5 HX5.out).mono ?_
      rintro e w6 ⟨rfl, hb6⟩
      have x6 := (x5.call hb6).alloc (.cells #[.int .i64 n, .int .i64 d] 27)
      have y6 := FAt.new w6 n d
      have hw6 := (hw5.trans (hb6.mono hw5.size)).alloc (Nat.le_trans hw5.size hb6.size) (.cells #[.int .i64 n, .int .i64 d] 27)
      have c0 := x6.fst
      have c1 := x6.snd
      have d0 := y6.fst
      have d1 := y6.snd
      have d2 := y6.lt
      go_wp2
      all_goals
        go_ret
        exact ⟨rfl, hw6⟩

theorem terms_wrong (n d : Int) (hr : FracMath.rightB n d = false) (w : World) :
    Calls Tryd.prog 5 #[.agg #[.int .i64 n, .int .i64 d]] w fun e w' => e = .returned (.bool true) ∧ Below w.heap.size w w' := by
  have K := Lib.hid (fun W => known_any W)
  have c := fun W => ref_right_any n d W
  rw [hr] at c
  have C := Lib.hid c
  clear c hr
  go_enter Tryd.func5, Tryd.ntmps5
  go_wp2_with fail
  refine (K.out _).mono ?_
  rintro e w1 ⟨rfl, hb1⟩
  obtain ⟨b0, b1, bl, bf⟩ := (Two.new w (.int .i64 n) (.int .i64 d) 27).below hb1
  have hw1 := ((Below.refl _ w).alloc (Nat.le_refl _) (.cells #[.int .i64 n, .int .i64 d] 27)).trans (hb1.mono (by simp))
  go_wp2_with fail
  refine (C.out _).mono ?_
  rintro e w2 ⟨rfl, hb2⟩
  go_wp2_with fail
  refine (K.out _).mono ?_
  rintro e w3 ⟨rfl, hb3⟩
  go_wp2
  go_ret
  exact ⟨rfl, (hw1.trans (hb2.mono hw1.size)).trans (hb3.mono (Nat.le_trans hw1.size hb2.size))⟩

theorem terms_walk (n d : Int) (w : World) :
    Calls Tryd.prog 5 #[.agg #[.int .i64 n, .int .i64 d]] w fun e w' => e = .returned (.bool true) ∧ Below w.heap.size w w' := by
  cases hr : FracMath.rightB n d
  · exact terms_wrong n d hr w
  · exact terms_right n d hr w
end Go.Proofs.YtoeacbmlodfciaaDoor
