/- MatchingLimits: the walk. -/
import Derived.Test.YtojgfpnecdngfaaMtR
namespace Go.Proofs.Ytojgfpnecdngfaa
open Go Go.RowKit Go.Shelf

/-- What the law wants. -/
def limW (R C : Nat) : Int := if 60 < R ∨ (0 < R ∧ 120 < C) then 4 else if C < R then 6 else 0
theorem lim_ch (R C : Nat) : chT true R (fun _ => C) (fun _ _ => 0) = limW R C := by
  unfold limW
  have hw : wid R (fun _ => C) = if R = 0 then 0 else C := rfl
  by_cases h1 : 60 < R ∨ (0 < R ∧ 120 < C)
  · rw [if_pos h1]
    refine chT_4 ?_
    rw [hw]
    rcases h1 with h | h
    · exact .inl h
    · right; rw [if_neg (by omega)]; exact h.2
  · rw [if_neg h1]
    have hn : ¬ (60 < R ∨ 120 < wid R (fun _ => C)) := by
      rw [hw]
      intro h
      rcases h with h | h
      · exact h1 (.inl h)
      · by_cases h0 : R = 0
        · rw [if_pos h0] at h; omega
        · rw [if_neg h0] at h; exact h1 (.inr ⟨by omega, h⟩)
    have h5 : ∀ i, i < R → C = wid R (fun _ => C) := fun i hi => by rw [hw, if_neg (by omega)]
    by_cases h2 : C < R
    · rw [if_pos h2]
      exact chT_6 hn h5 ⟨rfl, by rw [← h5 0 (by omega)]; exact h2⟩
    · rw [if_neg h2]
      refine chT_0 hn h5 (fun h => ?_) (fun _ _ _ _ => by decide)
      have := h.2
      rw [hw] at this
      by_cases h0 : R = 0
      · rw [if_pos h0] at this; omega
      · rw [if_neg h0] at this; omega

set_option maxRecDepth 100000 in
set_option maxHeartbeats 4000000 in
theorem limits_walk (R C : Nat) (hR : R ≤ 255) (hC : C ≤ 255) (w : World) :
    Calls Try.prog 4 #[.int .u8 (R : Int), .int .u8 (C : Int)] w fun e w' => e = .returned (.bool true) ∧ Below w.heap.size w w' := by
  have KN := Lib.hid (fun W => known_c W)
  by_cases c1 : 130 < R
  · have c1i : (130 : Int) < (R : Int) := by omega
    go_enter Try.func4, Try.ntmps4
    go_wp2_with fail
    refine (KN.out _).mono ?_
    rintro e w1 ⟨rfl, hb1⟩
    have H1 := Lib.hid hb1
    clear hb1
    go_wp2_with fail
    refine (KN.out _).mono ?_
    rintro e w2 ⟨rfl, hb2⟩
    have H2 := Lib.hid (H1.out.trans (hb2.mono H1.out.size))
    clear hb2
    go_wp2_with fail
    go_ret
    exact ⟨rfl, H2.out⟩
  have c1i : ¬ (130 : Int) < (R : Int) := by omega
  by_cases c2 : 130 < C
  · have c2i : (130 : Int) < (C : Int) := by omega
    go_enter Try.func4, Try.ntmps4
    go_wp2_with fail
    refine (KN.out _).mono ?_
    rintro e w1 ⟨rfl, hb1⟩
    have H1 := Lib.hid hb1
    clear hb1
    go_wp2_with fail
    refine (KN.out _).mono ?_
    rintro e w2 ⟨rfl, hb2⟩
    have H2 := Lib.hid (H1.out.trans (hb2.mono H1.out.size))
    clear hb2
    go_wp2_with fail
    go_ret
    exact ⟨rfl, H2.out⟩
  have c2i : ¬ (130 : Int) < (C : Int) := by omega
  obtain ⟨j0, hj0, hjz0, hjz1, hjz2⟩ := info_parts info_int
  obtain ⟨i0, hi0, hz0, hz1, hz2⟩ := info_parts info_sl
  have hcv : IntKind.i64.wrap (R : Int) = (R : Int) := wrap_in (by omega) (by omega)
  clear hR hC
  have hcase : ((60 : Int) < (R : Int) ∧ limW R C = 4) ∨ (¬ (60 : Int) < (R : Int) ∧ (0 : Int) < (R : Int) ∧ (120 : Int) < (C : Int) ∧ limW R C = 4) ∨ (¬ (60 : Int) < (R : Int) ∧ (0 : Int) < (R : Int) ∧ ¬ (120 : Int) < (C : Int) ∧ (C : Int) < (R : Int) ∧ limW R C = 6) ∨ (¬ (60 : Int) < (R : Int) ∧ (0 : Int) < (R : Int) ∧ ¬ (120 : Int) < (C : Int) ∧ ¬ (C : Int) < (R : Int) ∧ limW R C = 0) ∨ (¬ (60 : Int) < (R : Int) ∧ ¬ (0 : Int) < (R : Int) ∧ ¬ (C : Int) < (R : Int) ∧ limW R C = 0) := by
    unfold limW
    by_cases a : 60 < R
    · exact .inl ⟨by omega, if_pos (.inl a)⟩
    · by_cases b : 0 < R
      · by_cases d : 120 < C
        · exact .inr (.inl ⟨by omega, by omega, by omega, if_pos (.inr ⟨b, d⟩)⟩)
        · by_cases x : C < R
          · exact .inr (.inr (.inl ⟨by omega, by omega, by omega, by omega, by rw [if_neg (by omega), if_pos x]⟩))
          · exact .inr (.inr (.inr (.inl ⟨by omega, by omega, by omega, by omega, by rw [if_neg (by omega), if_neg x]⟩)))
      · exact .inr (.inr (.inr (.inr ⟨by omega, by omega, by omega, by rw [if_neg (by omega), if_neg (by omega)]⟩)))
  have LC := Lib.hid (lim_ch R C)
  rcases hcase with ⟨t1, hl⟩ | ⟨t1, t2, t3, hl⟩ | ⟨t1, t2, t3, t4, hl⟩ | ⟨t1, t2, t3, t4, hl⟩ | ⟨t1, t2, t4, hl⟩
  all_goals
    rw [hl] at LC
    clear hl
    go_enter Try.func4, Try.ntmps4
    go_wp2_with fail
    refine (KN.out _).mono ?_
    rintro e w1 ⟨rfl, hb1⟩
    obtain ⟨D, hD⟩ : ∃ D, w1.heap.size = D := ⟨_, rfl⟩
    have HD := Lib.hid hD
    have H1 := Lib.hid hb1
    clear hb1 hD
    go_wp2_with fail
    go_loopw [5, 6] (fun v i wr => ∃ (k : Nat) (xs : List Value), k ≤ R ∧ i = .int .i64 (k : Int) ∧ wr.ownsRow D 27 1 v k xs ∧ (∀ i, i < k → ∃ u, xs[i]? = some u ∧ RowB wr D C u (fun _ => 0)) ∧ Below D w1 wr) (fun _ i _ => R - (intOf i).toNat)
    case atStart => exact ⟨0, [], Nat.zero_le _, rfl, ⟨rfl, .inl ⟨rfl, rfl⟩⟩, fun i hi => absurd hi (by omega), Below.refl _ _⟩
    case round =>
      obtain ⟨k, xs, hk, rfl, hown, hxs, hb⟩ := hrel
      have hzD := hb.size
      have hDw := HD.out
      by_cases hkm : k < R
      · have hki : (k : Int) < (R : Int) := by omega
        have q1 := wrap_in (q := (k : Int) + 1) (by omega) (by omega)
        have FACT : ∀ w5 : World, w5.ownsRow D 3 1 (.slice (some ⟨wr.heap.size, 0, none⟩) C C) C (madeCells (Value.int .i64 0).cells (C * 1)).toList → wr.grownBy w5 none →
            (∀ j u', [Value.slice (some ⟨wr.heap.size, 0, none⟩) C C][j]? = some u' → (w5.alloc (.cells #[.slice (some ⟨wr.heap.size, 0, none⟩) C C] 27)).cell? (({ block := w5.heap.size, off := 0 } : Addr).add j) = some u') ∧ (∀ u' ∈ [Value.slice (some ⟨wr.heap.size, 0, none⟩) C C], u'.oneCell' = true) ∧
            (w5.alloc (.cells #[.slice (some ⟨wr.heap.size, 0, none⟩) C C] 27)).ownsRow D 27 1 u5 k xs ∧ Below wr.heap.size wr (w5.alloc (.cells #[.slice (some ⟨wr.heap.size, 0, none⟩) C C] 27)) ∧ RowB (w5.alloc (.cells #[.slice (some ⟨wr.heap.size, 0, none⟩) C C] 27)) D C (.slice (some ⟨wr.heap.size, 0, none⟩) C C) (fun _ => 0) := by
          intro w5 ho5 hg5
          have hb5 : Below wr.heap.size wr w5 := (Below.refl _ _).grown hg5 (Nat.le_refl _) (fun k hk => by cases hk)
          have hbE := hb5.alloc hb5.size (.cells #[.slice (some ⟨wr.heap.size, 0, none⟩) C C] 27)
          refine ⟨fun j u' hu' => ?_, fun u' hu' => by simp at hu'; subst hu'; rfl, own_below hown hbE, hbE, ?_⟩
          · have hj : j = 0 := by have := (List.getElem?_eq_some_iff.1 hu').1; simpa using this
            subst hj
            simp at hu'
            subst hu'
            rw [Addr.add_mid, Nat.zero_add]
            simp
          · refine RowB.below ?_ ((Below.refl _ _).alloc (Nat.le_refl _) _)
            rw [Nat.mul_one, made_rep _ _ rfl] at ho5
            rcases ho5.2 with ⟨h, _⟩ | ⟨g, cap, cur, he, hb, hg, hc, _, hs, hx⟩
            · cases h
            · refine ⟨g, cap, cur, he, hb, hg, fun j hj => ?_⟩
              have h1 : (cur.toList.take (C * 1))[j]? = some (.int .i64 0) := by rw [hx]; simp [hj]
              rw [List.getElem?_take_of_lt (by omega)] at h1
              simpa using h1
        have HFACT := Lib.hid FACT
        have HC := Lib.hid (And.intro hown (And.intro hxs hb))
        have h63 : k + 1 ≤ maxLen := by unfold maxLen; omega
        have h64 : (k + 1) * 24 ≤ 140737488355328 := by omega
        have h65 : C ≤ maxLen := by unfold maxLen; omega
        have h66 : j0.bytes * C ≤ 281474976710656 := by rw [hjz2]; omega
        have hsz0 : D ≤ wr.heap.size := by omega
        clear FACT hown hxs hb
        go_wp2_with (first
          | (at_make; refine wpList_make_full _ rfl _ _ 27 rfl D 3 j0 (.int .i64 0) 1 Try.underlying27 hj0 hjz0 hjz1 .u8 .u8 _ _ C rfl rfl rfl rfl h66 h65 hsz0 ?_; intro w5 ho5 hg5; have HA := Lib.hid (HFACT.out w5 ho5 hg5); have hsz5 : D ≤ (w5.alloc (.cells #[.slice (some ⟨wr.heap.size, 0, none⟩) C C] 27)).heap.size := Nat.le_trans hsz0 HA.out.2.2.2.1.size; clear ho5 hg5)
          | (at_builtin; refine wpList_append_own _ rfl _ _ 22 rfl D 27 i0 (.slice none 0 0) 1 24 Try.underlying22 hi0 hz0 hz1 hz2 rfl (by decide) _ _ _ rfl HA.out.2.2.1 ⟨w5.heap.size, 0, none⟩ 1 1 [.slice (some ⟨wr.heap.size, 0, none⟩) C C] rfl rfl HA.out.1 HA.out.2.1 h63 h64 hsz5 ?_; intro v' w6 hown' hgrow _))
        have HO := Lib.hid (And.intro hown' hgrow)
        clear hown' hgrow
        go_wp2_with fail
        go_roundw
        case rel =>
          have hg := HO.out.2
          have ho := HA.out.2.2.1
          refine ⟨k + 1, xs ++ [.slice (some ⟨wr.heap.size, 0, none⟩) C C], hkm, rfl, HO.out.1, fun i hi => ?_, (HC.out.2.2.trans (HA.out.2.2.2.1.mono hsz0)).trans (grown_below0 hsz5 ho hg)⟩
          have hl : xs.length = k := by have := HC.out.1.1; simpa using this
          by_cases e : i = k
          · subst e
            exact ⟨_, by rw [← hl]; simp, HA.out.2.2.2.2.grown ho (by decide) hg⟩
          · obtain ⟨u', hu', hr'⟩ := HC.out.2.1 i (by omega)
            exact ⟨u', by rw [List.getElem?_append_left (by omega)]; exact hu', (hr'.below HA.out.2.2.2.1).grown ho (by decide) hg⟩
        case measure => simp [intOf]; omega
      · obtain ⟨A', c', hv, hTw⟩ := wide_tb (m := R) (N := C) (g := fun _ _ => 0) (show k = R by omega) hown hxs
        subst hv
        have hki : ¬ (k : Int) < (R : Int) := by omega
        have CK := Lib.hid (check_c wr.heap.size R A' c' (fun _ => C) (fun _ _ => 0) wr (by omega) (fun _ _ => by omega) hTw)
        have HB := Lib.hid (H1.out.trans (hb.mono (by have := H1.out.size; omega)))
        rw [LC.out] at CK
        clear hTw hown hxs hb
        go_wp2_with fail
        refine CK.out.mono ?_
        rintro e w' ⟨rfl, rfl⟩
        go_wp2_with fail
        go_ret
        exact ⟨by first | rfl | simp, HB.out⟩
end Go.Proofs.Ytojgfpnecdngfaa
