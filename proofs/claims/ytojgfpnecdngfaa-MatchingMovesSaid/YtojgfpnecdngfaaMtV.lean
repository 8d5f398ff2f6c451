/- MatchingMoves: the walk. -/
import Derived.Test.YtojgfpnecdngfaaMtS
import Derived.Test.YtojgfpnecdngfaaMtMv
namespace Go.Proofs.Ytojgfpnecdngfaa
open Go Go.RowKit Go.Shelf

set_option maxRecDepth 100000 in
set_option maxHeartbeats 1500000 in
theorem moves_walk (B m : Nat) (A : Option Addr) (cm : Nat) (L : Nat → Nat) (f : Nat → Nat → Int) (row by_ : Int) (w : World) (hm : m ≤ 9223372036854775807) (hL : ∀ i, i < m → L i ≤ 9223372036854775807) (hT : Tb w B A m L f) (hB : B ≤ w.heap.size) :
    Calls Try.prog 11 #[.slice A m cm, .int .i64 row, .int .i64 by_] w fun e w' => e = .returned (.bool true) ∧ Below w.heap.size w w' := by
  have KN := Lib.hid (fun W => known_c W)
  have HT := Lib.hid hT
  have HL := Lib.hid hL
  clear hL hT
  go_enter Try.func11, Try.ntmps11
  go_wp2_with fail
  refine (KN.out _).mono ?_
  rintro e w1 ⟨rfl, hb1⟩
  have hT1 := HT.out.below hb1 hB
  have SM := Lib.hid (small_c B m A cm L f w1 hm hT1)
  have RC := Lib.hid (refCheck_c true B m A cm L f w1 hm HL.out hT1)
  obtain ⟨E, hE⟩ : ∃ E, chT true m L f = E := ⟨_, rfl⟩
  rw [hE] at RC
  have HE := Lib.hid hE
  have H1 := Lib.hid (And.intro hb1 hT1)
  clear hb1 hT1 hE
  go_wp2_with fail
  refine SM.out.mono ?_
  rintro e w' ⟨⟨b, rfl, hb⟩, rfl⟩
  have HS := Lib.hid hb
  clear hb
  cases b
  · go_wp2_with fail
    refine (KN.out _).mono ?_
    rintro e w2 ⟨rfl, hb2⟩
    have H2 := Lib.hid (H1.out.1.trans (hb2.mono H1.out.1.size))
    clear hb2
    go_wp2_with fail
    go_ret
    exact ⟨rfl, H2.out⟩
  have hs := HS.out.1 rfl
  have hm5 := hs.2
  have HSM := Lib.hid hs
  clear HS hs
  by_cases hm0 : m = 0
  · subst hm0
    go_wp2_with fail
    refine (KN.out _).mono ?_
    rintro e w2 ⟨rfl, hb2⟩
    have H2 := Lib.hid (H1.out.1.trans (hb2.mono H1.out.1.size))
    clear hb2
    go_wp2_with fail
    go_ret
    exact ⟨rfl, H2.out⟩
  have hmi : ((m : Int) == 0) = false := by simp; omega
  go_wp2_with fail
  refine RC.out.mono ?_
  rintro e w' ⟨rfl, d, rfl⟩
  have H3 := Lib.hid (below_drewN H1.out.1 d)
  by_cases hE0 : E = 0
  case neg =>
    have hEi : (E != 0) = true := by simp; exact hE0
    go_wp2_with fail
    refine (KN.out _).mono ?_
    rintro e w2 ⟨rfl, hb2⟩
    have H2 := Lib.hid (H3.out.trans (hb2.mono H3.out.size))
    clear hb2
    go_wp2_with fail
    go_ret
    exact ⟨rfl, H2.out⟩
  subst hE0
  by_cases hy1 : by_ < -1000
  · go_wp2_with fail
    refine (KN.out _).mono ?_
    rintro e w2 ⟨rfl, hb2⟩
    have H2 := Lib.hid (H3.out.trans (hb2.mono H3.out.size))
    clear hb2
    go_wp2_with fail
    go_ret
    exact ⟨rfl, H2.out⟩
  by_cases hy2 : 1000 < by_
  · go_wp2_with fail
    refine (KN.out _).mono ?_
    rintro e w2 ⟨rfl, hb2⟩
    have H2 := Lib.hid (H3.out.trans (hb2.mono H3.out.size))
    clear hb2
    go_wp2_with fail
    go_ret
    exact ⟨rfl, H2.out⟩
  obtain ⟨kk, hkk, hK⟩ : ∃ kk : Nat, kk < m ∧ wrap64 ((IntKind.u64.wrap row).tmod (m : Int)) = (kk : Int) := by
    have h0 : 0 ≤ IntKind.u64.wrap row := by rw [IntKind.wrap_u64]; omega
    have h1 : (IntKind.u64.wrap row).tmod (m : Int) = (IntKind.u64.wrap row) % (m : Int) := Int.tmod_eq_emod_of_nonneg h0
    have h2 := Int.emod_nonneg (IntKind.u64.wrap row) (show (m : Int) ≠ 0 by omega)
    have h3 := Int.emod_lt_of_pos (IntKind.u64.wrap row) (show (0 : Int) < (m : Int) by omega)
    rw [h1]
    refine ⟨((IntKind.u64.wrap row) % (m : Int)).toNat, by omega, ?_⟩
    unfold wrap64
    omega
  obtain ⟨n, hn⟩ : ∃ n, wid m L = n := ⟨_, rfl⟩
  obtain ⟨_, o2, o3, o4, o5⟩ := chT_ok HE.out
  rw [hn] at o2 o3 o4 o5
  have hmn : m ≤ n := o4 rfl
  clear o4
  obtain ⟨ww, hww⟩ : ∃ ww, w1.drewN d = ww := ⟨_, rfl⟩
  have hTL : Tb ww B A m L f := by rw [← hww]; exact H1.out.2.below (below_drewN (Below.refl w1.heap.size w1) d) (by have := H1.out.1.size; omega)
  have hTn : Tb ww B A m (fun _ => n) f := hTL.congr o3 (fun _ _ _ _ => rfl)
  have hbw : Below w.heap.size w ww := by rw [← hww]; exact H3.out
  have hBw : B ≤ ww.heap.size := by have := hbw.size; omega
  have hch : chT true m L f = 0 := HE.out
  have HM := Lib.hid (And.intro o5 (And.intro hTL (And.intro hTn (And.intro hbw (And.intro hch hn)))))
  obtain ⟨j0, hj0, hjz0, hjz1, hjz2⟩ := info_parts info_int
  obtain ⟨i0, hi0, hz0, hz1, hz2⟩ := info_parts info_sl
  clear o3 o5 hTL hTn hbw HE hch hn H1 H3 SM RC HT
  go_wp2_with fail
  try rw [hww]
  clear hww
  rw [hK]
  clear hK
  obtain ⟨D, hD⟩ : ∃ D, ww.heap.size = D := ⟨_, rfl⟩
  have HD := Lib.hid hD
  clear hD
  go_loopw [8, 9, 10, 11] (fun v i _ _ wr => ∃ (k : Nat) (xs : List Value), k ≤ m ∧ i = .int .i64 (k : Int) ∧ wr.ownsRow D 27 1 v k xs ∧ (∀ i, i < k → ∃ u, xs[i]? = some u ∧ RowB wr D n u (fun j => if i = kk then f i j + by_ else f i j)) ∧ (∀ i, i < k → ∀ j, j < n → -1000 ≤ f i j ∧ f i j ≤ 1000) ∧ Below D ww wr) (fun _ i _ _ _ => m - (intOf i).toNat)
  case atStart => exact ⟨0, [], Nat.zero_le _, rfl, ⟨rfl, .inl ⟨rfl, rfl⟩⟩, fun i hi => absurd hi (by omega), fun i hi => absurd hi (by omega), Below.refl _ _⟩
  case round =>
    obtain ⟨k, xs, hk, rfl, hown, hxs, hrng, hb⟩ := hrel
    obtain ⟨wo, rfl⟩ : ∃ wo, wo = wr := ⟨_, rfl⟩
    have hzD := hb.size
    have hDw := HD.out
    by_cases hkm : k < m
    · have hki : (k : Int) < (m : Int) := by omega
      have qk := wrap_in (q := (k : Int) + 1) (by omega) (by omega)
      obtain ⟨a, Ai, ci, hA, hlt, c0, hRd⟩ := (HM.out.2.2.1.below hb (by omega)) k hkm
      subst hA
      obtain ⟨ad, hAi, hadlt, _⟩ := hRd 0 (show 0 < n by omega)
      subst hAi
      obtain ⟨XW, hXW⟩ : ∃ XW, wo.alloc (.cells #[] 3) = XW := ⟨_, rfl⟩
      have hbX : Below wo.heap.size wo XW := by rw [← hXW]; exact (Below.refl _ _).alloc (Nat.le_refl _) _
      have c0X : XW.cell? (a.add k) = some (.slice (some ad) n ci) := (hbX.cell (p := a.add k) (by rw [block_add]; omega)).trans c0
      have hRdX : Rd XW B (some ad) n (f k) := hRd.below hbX (by omega)
      have hO0 : XW.ownsRow wo.heap.size 3 1 (.slice (some ⟨wo.heap.size, 0, none⟩) 0 0) 0 [] := ⟨rfl, .inr ⟨wo.heap.size, 0, #[], rfl, Nat.le_refl _, by rw [← hXW]; exact heap_newM _ _, Nat.le_refl _, by unfold maxLen; omega, rfl, rfl⟩⟩
      have hvals : ∀ j u, ((List.range n).map fun j => Value.int .i64 (f k j))[j]? = some u → XW.cell? (ad.add j) = some u := fun j u hu => by
        have hj : j < n := by simpa using (List.getElem?_eq_some_iff.1 hu).1
        obtain ⟨b, hb1, _, hb3⟩ := hRdX j hj
        obtain rfl : ad = b := by injection hb1
        rw [hb3, ← hu]
        simp [hj]
      have hone : ∀ u ∈ ((List.range n).map fun j => Value.int .i64 (f k j)), u.oneCell' = true := fun u hu => by
        simp at hu
        obtain ⟨j, _, rfl⟩ := hu
        rfl
      have FACT : ∀ (v' : Value) (w6 : World), w6.ownsRow wo.heap.size 3 1 v' (0 + n) ([] ++ (List.range n).map fun j => Value.int .i64 (f k j)) → XW.grownBy w6 (Value.slice (some ⟨wo.heap.size, 0, none⟩) 0 0).ownBlock → ∃ g cap, v' = .slice (some ⟨g, 0, none⟩) n cap ∧ (n ≤ cap ∧ wo.heap.size ≤ g ∧ Below wo.heap.size wo w6 ∧ g < w6.heap.size ∧ ∃ F, w6.rowIs g 3 cap F ∧ ∀ j, j < n → F j = .int .i64 (f k j)) := fun v' w6 ho hg => by
        have hbl : Below wo.heap.size wo w6 := hbX.trans (grown_below0 hbX.size hO0 hg)
        rw [Nat.zero_add] at ho
        rcases ho.2 with ⟨_, h0⟩ | ⟨g, cap, cur, hv, hgD, hh, hc, _, hs, hx⟩
        · omega
        · refine ⟨g, cap, hv, hc, hgD, hbl, (Array.getElem?_eq_some_iff.1 hh).1, fun j => (cur[j]?).getD (.int .i64 0), ⟨cur, hh, by omega, fun j hj => ?_⟩, fun j hj => ?_⟩
          · have : j < cur.size := by omega
            simp [this]
          · have h1 : (cur.toList.take (n * 1))[j]? = some (.int .i64 (f k j)) := by rw [hx]; simp [hj]
            rw [List.getElem?_take_of_lt (by omega)] at h1
            have h2 : cur[j]? = some (.int .i64 (f k j)) := by simpa using h1
            simp [h2]
      have HFACT := Lib.hid FACT
      have HX := Lib.hid (And.intro hO0 (And.intro hvals hone))
      have HC := Lib.hid (And.intro hown (And.intro hxs (And.intro hrng hb)))
      have h63 : 0 + n ≤ maxLen := by unfold maxLen; omega
      have h64 : (0 + n) * 8 ≤ 140737488355328 := by omega
      have hszX : wo.heap.size ≤ XW.heap.size := hbX.size
      have hlen : ((List.range n).map fun j => Value.int .i64 (f k j)).length = n * 1 := by simp
      clear FACT hO0 hvals hone hown hxs hrng hb hRd hRdX hbX
      go_wp2_with (first
        | (at_builtin; refine wpList_append_own _ rfl _ _ 27 rfl wo.heap.size 3 j0 (.int .i64 0) 1 8 Try.underlying27 hj0 hjz0 hjz1 hjz2 rfl (by decide) (.slice (some ⟨wo.heap.size, 0, none⟩) 0 0) 0 [] rfl HX.out.1 ad n ci ((List.range n).map fun j => Value.int .i64 (f k j)) rfl hlen HX.out.2.1 HX.out.2.2 h63 h64 hszX ?_; intro v' w6 hown' hgrow _; obtain ⟨g, cap, hv', hG⟩ := HFACT.out v' w6 hown' hgrow; have HG := Lib.hid hG; clear hown' hgrow hG; subst hv'))
      obtain ⟨F0, hF0, hF0v⟩ := HG.out.2.2.2.2
      have hb6 := HG.out.2.2.1
      have hgD := HG.out.2.1
      have hncap := HG.out.1
      clear HFACT HX hszX hlen
      have HF0 := Lib.hid (And.intro hF0 (And.intro hF0v hb6))
      clear hF0 hF0v hb6 HG
      go_loopw [11] (fun i wr => ∃ (s : Nat) (F : Nat → Value), s ≤ n ∧ i = .int .i64 (s : Int) ∧ Below wo.heap.size wo wr ∧ wr.rowIs g 3 cap F ∧ (∀ j, j < n → F j = .int .i64 (if j < s ∧ k = kk then f k j + by_ else f k j)) ∧ ∀ j, j < s → -1000 ≤ f k j ∧ f k j ≤ 1000) (fun i _ => n - (intOf i).toNat)
      case atStart => exact ⟨0, F0, Nat.zero_le _, rfl, HF0.out.2.2, HF0.out.1, fun j hj => by rw [if_neg (by omega)]; exact HF0.out.2.1 j hj, fun j hj => by omega⟩
      case round =>
        obtain ⟨s, F, hs, rfl, hbi, hrow, hFv, hsr⟩ := hrel
        by_cases hsn : s < n
        · have hsi : (s : Int) < (n : Int) := by omega
          have qs := wrap_in (q := (s : Int) + 1) (by omega) (by omega)
          have x0 : wr.cell? ⟨g, s, none⟩ = some (.int .i64 (f k s)) := by
            have := hrow.cell (i := s) (by omega)
            rw [hFv s hsn, if_neg (by omega)] at this
            exact this
          have xf : wr.frozen? ⟨g, s, none⟩ = false := hrow.frozen s
          have HI := Lib.hid (And.intro hbi (And.intro hrow (And.intro hFv hsr)))
          have HZ := Lib.hid (show Below w.heap.size w wr from (HM.out.2.2.2.1.trans (HC.out.2.2.2.mono (by have := HM.out.2.2.2.1.size; omega))).trans (hbi.mono (by have := HM.out.2.2.2.1.size; omega)))
          clear hbi hrow hFv hsr
          by_cases r1 : f k s < -1000
          · go_wp2_with fail
            go_ret
            exact ⟨rfl, HZ.out⟩
          by_cases r2 : 1000 < f k s
          · go_wp2_with fail
            go_ret
            exact ⟨rfl, HZ.out⟩
          have hrs : -1000 ≤ f k s ∧ f k s ≤ 1000 := by omega
          have HR := Lib.hid hrs
          clear hrs
          by_cases hkk2 : k = kk
          · have hke : ((k : Int) == (kk : Int)) = true := by simp [hkk2]
            have q2 := wrap_in (q := f k s + by_) (by omega) (by omega)
            have HKK := Lib.hid hkk2
            clear hkk2
            go_wp2_with fail
            go_roundw
            case rel =>
              refine ⟨s + 1, _, hsn, rfl, HI.out.1.setCell (p := ⟨g, s, none⟩) hgD _, HI.out.2.1.set s _, fun j hj => ?_, fun j hj => ?_⟩
              · by_cases e : j = s
                · subst e; simp [HKK.out]
                · simp only [e, if_false]
                  rw [HI.out.2.2.1 j hj]
                  by_cases hjs : j < s
                  · rw [if_pos ⟨hjs, HKK.out⟩, if_pos ⟨by omega, HKK.out⟩]
                  · rw [if_neg (by omega), if_neg (by omega)]
              · by_cases e : j = s
                · subst e; exact HR.out
                · exact HI.out.2.2.2 j (by omega)
            case measure => simp [intOf]; omega
          · have hke : ((k : Int) == (kk : Int)) = false := by simp; omega
            have HKK := Lib.hid hkk2
            clear hkk2
            go_wp2_with fail
            go_roundw
            case rel =>
              refine ⟨s + 1, F, hsn, rfl, HI.out.1, HI.out.2.1, fun j hj => ?_, fun j hj => ?_⟩
              · rw [HI.out.2.2.1 j hj, if_neg (fun h => HKK.out h.2), if_neg (fun h => HKK.out h.2)]
              · by_cases e : j = s
                · subst e; exact HR.out
                · exact HI.out.2.2.2 j (by omega)
            case measure => simp [intOf]; omega
        · obtain rfl : s = n := by omega
          have hsi : ¬ (s : Int) < (s : Int) := by omega
          obtain ⟨X, hX⟩ : ∃ X, wr.alloc (.cells #[.slice (some ⟨g, 0, none⟩) s cap] 27) = X := ⟨_, rfl⟩
          have hbX : Below wr.heap.size wr X := by rw [← hX]; exact (Below.refl _ _).alloc (Nat.le_refl _) _
          have hX0 : X.heap[wr.heap.size]? = some (.cells #[.slice (some ⟨g, 0, none⟩) s cap] 27) := by rw [← hX]; exact heap_newM _ _
          have hzi := hbi.size
          have hnews : ∀ j u', [Value.slice (some ⟨g, 0, none⟩) s cap][j]? = some u' → X.cell? (({ block := wr.heap.size, off := 0 } : Addr).add j) = some u' := fun j u' hu' => by
            have hj : j = 0 := by have := (List.getElem?_eq_some_iff.1 hu').1; simpa using this
            subst hj
            simp at hu'
            subst hu'
            rw [Addr.add_mid, Nat.zero_add]
            simp [World.cell?, hX0]
          have hone : ∀ u' ∈ [Value.slice (some ⟨g, 0, none⟩) s cap], u'.oneCell' = true := fun u' hu' => by simp at hu'; subst hu'; rfl
          have hoX : X.ownsRow D 27 1 u8 k xs := own_below (own_below HC.out.1 hbi) hbX
          have hrowB : RowB X D s (.slice (some ⟨g, 0, none⟩) s cap) (fun j => if k = kk then f k j + by_ else f k j) := by
            obtain ⟨cc, h1, h2, h3⟩ := hrow
            refine ⟨g, cap, cc, rfl, by omega, (hbX.block g (Array.getElem?_eq_some_iff.1 h1).1).trans h1, fun j hj => ?_⟩
            rw [h3 j (by omega), hFv j hj]
            by_cases e : k = kk
            · rw [if_pos ⟨hj, e⟩]; simp [e]
            · rw [if_neg (fun h => e h.2)]; simp [e]
          have hszX : D ≤ X.heap.size := by have := hbX.size; omega
          have hb3 : Below wo.heap.size wo X := hbi.trans (hbX.mono hzi)
          have h63' : k + 1 ≤ maxLen := by unfold maxLen; omega
          have h64' : (k + 1) * 24 ≤ 140737488355328 := by omega
          have HA := Lib.hid (And.intro hnews (And.intro hone (And.intro hoX (And.intro hb3 (And.intro hrowB hsr)))))
          clear hnews hone hoX hrowB hb3 hX0 hbX hbi hrow hFv hsr
          go_wp2_with (first
            | (at_builtin; refine wpList_append_own _ rfl _ _ 22 rfl D 27 i0 (.slice none 0 0) 1 24 Try.underlying22 hi0 hz0 hz1 hz2 rfl (by decide) u8 k xs rfl HA.out.2.2.1 ⟨wr.heap.size, 0, none⟩ 1 1 [.slice (some ⟨g, 0, none⟩) s cap] rfl rfl HA.out.1 HA.out.2.1 h63' h64' hszX ?_; intro v' w7 hown' hgrow _))
          have HO := Lib.hid (And.intro hown' hgrow)
          clear hown' hgrow
          go_wp2_with fail
          go_roundw
          case rel =>
            have hg := HO.out.2
            have ho := HA.out.2.2.1
            have hl : xs.length = k := by have := HC.out.1.1; simpa using this
            have hbD : Below D wo X := HA.out.2.2.2.1.mono (show D ≤ wo.heap.size by omega)
            refine ⟨k + 1, xs ++ [.slice (some ⟨g, 0, none⟩) s cap], hkm, rfl, HO.out.1, fun i hi => ?_, fun i hi j hj => ?_, (HC.out.2.2.2.trans hbD).trans (grown_below0 hszX ho hg)⟩
            · by_cases e : i = k
              · subst e
                exact ⟨_, by rw [← hl]; simp, HA.out.2.2.2.2.1.grown ho (by decide) hg⟩
              · obtain ⟨u', hu', hr'⟩ := HC.out.2.1 i (by omega)
                refine ⟨u', by rw [List.getElem?_append_left (by omega)]; exact hu', RowB.grown (hr'.below HA.out.2.2.2.1) ho (by decide) hg⟩
            · by_cases e : i = k
              · subst e; exact HA.out.2.2.2.2.2 j hj
              · exact HC.out.2.2.1 i (by omega) j hj
          case measure => simp [intOf]; omega
    · have hki : ¬ (k : Int) < (m : Int) := by omega
      have hkm' : k = m := by omega
      obtain ⟨A', c', hv, hTw⟩ := wide_tb (m := m) (N := n) (g := fun i j => if i = kk then f i j + by_ else f i j) hkm' hown hxs
      subst hv
      have hrng' : ∀ i, i < m → ∀ j, j < n → -1000 ≤ f i j ∧ f i j ≤ 1000 := fun i hi => hrng i (by omega)
      have hwn : wid m (fun _ => n) = n := by unfold wid; rw [if_neg hm0]
      have hchG : chT true m (fun _ => n) (fun i j => if i = kk then f i j + by_ else f i j) = 0 := chT_0 (by rw [hwn]; omega) (fun _ _ => hwn.symm) (fun h => by have := h.2; rw [hwn] at this; omega) (fun i hi j hj => by
        have := hrng' i hi j hj
        refine decide_eq_true ?_
        by_cases e : i = kk
        · simp only [e, if_true]; rw [e] at this; omega
        · simp only [e, if_false]; omega)
      have hchP : chP m L f 100000 = 0 := by
        obtain ⟨p1, p2, p3, p4, p5⟩ := chT_ok HM.out.2.2.2.2.1
        have h0 : chT false m L f = 0 := chT_0 (by omega) p3 (fun h => by cases h.1) (fun i hi j hj => decide_eq_true (p5 i hi j (by rw [← p3 i hi]; exact hj)))
        unfold chP
        rw [if_neg (fun h => h h0), if_pos (by decide)]
      have hBD : B ≤ D := by omega
      have BE := Lib.hid (best_ok B m A cm L f wo hm HL.out (HM.out.2.1.below hb hBD) (by omega) n HM.out.2.2.2.2.2 HM.out.2.2.2.2.1)
      have HW := Lib.hid (And.intro hTw (And.intro hrng' (And.intro hb (And.intro hchG (And.intro hchP hwn)))))
      clear hTw hrng' hb hchG hchP hwn hown hxs hrng
      go_wp2_with fail
      refine BE.out.mono ?_
      rintro e w2 ⟨⟨v, rfl, gX, gR, gC, col, r, c, t1, rfl, _, _, _, _, hs1⟩, hb2⟩
      obtain ⟨W3, hW3⟩ : ∃ W3, w2.alloc (.cells #[.slice (some ⟨gX, 0, none⟩) m m, .int .i64 t1, .slice (some ⟨gR, 0, none⟩) m m, .slice (some ⟨gC, 0, none⟩) n n] 29) = W3 := ⟨_, rfl⟩
      have hb3 : Below w2.heap.size w2 W3 := by rw [← hW3]; exact (Below.refl _ _).alloc (Nat.le_refl _) _
      have h3 : W3.heap[w2.heap.size]? = some (.cells #[.slice (some ⟨gX, 0, none⟩) m m, .int .i64 t1, .slice (some ⟨gR, 0, none⟩) m m, .slice (some ⟨gC, 0, none⟩) n n] 29) := by rw [← hW3]; exact heap_newM _ _
      have z3 : w2.heap.size < W3.heap.size := by rw [← hW3]; simp
      have z2 := hb2.size
      have hb23 : Below wo.heap.size wo W3 := hb2.trans (hb3.mono z2)
      have BF := Lib.hid (best_ok wo.heap.size m A' c' (fun _ => n) (fun i j => if i = kk then f i j + by_ else f i j) W3 hm (fun _ _ => by omega) (HW.out.1.below hb23 (Nat.le_refl _)) (by omega) n HW.out.2.2.2.2.2 HW.out.2.2.2.1)
      have H3 := Lib.hid (And.intro hb23 (And.intro h3 hs1))
      clear hb2 hb3 h3 hb23 hs1
      go_wp2_with fail
      refine BF.out.mono ?_
      rintro e w4 ⟨⟨v, rfl, gX2, gR2, gC2, col2, r2, c2, t2, rfl, _, _, _, _, hs2⟩, hb4⟩
      have ht2 : t2 = t1 + by_ := Mt.move_tot hkk (fun i j hi hj => by
        by_cases e : i = kk
        · simp [e]
        · simp [e]) H3.out.2.2 hs2
      subst ht2
      obtain ⟨W5, hW5⟩ : ∃ W5, w4.alloc (.cells #[.slice (some ⟨gX2, 0, none⟩) m m, .int .i64 (t1 + by_), .slice (some ⟨gR2, 0, none⟩) m m, .slice (some ⟨gC2, 0, none⟩) n n] 29) = W5 := ⟨_, rfl⟩
      have hb5 : Below w4.heap.size w4 W5 := by rw [← hW5]; exact (Below.refl _ _).alloc (Nat.le_refl _) _
      have h5 : W5.heap[w4.heap.size]? = some (.cells #[.slice (some ⟨gX2, 0, none⟩) m m, .int .i64 (t1 + by_), .slice (some ⟨gR2, 0, none⟩) m m, .slice (some ⟨gC2, 0, none⟩) n n] 29) := by rw [← hW5]; exact heap_newM _ _
      have z5 : w4.heap.size < W5.heap.size := by rw [← hW5]; simp
      have z4 := hb4.size
      have hb35 : Below W3.heap.size W3 W5 := hb4.trans (hb5.mono z4)
      have hb05 : Below wo.heap.size wo W5 := H3.out.1.trans (hb35.mono (by omega))
      have PA := Lib.hid (partial_ok B m A cm L f 100000 W5 hm HL.out ((HM.out.2.1.below HW.out.2.2.1 hBD).below hb05 (by omega)) (by omega) n HM.out.2.2.2.2.2 HW.out.2.2.2.2.1)
      have H5 := Lib.hid (And.intro hb35 (And.intro h5 hb05))
      clear hb4 hb5 h5 hb35 hb05 hs2
      go_wp2_with fail
      refine PA.out.mono ?_
      rintro e w6 ⟨⟨v, rfl, gX3, gR3, pa3, pc3, col3, r3, c3, t3, rfl, _, _, _, _, hs3⟩, hb6⟩
      have ht3 : t3 = t1 := Mt.skip_tot hmn (fun i j hi hj => (HW.out.2.1 i hi j hj).2) H3.out.2.2 hs3
      subst ht3
      obtain ⟨W7, hW7⟩ : ∃ W7, w6.alloc (.cells #[.slice (some ⟨gX3, 0, none⟩) m m, .int .i64 t3, .slice (some ⟨gR3, 0, none⟩) m m, .slice pa3 n pc3] 29) = W7 := ⟨_, rfl⟩
      have hb7 : Below w6.heap.size w6 W7 := by rw [← hW7]; exact (Below.refl _ _).alloc (Nat.le_refl _) _
      have h7 : W7.heap[w6.heap.size]? = some (.cells #[.slice (some ⟨gX3, 0, none⟩) m m, .int .i64 t3, .slice (some ⟨gR3, 0, none⟩) m m, .slice pa3 n pc3] 29) := by rw [← hW7]; exact heap_newM _ _
      have z6 := hb6.size
      have hb57 : Below W5.heap.size W5 W7 := hb6.trans (hb7.mono z6)
      have hA := (hb57.block w2.heap.size (by have := H5.out.1.size; omega)).trans ((H5.out.1.block w2.heap.size z3).trans H3.out.2.1)
      have hBk := (hb57.block w4.heap.size z5).trans H5.out.2.1
      have c1 : W7.cell? ⟨w2.heap.size, 1, none⟩ = some (.int .i64 t3) := by simp [World.cell?, hA]
      have c2 : W7.cell? ⟨w4.heap.size, 1, none⟩ = some (.int .i64 (t3 + by_)) := by simp [World.cell?, hBk]
      have c3 : W7.cell? ⟨w6.heap.size, 1, none⟩ = some (.int .i64 t3) := by simp [World.cell?, h7]
      have HZ := Lib.hid (show Below w.heap.size w W7 from (HM.out.2.2.2.1.trans (HW.out.2.2.1.mono (by have := HM.out.2.2.2.1.size; omega))).trans ((H5.out.2.2.trans (hb57.mono (by have := H5.out.2.2.size; omega))).mono (by have := HM.out.2.2.2.1.size; omega)))
      have hbt : -(1000000000000 * (m : Int)) ≤ t3 ∧ t3 ≤ 1000000000000 * (m : Int) := by
        rw [H3.out.2.2.total]
        exact sm_bd (r := fun i => f i (col i).toNat) fun i hi => decide_eq_true (by
          have h1 := H3.out.2.2.at_ i hi
          have := HW.out.2.1 i hi (col i).toNat (by omega)
          omega)
      have q := wrap_in (q := t3 + by_) (by omega) (by omega)
      clear hbt hA hBk h7 hb6 hb7 hb57 hs3
      go_wp2_with fail
      go_ret
      exact ⟨by first | rfl | simp, HZ.out⟩
end Go.Proofs.Ytojgfpnecdngfaa
