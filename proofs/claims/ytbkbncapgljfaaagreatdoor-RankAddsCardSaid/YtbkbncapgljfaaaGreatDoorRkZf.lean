/- Concat, changed, Below and Above where a list of winds may be empty. -/
import Derived.Test.YtbkbncapgljfaaaGreatDoorRkZd
import Derived.Laws.AppendOwnNone
namespace Go.Proofs.YtbkbncapgljfaaaGreatDoor
open Go Go.RowKit Go.Shelf

/-- An empty slice: none, or one somewhere. -/
def EmptyS (v : Value) : Prop := v = .slice none 0 0 ∨ ∃ a c, v = .slice (some a) 0 c
set_option maxRecDepth 100000 in
set_option maxHeartbeats 4000000 in
theorem concat_e (B C m : Nat) (V : Nat → Value) (N : Nat → Nat) (X : Nat → Nat → Int) (hm : 0 < m) (hm2 : m ≤ 1000) (hs0 : 0 < sumN N m) (hpos : ∀ j, j < m → N j = 0 → EmptyS (V j)) (hT : sumN N m ≤ 1000000) (w : World) (hB : B < w.heap.size)
    (hv : ∀ j, j < m → w.cell? ⟨B, j, none⟩ = some (V j)) (hw : ∀ j, j < m → Wd w (V j) (N j) (X j)) :
    Calls Tryz.prog 49 #[.slice (some ⟨B, 0, none⟩) m C] w fun e w' => (∃ v, e = .returned v ∧ w'.ownsRow w.heap.size 3 1 v (sumN N m) (catL N X m)) ∧ Below w.heap.size w w' := by
  have GR := Lib.hid (fun W => grow_c (sumN N m) hs0 hT W)
  have HV := Lib.hid hv
  have HW := Lib.hid hw
  have HPOS := Lib.hid hpos
  have HM := Lib.hid (fun i (h : i ≤ m) => Nat.le_trans (sumN_mono N h) hT)
  have HS := Lib.hid (fun j => show sumN N (j + 1) = sumN N j + N j from rfl)
  have HC := Lib.hid (fun j => show catL N X (j + 1) = catL N X j ++ (List.range (N j)).map (fun k => .int .i64 (X j k)) from rfl)
  have H0 := Lib.hid (show sumN N 0 = 0 from rfl)
  have HC0 := Lib.hid (show catL N X 0 = [] from rfl)
  obtain ⟨S, hS⟩ : ∃ f, sumN N = f := ⟨_, rfl⟩
  obtain ⟨L, hL⟩ : ∃ f, catL N X = f := ⟨_, rfl⟩
  rw [hS] at GR HM HS H0 hs0 hT
  rw [hL] at HC HC0
  rw [hS, hL]
  clear hv hw hpos hS hL
  obtain ⟨D, hD⟩ : ∃ D, w.heap.size = D := ⟨_, rfl⟩
  rw [hD]
  obtain ⟨i0, hi0, hz0, hz1, hz2⟩ := info_parts info_int
  go_enter Tryz.func49, Tryz.ntmps49
  go_wp2_with fail
  go_loopw [3, 11] (fun s i wr => ∃ j : Nat, j ≤ m ∧ s = .int .i64 (S j : Int) ∧ i = .int .i64 (j : Int) ∧ wr = w) (fun _ i _ => (m - intOf i).toNat)
  case atStart => exact ⟨0, Nat.zero_le _, by rw [H0.out]; rfl, rfl, by first | rfl | trivial⟩
  case round =>
    obtain ⟨j, hj, rfl, rfl, hwr⟩ := hrel
    subst wr
    by_cases hjm : j < m
    · have hji : (j : Int) < (m : Int) := by omega
      have c0 := HV.out j hjm
      obtain ⟨sa, sc, hVj⟩ := (HW.out j hjm).len
      rw [hVj] at c0
      have b1 := HM.out (j + 1) hjm
      rw [HS.out] at b1
      have q1 := wrap_in (q := (S j : Int) + (N j : Int)) (by omega) (by omega)
      have q2 := wrap_in (q := (j : Int) + 1) (by omega) (by omega)
      have q3 : ¬ (S j : Int) + (N j : Int) < 0 := by omega
      clear hVj
      go_wp2_with fail
      go_roundw
      case rel => exact ⟨j + 1, hjm, by rw [HS.out]; congr 1, rfl, by first | rfl | trivial⟩
      case measure => simp [intOf]; omega
    · obtain rfl : j = m := by omega
      have hji : ¬ (j : Int) < (j : Int) := by omega
      go_wp2_with fail
      refine (GR.out _).mono ?_
      rintro e w1 ⟨⟨g1, cap1, rfl, hrow1⟩, hb1⟩
      rw [hD] at hrow1 hb1
      have HR1 := Lib.hid (And.intro hrow1 hb1)
      clear hrow1 hb1
      go_wp2_with fail
      go_loopw [6, 27] (fun v i wr => ∃ t : Nat, t ≤ j ∧ i = .int .i64 (t : Int) ∧ wr.ownsRow D 3 1 v (S t) (L t) ∧ Below D w wr) (fun _ i _ => (j - intOf i).toNat)
      case atStart => exact ⟨0, Nat.zero_le _, rfl, by rw [H0.out, HC0.out]; exact HR1.out.1, HR1.out.2⟩
      case round =>
        obtain ⟨t, ht, rfl, hrow, hb⟩ := hrel
        clear HR1
        by_cases htj : t < j
        · have hti : (t : Int) < (j : Int) := by omega
          have c0 := (hb.cell (p := ⟨B, t, none⟩) (show B < D by omega)).trans (HV.out t htj)
          have hDr0 : D ≤ wr.heap.size := hD ▸ hb.size
          by_cases hz : N t = 0
          · have HZ := Lib.hid hz
            have HE := Lib.hid (show S (t + 1) = S t ∧ L (t + 1) = L t by rw [HS.out, HC.out, hz]; exact ⟨rfl, by simp⟩)
            have HB1 := Lib.hid hb
            have HR := Lib.hid hrow
            have b1 := HM.out (t + 1) htj
            rw [HS.out] at b1
            have q2 := wrap_in (q := (t : Int) + 1) (by omega) (by omega)
            obtain ⟨sa, sm, sc, hv0⟩ : ∃ sa m c, u6 = .slice sa m c := by
              rcases hrow.2 with ⟨h, _⟩ | ⟨g, c, _, h, _⟩
              · exact ⟨_, _, _, h⟩
              · exact ⟨_, _, _, h⟩
            rcases HPOS.out t htj hz with h | ⟨ad, cc, h⟩
            · rw [h] at c0
              clear hb hz h
              go_wp2_with (at_builtin; refine wpList_append_own_none rfl _ _ 24 rfl D 3 i0 1 Tryz.underlying24 hi0 _ (S t) (L t) rfl HR.out rfl ?_)
              go_roundw
              case rel => exact ⟨t + 1, htj, rfl, by rw [HE.out.1, HE.out.2, ← hv0]; exact HR.out, HB1.out⟩
              case measure => simp [intOf]; omega
            · rw [h] at c0
              clear hb hz h
              go_wp2_with (at_builtin; refine wpList_append_own _ rfl _ _ 24 rfl D 3 i0 (.int .i64 0) 1 8 Tryz.underlying24 hi0 hz0 hz1 hz2 rfl (by decide) _ _ _ rfl HR.out ad 0 cc [] rfl rfl (by intro j u hj; simp at hj) (by intro u hu; cases hu) (by unfold maxLen; omega) (by omega) hDr0 ?_; intro v' w6 hown' hgrow _)
              have hb6 := HB1.out.trans (grown_below0 hDr0 HR.out hgrow)
              rw [List.append_nil] at hown'
              go_roundw
              case rel => exact ⟨t + 1, htj, rfl, by rw [HE.out.1, HE.out.2]; exact hown', hb6⟩
              case measure => simp [intOf]; omega
          · skip
            obtain ⟨g, o, cap, hVt, hcap, hg, hel⟩ : ∃ g o cap, V t = .slice (some ⟨g, o, none⟩) (N t) cap ∧ N t ≤ cap ∧ g < w.heap.size ∧ ∀ k, k < N t → w.cell? ⟨g, o + k, none⟩ = some (.int .i64 (X t k)) := by
              rcases HW.out t htj with ⟨h, _⟩ | h
              · exact absurd h hz
              · exact h
            rw [hVt] at c0
            have b1 := HM.out (t + 1) htj
            rw [HS.out] at b1
            have q2 := wrap_in (q := (t : Int) + 1) (by omega) (by omega)
            have hN : ∀ k u, ((List.range (N t)).map fun k => Value.int .i64 (X t k))[k]? = some u → wr.cell? (({ block := g, off := o } : Addr).add k) = some u := by
              intro k u hu
              have hk : k < N t := by
                have := (List.getElem?_eq_some_iff.1 hu).1
                simpa using this
              simp [hk] at hu
              rw [← hu]
              have hx := (hb.cell (p := ⟨g, o + k, none⟩) (show g < D by omega)).trans (hel k hk)
              by_cases e : k = 0
              · subst e; simpa [Addr.add] using hx
              · simpa [Addr.add, e] using hx
            have h1 : ∀ u ∈ (List.range (N t)).map fun k => Value.int .i64 (X t k), u.oneCell' = true := by
              intro u hu
              obtain ⟨k, _, rfl⟩ := List.mem_map.1 hu
              rfl
            have hDr : D ≤ wr.heap.size := hD ▸ hb.size
            have HEL := Lib.hid (And.intro hN h1)
            have HB1 := Lib.hid hb
            have HR := Lib.hid hrow
            clear hVt hel hb hN h1
            obtain ⟨sa, sm, sc, hv0⟩ : ∃ sa m c, u6 = .slice sa m c := by
              rcases hrow.2 with ⟨h, _⟩ | ⟨g, c, _, h, _⟩
              · exact ⟨_, _, _, h⟩
              · exact ⟨_, _, _, h⟩
            go_wp2_with (at_builtin; refine wpList_append_own _ rfl _ _ 24 rfl D 3 i0 (.int .i64 0) 1 8 Tryz.underlying24 hi0 hz0 hz1 hz2 rfl (by decide) _ _ _ rfl HR.out ⟨g, o, none⟩ (N t) _ _ rfl (by simp) HEL.out.1 HEL.out.2 (by unfold maxLen; omega) (by omega) hDr ?_; intro v' w6 hown' hgrow _)
            have hb6 := HB1.out.trans (grown_below0 hDr HR.out hgrow)
            go_roundw
            case rel => exact ⟨t + 1, htj, rfl, by rw [HS.out, HC.out]; exact hown', hb6⟩
            case measure => simp [intOf]; omega
        · obtain rfl : t = j := by omega
          have hti : ¬ (t : Int) < (t : Int) := by omega
          have HF := Lib.hid (And.intro hrow hb)
          clear hrow hb
          go_wp2_with fail
          exact bodyPost_ret (by simp [results, Tryz.results49, go_sem]) rfl ⟨⟨_, rfl, HF.out.1⟩, HF.out.2⟩
set_option maxRecDepth 100000 in
set_option maxHeartbeats 4000000 in
theorem changed_e (nm tn : ByteArray) (a b g f : Int) (v0 : Value) (bk cp m : Nat) (V : Nat → Value) (N : Nat → Nat) (X : Nat → Nat → Int) (hv0 : ∃ x y z, v0 = .slice x y z) (hm : 0 < m) (hm2 : m ≤ 1000) (hs0 : 0 < sumN N m) (hpos : ∀ j, j < m → N j = 0 → EmptyS (V j)) (hT : sumN N m ≤ 1000000) (w : World) (hB : bk < w.heap.size)
    (hv : ∀ j, j < m → w.cell? ⟨bk, j, none⟩ = some (V j)) (hw : ∀ j, j < m → Wd w (V j) (N j) (X j)) :
    Calls Tryz.prog 42 #[.agg #[.string nm, .string tn, .int .i64 a, .int .i64 b, .int .i64 g, v0], .int .i64 f, .slice (some ⟨bk, 0, none⟩) m cp] w fun e w' => (∃ sa sm sc, e = .returned (.agg #[.string nm, .string tn, .int .i64 a, .int .i64 b, .int .i64 f, .slice sa sm sc]) ∧ w'.ownsRow w.heap.size 3 1 (.slice sa sm sc) (sumN N m) (catL N X m)) ∧ Below w.heap.size w w' := by
  have CC := Lib.hid (fun (W : World) (h : Below w.heap.size w W) => concat_e bk cp m V N X hm hm2 hs0 hpos hT W (Nat.lt_of_lt_of_le hB h.size) (fun j hj => (h.cell (p := ⟨bk, j, none⟩) hB).trans (hv j hj)) (fun j hj => (hw j hj).below h))
  clear hv hw hs0 hpos hm hm2 hT
  obtain ⟨x0, y0, z0, rfl⟩ := hv0
  obtain ⟨T, hTT⟩ : ∃ T, sumN N m = T := ⟨_, rfl⟩
  obtain ⟨XS, hXS⟩ : ∃ T, catL N X m = T := ⟨_, rfl⟩
  rw [hTT, hXS] at CC
  rw [hTT, hXS]
  clear hTT hXS
  obtain ⟨D, hD⟩ : ∃ D, w.heap.size = D := ⟨_, rfl⟩
  rw [hD] at hB CC
  rw [hD]
  obtain ⟨V1, hV⟩ : ∃ V1, (w.alloc (.cells #[.string nm, .string tn, .int .i64 a, .int .i64 b, .int .i64 g, .slice x0 y0 z0] 26)).alloc (.cells #[.string ⟨#[]⟩, .string ⟨#[]⟩, .int .i64 0, .int .i64 0, .int .i64 0, .slice none 0 0] 26) = V1 := ⟨_, rfl⟩
  have hwV : Below D w V1 := by rw [← hV]; exact ((Below.refl _ w).alloc (by omega) _).alloc (by simp; omega) _
  have p0 : V1.heap[D]? = some (.cells #[.string nm, .string tn, .int .i64 a, .int .i64 b, .int .i64 g, .slice x0 y0 z0] 26) := by rw [← hV]; exact heap_old (heap_new hD.symm)
  have p1 : V1.heap[D + 1]? = some (.cells #[.string ⟨#[]⟩, .string ⟨#[]⟩, .int .i64 0, .int .i64 0, .int .i64 0, .slice none 0 0] 26) := by rw [← hV]; exact heap_new (by simp [hD])
  have HV := Lib.hid (And.intro hwV (And.intro p0 p1))
  have HVE := Lib.hid hV
  have hVs := hwV.size
  clear hwV p0 p1 hV
  go_enter Tryz.func42, Tryz.ntmps42
  go_upto_region 1 with fail
  rw [HVE.out]
  refine wp_region_slots_at rfl rfl (fun base ys => (((((((((base.set 7 (ys 0)).set 8 (ys 1)).set 9 (ys 2)).set 10 (ys 3)).set 11 (ys 4)).set 12 (ys 5)).set 13 (ys 6)).set 14 (ys 7)).set 15 (ys 8)).set 16 (ys 9)) (LastI _ (Below V1.heap.size V1) (chI D nm tn a b f bk m cp T XS) (fun A => ∃ sa sm sc, A.ownsRow (D + 2) 3 1 (.slice sa sm sc) T XS ∧ A.heap[D + 1]? = some (.cells #[.string nm, .string tn, .int .i64 a, .int .i64 b, .int .i64 f, .slice sa sm sc] 26) ∧ Below D w A)) (fun _ => undef) (by kernel_rfl) (last_start (by decide) ((Below.refl _ _).trans ⟨rfl, rfl, rfl, Nat.le_refl _, fun _ _ => rfl⟩)) ?h
  case h =>
    intro FF hFF
    simp only [List.set_cons_succ, List.set_cons_zero] at hFF
    subst hFF
    refine ⟨rfl, ?_, ?_⟩
    refine ⟨?_, ?_⟩
    · refine SlotStep.lastB (by kernel_rfl) rfl (by decide) (fun A B hb h => h.trans (hb.mono h.size)) (chI_up D nm tn a b f bk m cp T XS) ?_
      intro ys W hR hd K hK
      go_simp
      have hK2 := hK (.pointer (some ⟨D, 0, none⟩)) _ (Below.refl _ _) rfl
      simp (config := { decide := true }) only [upd, if_true, if_false] at hK2
      exact hK2
    refine ⟨?_, ?_⟩
    · refine SlotStep.lastB (by kernel_rfl) rfl (by decide) (fun A B hb h => h.trans (hb.mono h.size)) (chI_up D nm tn a b f bk m cp T XS) ?_
      intro ys W hR hd K hK
      have dd0 : ys 0 = (.pointer (some ⟨D, 0, none⟩)) := hd 0 (by kernel_rfl) (by decide)
      have hl := (hR.block D (Array.getElem?_eq_some_iff.1 HV.out.2.1).1).trans HV.out.2.1
      have c0 := cell6_0 hl
      have c1 := cell6_1 hl
      have c2 := cell6_2 hl
      have c3 := cell6_3 hl
      have c4 := cell6_4 hl
      have c5 := cell6_5 hl
      go_simp
      have hK2 := hK (.string nm) _ (Below.refl _ _) rfl
      simp (config := { decide := true }) only [upd, if_true, if_false, dd0] at hK2
      exact hK2
    refine ⟨?_, ?_⟩
    · refine SlotStep.lastB (by kernel_rfl) rfl (by decide) (fun A B hb h => h.trans (hb.mono h.size)) (chI_up D nm tn a b f bk m cp T XS) ?_
      intro ys W hR hd K hK
      go_simp
      have hK2 := hK (.pointer (some ⟨D, 1, none⟩)) _ (Below.refl _ _) rfl
      simp (config := { decide := true }) only [upd, if_true, if_false] at hK2
      exact hK2
    refine ⟨?_, ?_⟩
    · refine SlotStep.lastB (by kernel_rfl) rfl (by decide) (fun A B hb h => h.trans (hb.mono h.size)) (chI_up D nm tn a b f bk m cp T XS) ?_
      intro ys W hR hd K hK
      have dd2 : ys 2 = (.pointer (some ⟨D, 1, none⟩)) := hd 2 (by kernel_rfl) (by decide)
      have hl := (hR.block D (Array.getElem?_eq_some_iff.1 HV.out.2.1).1).trans HV.out.2.1
      have c0 := cell6_0 hl
      have c1 := cell6_1 hl
      have c2 := cell6_2 hl
      have c3 := cell6_3 hl
      have c4 := cell6_4 hl
      have c5 := cell6_5 hl
      go_simp
      have hK2 := hK (.string tn) _ (Below.refl _ _) rfl
      simp (config := { decide := true }) only [upd, if_true, if_false, dd2] at hK2
      exact hK2
    refine ⟨?_, ?_⟩
    · refine SlotStep.lastB (by kernel_rfl) rfl (by decide) (fun A B hb h => h.trans (hb.mono h.size)) (chI_up D nm tn a b f bk m cp T XS) ?_
      intro ys W hR hd K hK
      go_simp
      have hK2 := hK (.pointer (some ⟨D, 2, none⟩)) _ (Below.refl _ _) rfl
      simp (config := { decide := true }) only [upd, if_true, if_false] at hK2
      exact hK2
    refine ⟨?_, ?_⟩
    · refine SlotStep.lastB (by kernel_rfl) rfl (by decide) (fun A B hb h => h.trans (hb.mono h.size)) (chI_up D nm tn a b f bk m cp T XS) ?_
      intro ys W hR hd K hK
      have dd4 : ys 4 = (.pointer (some ⟨D, 2, none⟩)) := hd 4 (by kernel_rfl) (by decide)
      have hl := (hR.block D (Array.getElem?_eq_some_iff.1 HV.out.2.1).1).trans HV.out.2.1
      have c0 := cell6_0 hl
      have c1 := cell6_1 hl
      have c2 := cell6_2 hl
      have c3 := cell6_3 hl
      have c4 := cell6_4 hl
      have c5 := cell6_5 hl
      go_simp
      have hK2 := hK (.agg #[.int .i64 a, .int .i64 b]) _ (Below.refl _ _) rfl
      simp (config := { decide := true }) only [upd, if_true, if_false, dd4] at hK2
      exact hK2
    refine ⟨?_, ?_⟩
    · refine SlotStep.lastB (by kernel_rfl) rfl (by decide) (fun A B hb h => h.trans (hb.mono h.size)) (chI_up D nm tn a b f bk m cp T XS) ?_
      intro ys W hR hd K hK
      go_simp
      have hK2 := hK (.int .i64 f) _ (Below.refl _ _) rfl
      simp (config := { decide := true }) only [upd, if_true, if_false] at hK2
      exact hK2
    refine ⟨?_, ?_⟩
    · refine SlotStep.lastB (by kernel_rfl) rfl (by decide) (fun A B hb h => h.trans (hb.mono h.size)) (chI_up D nm tn a b f bk m cp T XS) ?_
      intro ys W hR hd K hK
      go_simp
      have hK2 := hK (.slice (some ⟨bk, 0, none⟩) m cp) _ (Below.refl _ _) rfl
      simp (config := { decide := true }) only [upd, if_true, if_false] at hK2
      exact hK2
    refine ⟨?_, ?_⟩
    · refine SlotStep.lastB (by kernel_rfl) rfl (by decide) (fun A B hb h => h.trans (hb.mono h.size)) (chI_up D nm tn a b f bk m cp T XS) ?_
      intro ys W hR hd K hK
      have dd7 : ys 7 = (.slice (some ⟨bk, 0, none⟩) m cp) := hd 7 (by kernel_rfl) (by decide)
      go_simp
      refine (CC.out W (HV.out.1.trans (hR.mono (by have := HV.out.1.size; omega)))).mono ?_
      rintro e w5 ⟨⟨v5, rfl, hm5⟩, hb5⟩
      have hK2 := hK (v5) _ hb5 (owns_open (by have := HV.out.1.size; have := (Array.getElem?_eq_some_iff.1 HV.out.2.2).1; have := hR.size; omega) hm5)
      simp (config := { decide := true }) only [upd, if_true, if_false, dd7] at hK2
      exact hK2
    refine ⟨?_, ?_⟩
    · refine SlotStep.lastB (by kernel_rfl) rfl (by decide) (fun A B hb h => h.trans (hb.mono h.size)) (chI_up D nm tn a b f bk m cp T XS) ?_
      intro ys W hR hd K hK
      have dd1 : ys 1 = (.string nm) := hd 1 (by kernel_rfl) (by decide)
      have dd3 : ys 3 = (.string tn) := hd 3 (by kernel_rfl) (by decide)
      have dd5 : ys 5 = (.agg #[.int .i64 a, .int .i64 b]) := hd 5 (by kernel_rfl) (by decide)
      have dd6 : ys 6 = (.int .i64 f) := hd 6 (by kernel_rfl) (by decide)
      obtain ⟨sa, sm, sc, dd8, hw8⟩ : ∃ sa sm sc, ys 8 = .slice sa sm sc ∧ W.ownsRow (D + 2) 3 1 (.slice sa sm sc) T XS := hd 8 (by kernel_rfl) (by decide)
      have HW8 := Lib.hid hw8
      clear hw8
      go_simp
      have hK2 := hK (.agg #[.string nm, .string tn, .int .i64 a, .int .i64 b, .int .i64 f, .slice sa sm sc]) _ (Below.refl _ _) ⟨sa, sm, sc, rfl, HW8.out⟩
      simp (config := { decide := true }) only [upd, if_true, if_false, dd1, dd3, dd5, dd6, dd8] at hK2
      exact hK2
    refine ⟨?_, ?_⟩
    · refine SlotStep.lastS rfl rfl ?_
      intro ys W hR hd K hK
      obtain ⟨sa, sm, sc, dd9, hw9⟩ : ∃ sa sm sc, ys 9 = .agg #[.string nm, .string tn, .int .i64 a, .int .i64 b, .int .i64 f, .slice sa sm sc] ∧ W.ownsRow (D + 2) 3 1 (.slice sa sm sc) T XS := hd 9 (by kernel_rfl) (by decide)
      have hl := (hR.block (D + 1) (Array.getElem?_eq_some_iff.1 HV.out.2.2).1).trans HV.out.2.2
      obtain ⟨c0, c1, c2, c3, c4, c5⟩ := cell6_at hl
      obtain ⟨f0, f1, f2, f3, f4, f5⟩ := free6_at hl
      have HW9 := Lib.hid hw9
      have HL := Lib.hid hl
      have HWW := Lib.hid (HV.out.1.trans (hR.mono (by have := HV.out.1.size; omega)))
      clear hw9 hl
      go_simp
      have hK2 := hK undef _ ⟨sa, sm, sc, owns_set (owns_set (owns_set (owns_set (owns_set (owns_set HW9.out (by omega)) (by omega)) (by omega)) (by omega)) (by omega)) (by omega), set6_all HL.out, below6 HWW.out (by omega) _ _ _ _ _ _⟩
      simp (config := { decide := true }) only [upd, if_true, if_false, dd9] at hK2
      exact hK2
    trivial
    · intro L5 ys5 U hL5 hI5
      obtain ⟨sa, sm, sc, hw9, hp9, hb9⟩ := last_end (by decide) hL5 hI5
      have HF := Lib.hid (And.intro hw9 hb9)
      obtain ⟨d0, d1, d2, d3, d4, d5⟩ := cell6_at hp9
      clear hw9 hb9 hI5 hL5 hp9
      go_wp2
      exact bodyPost_ret (v := .agg #[.string nm, .string tn, .int .i64 a, .int .i64 b, .int .i64 f, .slice sa sm sc]) (by simp [results, Tryz.results42, go_sem, d0, d1, d2, d3, d4, d5]) rfl ⟨⟨sa, sm, sc, rfl, owns_base HF.out.1 (by omega)⟩, HF.out.2⟩


set_option maxRecDepth 100000 in
set_option maxHeartbeats 4000000 in
theorem below_e (nm tn : ByteArray) (a b f : Int) (sa : Option Addr) (n cp : Nat) (X : Nat → Int) (sb : Option Addr) (m cq : Nat) (Y : Nat → Int) (s1 : nm.size ≤ 1099511627776) (s2 : tn.size ≤ 1099511627776) (hn : n ≤ 1099511627776) (hm : m ≤ 1099511627776) (h1 : cfE (rkE nm tn a b f n X) (wdE Y m) n m = 0) (h2 : -256 ≤ f - m) (h3 : m = 0 → EmptyS (.slice sb m cq)) (w : World) (hW1 : Wd w (.slice sa n cp) n X) (hW2 : Wd w (.slice sb m cq) m Y) :
    Calls Tryz.prog 25 #[.agg #[.string nm, .string tn, .int .i64 a, .int .i64 b, .int .i64 f, .slice sa n cp], .slice sb m cq] w fun e w' => (∃ sr mr cr, e = .returned (.tuple #[.agg #[.string nm, .string tn, .int .i64 a, .int .i64 b, .int .i64 (f - m), .slice sr mr cr], .int .i64 0]) ∧ w'.ownsRow w.heap.size 3 1 (.slice sr mr cr) (m + n) (rowL Y m ++ rowL X n)) ∧ Below w.heap.size w w' := by
  have CF := Lib.hid (fun W h h' => further_c nm tn a b f sa n cp X sb m cq Y s1 s2 hn hm W h h')
  obtain ⟨hk, hz, hl⟩ := cf_ok h1
  obtain ⟨_, _, _, hf, hn0, _, _⟩ := rk_ok hk
  rw [h1] at CF
  have q1 := wrap_in (q := f - (m : Int)) (by omega) (by omega)
  have FI := Lib.hid (fun (W : World) => show Calls Tryz.prog 35 #[.int .i64 (f - (m : Int))] W (fun e w' => e = .returned (.bool true) ∧ Below W.heap.size W w') from (isFirst_c (f - (m : Int)) W).mono (by rintro e w' ⟨h1, rfl⟩; exact ⟨by rw [h1, decide_eq_true (by omega)], Below.refl _ _⟩))
  clear h1 h2 hk hz hf
  have hW := Lib.hid hW1
  have hY := Lib.hid hW2
  clear hW1 hW2
  obtain ⟨D, hD⟩ : ∃ D, w.heap.size = D := ⟨_, rfl⟩
  go_enter Tryz.func25, Tryz.ntmps25
  have ld1 : ((w.alloc (.cells #[.string nm, .string tn, .int .i64 a, .int .i64 b, .int .i64 f, .slice sa n cp] 26)).alloc (.cells #[.string ⟨#[]⟩, .string ⟨#[]⟩, .int .i64 0, .int .i64 0, .int .i64 0, .slice none 0 0] 26)).heap[D]? = some (.cells #[.string nm, .string tn, .int .i64 a, .int .i64 b, .int .i64 f, .slice sa n cp] 26) := (heap_old (o := .cells #[.string ⟨#[]⟩, .string ⟨#[]⟩, .int .i64 0, .int .i64 0, .int .i64 0, .slice none 0 0] 26) (heap_new (by first | omega | (simp; omega))))
  have y1_0 := cell6_0 ld1
  have y1_1 := cell6_1 ld1
  have y1_2 := cell6_2 ld1
  have y1_3 := cell6_3 ld1
  have y1_4 := cell6_4 ld1
  have y1_5 := cell6_5 ld1
  clear ld1
  have W3 : Wd ((w.alloc (.cells #[.string nm, .string tn, .int .i64 a, .int .i64 b, .int .i64 f, .slice sa n cp] 26)).alloc (.cells #[.string ⟨#[]⟩, .string ⟨#[]⟩, .int .i64 0, .int .i64 0, .int .i64 0, .slice none 0 0] 26)) (.slice sa n cp) n X := hW.out.below (by first | exact (((Below.refl _ w).alloc (by first | omega | (simp; omega)) (.cells #[.string nm, .string tn, .int .i64 a, .int .i64 b, .int .i64 f, .slice sa n cp] 26)).alloc (by first | omega | (simp; omega)) (.cells #[.string ⟨#[]⟩, .string ⟨#[]⟩, .int .i64 0, .int .i64 0, .int .i64 0, .slice none 0 0] 26)) | (rw [hD]; exact (((Below.refl _ w).alloc (by first | omega | (simp; omega)) (.cells #[.string nm, .string tn, .int .i64 a, .int .i64 b, .int .i64 f, .slice sa n cp] 26)).alloc (by first | omega | (simp; omega)) (.cells #[.string ⟨#[]⟩, .string ⟨#[]⟩, .int .i64 0, .int .i64 0, .int .i64 0, .slice none 0 0] 26))))
  have W4 : Wd ((w.alloc (.cells #[.string nm, .string tn, .int .i64 a, .int .i64 b, .int .i64 f, .slice sa n cp] 26)).alloc (.cells #[.string ⟨#[]⟩, .string ⟨#[]⟩, .int .i64 0, .int .i64 0, .int .i64 0, .slice none 0 0] 26)) (.slice sb m cq) m Y := hY.out.below (by first | exact (((Below.refl _ w).alloc (by first | omega | (simp; omega)) (.cells #[.string nm, .string tn, .int .i64 a, .int .i64 b, .int .i64 f, .slice sa n cp] 26)).alloc (by first | omega | (simp; omega)) (.cells #[.string ⟨#[]⟩, .string ⟨#[]⟩, .int .i64 0, .int .i64 0, .int .i64 0, .slice none 0 0] 26)) | (rw [hD]; exact (((Below.refl _ w).alloc (by first | omega | (simp; omega)) (.cells #[.string nm, .string tn, .int .i64 a, .int .i64 b, .int .i64 f, .slice sa n cp] 26)).alloc (by first | omega | (simp; omega)) (.cells #[.string ⟨#[]⟩, .string ⟨#[]⟩, .int .i64 0, .int .i64 0, .int .i64 0, .slice none 0 0] 26))))
  go_wp2_with fail
  refine (CF.out _ W3 W4).mono ?_
  rintro e v2 ⟨rfl, hb_v2⟩
  have cR_v2 : v2.heap[D]? = some (.cells #[.string nm, .string tn, .int .i64 a, .int .i64 b, .int .i64 f, .slice sa n cp] 26) := (hb_v2.block (D) (Array.getElem?_eq_some_iff.1 (show ((w.alloc (.cells #[.string nm, .string tn, .int .i64 a, .int .i64 b, .int .i64 f, .slice sa n cp] 26)).alloc (.cells #[.string ⟨#[]⟩, .string ⟨#[]⟩, .int .i64 0, .int .i64 0, .int .i64 0, .slice none 0 0] 26)).heap[D]? = some (.cells #[.string nm, .string tn, .int .i64 a, .int .i64 b, .int .i64 f, .slice sa n cp] 26) from (heap_old (o := .cells #[.string ⟨#[]⟩, .string ⟨#[]⟩, .int .i64 0, .int .i64 0, .int .i64 0, .slice none 0 0] 26) (heap_new (by first | omega | (simp; omega)))))).1).trans (heap_old (o := .cells #[.string ⟨#[]⟩, .string ⟨#[]⟩, .int .i64 0, .int .i64 0, .int .i64 0, .slice none 0 0] 26) (heap_new (by first | omega | (simp; omega))))
  have cZ_v2 : v2.heap[D + 1]? = some (.cells #[.string ⟨#[]⟩, .string ⟨#[]⟩, .int .i64 0, .int .i64 0, .int .i64 0, .slice none 0 0] 26) := (hb_v2.block (D + 1) (Array.getElem?_eq_some_iff.1 (show ((w.alloc (.cells #[.string nm, .string tn, .int .i64 a, .int .i64 b, .int .i64 f, .slice sa n cp] 26)).alloc (.cells #[.string ⟨#[]⟩, .string ⟨#[]⟩, .int .i64 0, .int .i64 0, .int .i64 0, .slice none 0 0] 26)).heap[D + 1]? = some (.cells #[.string ⟨#[]⟩, .string ⟨#[]⟩, .int .i64 0, .int .i64 0, .int .i64 0, .slice none 0 0] 26) from (heap_new (by first | omega | (simp; omega))))).1).trans (heap_new (by first | omega | (simp; omega)))
  have hw_v2 : Below D w v2 := ((((Below.refl _ w).alloc (by first | omega | (simp; omega)) (.cells #[.string nm, .string tn, .int .i64 a, .int .i64 b, .int .i64 f, .slice sa n cp] 26)).alloc (by first | omega | (simp; omega)) (.cells #[.string ⟨#[]⟩, .string ⟨#[]⟩, .int .i64 0, .int .i64 0, .int .i64 0, .slice none 0 0] 26))).trans (hb_v2.mono (by first | omega | (simp; omega)))
  clear hb_v2 y1_0 y1_1 y1_2 y1_3 y1_4 y1_5
  have ld3 : v2.heap[D]? = some (.cells #[.string nm, .string tn, .int .i64 a, .int .i64 b, .int .i64 f, .slice sa n cp] 26) := cR_v2
  have y3_0 := cell6_0 ld3
  have y3_1 := cell6_1 ld3
  have y3_2 := cell6_2 ld3
  have y3_3 := cell6_3 ld3
  have y3_4 := cell6_4 ld3
  have y3_5 := cell6_5 ld3
  clear ld3
  go_wp2_with fail
  refine (FI.out _).mono ?_
  rintro e v4 ⟨rfl, hb_v4⟩
  have hs_v4 := hw_v2.size
  have cR_v4 : v4.heap[D]? = some (.cells #[.string nm, .string tn, .int .i64 a, .int .i64 b, .int .i64 f, .slice sa n cp] 26) := (hb_v4.block (D) (Array.getElem?_eq_some_iff.1 (show v2.heap[D]? = some (.cells #[.string nm, .string tn, .int .i64 a, .int .i64 b, .int .i64 f, .slice sa n cp] 26) from cR_v2)).1).trans cR_v2
  have cZ_v4 : v4.heap[D + 1]? = some (.cells #[.string ⟨#[]⟩, .string ⟨#[]⟩, .int .i64 0, .int .i64 0, .int .i64 0, .slice none 0 0] 26) := (hb_v4.block (D + 1) (Array.getElem?_eq_some_iff.1 (show v2.heap[D + 1]? = some (.cells #[.string ⟨#[]⟩, .string ⟨#[]⟩, .int .i64 0, .int .i64 0, .int .i64 0, .slice none 0 0] 26) from cZ_v2)).1).trans cZ_v2
  have hw_v4 : Below D w v4 := (hw_v2).trans (hb_v4.mono (by first | omega | (simp; omega)))
  clear cR_v2 cZ_v2 hb_v4 y3_0 y3_1 y3_2 y3_3 y3_4 y3_5 hw_v2 hs_v4
  have ld5 : v4.heap[D]? = some (.cells #[.string nm, .string tn, .int .i64 a, .int .i64 b, .int .i64 f, .slice sa n cp] 26) := cR_v4
  have y5_0 := cell6_0 ld5
  have y5_1 := cell6_1 ld5
  have y5_2 := cell6_2 ld5
  have y5_3 := cell6_3 ld5
  have y5_4 := cell6_4 ld5
  have y5_5 := cell6_5 ld5
  clear ld5
  obtain ⟨EA, hEA⟩ : ∃ E, v4.heap.size = E := ⟨_, rfl⟩
  have W5 : Wd (v4.alloc (.cells #[.slice sb m cq, .slice sa n cp] 24)) (.slice sb m cq) m Y := hY.out.below (by first | exact (hw_v4.alloc (by have := hw_v4.size; first | omega | (simp; omega)) (.cells #[.slice sb m cq, .slice sa n cp] 24)) | (rw [hD]; exact (hw_v4.alloc (by have := hw_v4.size; first | omega | (simp; omega)) (.cells #[.slice sb m cq, .slice sa n cp] 24))))
  have W6 : Wd (v4.alloc (.cells #[.slice sb m cq, .slice sa n cp] 24)) (.slice sa n cp) n X := hW.out.below (by first | exact (hw_v4.alloc (by have := hw_v4.size; first | omega | (simp; omega)) (.cells #[.slice sb m cq, .slice sa n cp] 24)) | (rw [hD]; exact (hw_v4.alloc (by have := hw_v4.size; first | omega | (simp; omega)) (.cells #[.slice sb m cq, .slice sa n cp] 24))))
  have hA : (v4.alloc (.cells #[.slice sb m cq, .slice sa n cp] 24)).heap[EA]? = some (.cells #[.slice sb m cq, .slice sa n cp] 24) := (heap_new (by first | omega | (simp; omega)))
  have hsz : D + 2 ≤ ((v4.alloc (.cells #[.slice sb m cq, .slice sa n cp] 24))).heap.size := by have := (Array.getElem?_eq_some_iff.1 (show (v4.alloc (.cells #[.slice sb m cq, .slice sa n cp] 24)).heap[D + 1]? = some (.cells #[.string ⟨#[]⟩, .string ⟨#[]⟩, .int .i64 0, .int .i64 0, .int .i64 0, .slice none 0 0] 26) from (heap_old (o := .cells #[.slice sb m cq, .slice sa n cp] 24) cZ_v4))).1; have := (Array.getElem?_eq_some_iff.1 hA).1; omega
  have hpos : ∀ j, j < 2 → (fun j => if j = 0 then m else n) j = 0 → EmptyS ((fun j => if j = 0 then Value.slice sb m cq else .slice sa n cp) j) := by intro j hj hz; rcases j with _ | _ | j <;> first | exact h3 hz | exact absurd hz (Nat.ne_of_gt hn0) | omega
  have hs0 : 0 < sumN (fun j => if j = 0 then m else n) 2 := by simp [sumN]; omega
  have hT : sumN (fun j => if j = 0 then m else n) 2 ≤ 1000000 := by simp [sumN]; omega
  have hBl : EA < ((v4.alloc (.cells #[.slice sb m cq, .slice sa n cp] 24))).heap.size := (Array.getElem?_eq_some_iff.1 hA).1
  have hvv : ∀ j, j < 2 → ((v4.alloc (.cells #[.slice sb m cq, .slice sa n cp] 24))).cell? ⟨EA, j, none⟩ = some ((fun j => if j = 0 then Value.slice sb m cq else .slice sa n cp) j) := by intro j hj; rcases j with _ | _ | j <;> first | exact cell2_0 hA | exact cell2_1 hA | omega
  have hww : ∀ j, j < 2 → Wd ((v4.alloc (.cells #[.slice sb m cq, .slice sa n cp] 24))) ((fun j => if j = 0 then Value.slice sb m cq else .slice sa n cp) j) ((fun j => if j = 0 then m else n) j) ((fun j => if j = 0 then Y else X) j) := by intro j hj; rcases j with _ | _ | j <;> first | exact W5 | exact W6 | omega
  clear hA
  go_wp2_with fail
  refine (changed_e nm tn a b f (f - (m : Int)) (.slice sa n cp) (EA) 2 2 (fun j => if j = 0 then Value.slice sb m cq else .slice sa n cp) (fun j => if j = 0 then m else n) (fun j => if j = 0 then Y else X) ⟨_, _, _, rfl⟩ (by decide) (by decide) hs0 hpos hT _ hBl hvv hww).mono ?_
  rintro e v6 ⟨⟨sr, mr, cr, rfl, hrow⟩, hb_v6⟩
  have hs_v6 := hw_v4.size
  have cR_v6 : v6.heap[D]? = some (.cells #[.string nm, .string tn, .int .i64 a, .int .i64 b, .int .i64 f, .slice sa n cp] 26) := (hb_v6.block (D) (Array.getElem?_eq_some_iff.1 (show (v4.alloc (.cells #[.slice sb m cq, .slice sa n cp] 24)).heap[D]? = some (.cells #[.string nm, .string tn, .int .i64 a, .int .i64 b, .int .i64 f, .slice sa n cp] 26) from (heap_old (o := .cells #[.slice sb m cq, .slice sa n cp] 24) cR_v4))).1).trans (heap_old (o := .cells #[.slice sb m cq, .slice sa n cp] 24) cR_v4)
  have cZ_v6 : v6.heap[D + 1]? = some (.cells #[.string ⟨#[]⟩, .string ⟨#[]⟩, .int .i64 0, .int .i64 0, .int .i64 0, .slice none 0 0] 26) := (hb_v6.block (D + 1) (Array.getElem?_eq_some_iff.1 (show (v4.alloc (.cells #[.slice sb m cq, .slice sa n cp] 24)).heap[D + 1]? = some (.cells #[.string ⟨#[]⟩, .string ⟨#[]⟩, .int .i64 0, .int .i64 0, .int .i64 0, .slice none 0 0] 26) from (heap_old (o := .cells #[.slice sb m cq, .slice sa n cp] 24) cZ_v4))).1).trans (heap_old (o := .cells #[.slice sb m cq, .slice sa n cp] 24) cZ_v4)
  have cA_v6 : v6.heap[EA]? = some (.cells #[.slice sb m cq, .slice sa n cp] 24) := (hb_v6.block (EA) (Array.getElem?_eq_some_iff.1 (show (v4.alloc (.cells #[.slice sb m cq, .slice sa n cp] 24)).heap[EA]? = some (.cells #[.slice sb m cq, .slice sa n cp] 24) from (heap_new (by first | omega | (simp; omega))))).1).trans (heap_new (by first | omega | (simp; omega)))
  have hw_v6 : Below D w v6 := ((hw_v4.alloc (by have := hw_v4.size; first | omega | (simp; omega)) (.cells #[.slice sb m cq, .slice sa n cp] 24))).trans (hb_v6.mono (by first | omega | (simp; omega)))
  clear cR_v4 cZ_v4 hb_v6 y5_0 y5_1 y5_2 y5_3 y5_4 y5_5 hw_v4 hs_v6
  clear hs0 hpos hT hBl hvv hww
  rw [cat_two] at hrow
  simp only [sumN, Nat.zero_add, if_true, Nat.one_ne_zero, if_false] at hrow
  have hrow2 := owns_base (B := D + 2) hrow (by first | exact hsz | omega)
  clear hsz hrow
  have hp := cZ_v6
  obtain ⟨f0, f1, f2, f3, f4, f5⟩ := free6_at hp
  obtain ⟨g0, g1, g2, g3, g4, g5⟩ := cell6_at hp
  have hE := set6_all (x0 := .string nm) (x1 := .string tn) (x2 := .int .i64 a) (x3 := .int .i64 b) (x4 := .int .i64 (f - m)) (x5 := .slice sr mr cr) hp
  have HW := Lib.hid (below6 (hw_v6) (show D ≤ D + 1 by omega) (.string nm) (.string tn) (.int .i64 a) (.int .i64 b) (.int .i64 (f - m)) (.slice sr mr cr))
  have HO := Lib.hid (owns_set (b := D + 1) (o := 5) (x := .slice sr mr cr) (owns_set (b := D + 1) (o := 4) (x := .int .i64 (f - m)) (owns_set (b := D + 1) (o := 3) (x := .int .i64 b) (owns_set (b := D + 1) (o := 2) (x := .int .i64 a) (owns_set (b := D + 1) (o := 1) (x := .string tn) (owns_set (b := D + 1) (o := 0) (x := .string nm) hrow2 (by omega)) (by omega)) (by omega)) (by omega)) (by omega)) (by omega))
  clear hrow2
  obtain ⟨U, hU⟩ : ∃ U, ((((((v6.setCell ⟨D + 1, 0, none⟩ (.string nm)).setCell ⟨D + 1, 1, none⟩ (.string tn)).setCell ⟨D + 1, 2, none⟩ (.int .i64 a)).setCell ⟨D + 1, 3, none⟩ (.int .i64 b)).setCell ⟨D + 1, 4, none⟩ (.int .i64 (f - m))).setCell ⟨D + 1, 5, none⟩ (.slice sr mr cr)) = U := ⟨_, rfl⟩
  rw [hU] at hE HW HO
  obtain ⟨z0, z1, z2, z3, z4, z5⟩ := cell6_at hE
  have HUU := Lib.hid hU
  clear hU hE hp
  go_wp2
  rw [HUU.out]
  exact bodyPost_ret (v := .tuple #[.agg #[.string nm, .string tn, .int .i64 a, .int .i64 b, .int .i64 (f - m), .slice sr mr cr], .int .i64 0]) (by simp [results, Tryz.results25, go_sem, z0, z1, z2, z3, z4, z5]) rfl ⟨⟨sr, mr, cr, rfl, owns_base HO.out (by omega)⟩, by first | exact HW.out | (rw [hD]; exact HW.out)⟩

set_option maxRecDepth 100000 in
set_option maxHeartbeats 4000000 in
theorem above_e (nm tn : ByteArray) (a b f : Int) (sa : Option Addr) (n cp : Nat) (X : Nat → Int) (sb : Option Addr) (m cq : Nat) (Y : Nat → Int) (s1 : nm.size ≤ 1099511627776) (s2 : tn.size ≤ 1099511627776) (hn : n ≤ 1099511627776) (hm : m ≤ 1099511627776) (h1 : cfE (rkE nm tn a b f n X) (wdE Y m) n m = 0) (h3 : m = 0 → EmptyS (.slice sb m cq)) (w : World) (hW1 : Wd w (.slice sa n cp) n X) (hW2 : Wd w (.slice sb m cq) m Y) :
    Calls Tryz.prog 26 #[.agg #[.string nm, .string tn, .int .i64 a, .int .i64 b, .int .i64 f, .slice sa n cp], .slice sb m cq] w fun e w' => (∃ sr mr cr, e = .returned (.tuple #[.agg #[.string nm, .string tn, .int .i64 a, .int .i64 b, .int .i64 f, .slice sr mr cr], .int .i64 0]) ∧ w'.ownsRow w.heap.size 3 1 (.slice sr mr cr) (n + m) (rowL X n ++ rowL Y m)) ∧ Below w.heap.size w w' := by
  have CF := Lib.hid (fun W h h' => further_c nm tn a b f sa n cp X sb m cq Y s1 s2 hn hm W h h')
  obtain ⟨hk, hz, hl⟩ := cf_ok h1
  obtain ⟨_, _, _, hf, hn0, _, _⟩ := rk_ok hk
  rw [h1] at CF
  clear h1 hk hz hf
  have hW := Lib.hid hW1
  have hY := Lib.hid hW2
  clear hW1 hW2
  obtain ⟨D, hD⟩ : ∃ D, w.heap.size = D := ⟨_, rfl⟩
  go_enter Tryz.func26, Tryz.ntmps26
  have ld1 : ((w.alloc (.cells #[.string nm, .string tn, .int .i64 a, .int .i64 b, .int .i64 f, .slice sa n cp] 26)).alloc (.cells #[.string ⟨#[]⟩, .string ⟨#[]⟩, .int .i64 0, .int .i64 0, .int .i64 0, .slice none 0 0] 26)).heap[D]? = some (.cells #[.string nm, .string tn, .int .i64 a, .int .i64 b, .int .i64 f, .slice sa n cp] 26) := (heap_old (o := .cells #[.string ⟨#[]⟩, .string ⟨#[]⟩, .int .i64 0, .int .i64 0, .int .i64 0, .slice none 0 0] 26) (heap_new (by first | omega | (simp; omega))))
  have y1_0 := cell6_0 ld1
  have y1_1 := cell6_1 ld1
  have y1_2 := cell6_2 ld1
  have y1_3 := cell6_3 ld1
  have y1_4 := cell6_4 ld1
  have y1_5 := cell6_5 ld1
  clear ld1
  have W7 : Wd ((w.alloc (.cells #[.string nm, .string tn, .int .i64 a, .int .i64 b, .int .i64 f, .slice sa n cp] 26)).alloc (.cells #[.string ⟨#[]⟩, .string ⟨#[]⟩, .int .i64 0, .int .i64 0, .int .i64 0, .slice none 0 0] 26)) (.slice sa n cp) n X := hW.out.below (by first | exact (((Below.refl _ w).alloc (by first | omega | (simp; omega)) (.cells #[.string nm, .string tn, .int .i64 a, .int .i64 b, .int .i64 f, .slice sa n cp] 26)).alloc (by first | omega | (simp; omega)) (.cells #[.string ⟨#[]⟩, .string ⟨#[]⟩, .int .i64 0, .int .i64 0, .int .i64 0, .slice none 0 0] 26)) | (rw [hD]; exact (((Below.refl _ w).alloc (by first | omega | (simp; omega)) (.cells #[.string nm, .string tn, .int .i64 a, .int .i64 b, .int .i64 f, .slice sa n cp] 26)).alloc (by first | omega | (simp; omega)) (.cells #[.string ⟨#[]⟩, .string ⟨#[]⟩, .int .i64 0, .int .i64 0, .int .i64 0, .slice none 0 0] 26))))
  have W8 : Wd ((w.alloc (.cells #[.string nm, .string tn, .int .i64 a, .int .i64 b, .int .i64 f, .slice sa n cp] 26)).alloc (.cells #[.string ⟨#[]⟩, .string ⟨#[]⟩, .int .i64 0, .int .i64 0, .int .i64 0, .slice none 0 0] 26)) (.slice sb m cq) m Y := hY.out.below (by first | exact (((Below.refl _ w).alloc (by first | omega | (simp; omega)) (.cells #[.string nm, .string tn, .int .i64 a, .int .i64 b, .int .i64 f, .slice sa n cp] 26)).alloc (by first | omega | (simp; omega)) (.cells #[.string ⟨#[]⟩, .string ⟨#[]⟩, .int .i64 0, .int .i64 0, .int .i64 0, .slice none 0 0] 26)) | (rw [hD]; exact (((Below.refl _ w).alloc (by first | omega | (simp; omega)) (.cells #[.string nm, .string tn, .int .i64 a, .int .i64 b, .int .i64 f, .slice sa n cp] 26)).alloc (by first | omega | (simp; omega)) (.cells #[.string ⟨#[]⟩, .string ⟨#[]⟩, .int .i64 0, .int .i64 0, .int .i64 0, .slice none 0 0] 26))))
  go_wp2_with fail
  refine (CF.out _ W7 W8).mono ?_
  rintro e v2 ⟨rfl, hb_v2⟩
  have cR_v2 : v2.heap[D]? = some (.cells #[.string nm, .string tn, .int .i64 a, .int .i64 b, .int .i64 f, .slice sa n cp] 26) := (hb_v2.block (D) (Array.getElem?_eq_some_iff.1 (show ((w.alloc (.cells #[.string nm, .string tn, .int .i64 a, .int .i64 b, .int .i64 f, .slice sa n cp] 26)).alloc (.cells #[.string ⟨#[]⟩, .string ⟨#[]⟩, .int .i64 0, .int .i64 0, .int .i64 0, .slice none 0 0] 26)).heap[D]? = some (.cells #[.string nm, .string tn, .int .i64 a, .int .i64 b, .int .i64 f, .slice sa n cp] 26) from (heap_old (o := .cells #[.string ⟨#[]⟩, .string ⟨#[]⟩, .int .i64 0, .int .i64 0, .int .i64 0, .slice none 0 0] 26) (heap_new (by first | omega | (simp; omega)))))).1).trans (heap_old (o := .cells #[.string ⟨#[]⟩, .string ⟨#[]⟩, .int .i64 0, .int .i64 0, .int .i64 0, .slice none 0 0] 26) (heap_new (by first | omega | (simp; omega))))
  have cZ_v2 : v2.heap[D + 1]? = some (.cells #[.string ⟨#[]⟩, .string ⟨#[]⟩, .int .i64 0, .int .i64 0, .int .i64 0, .slice none 0 0] 26) := (hb_v2.block (D + 1) (Array.getElem?_eq_some_iff.1 (show ((w.alloc (.cells #[.string nm, .string tn, .int .i64 a, .int .i64 b, .int .i64 f, .slice sa n cp] 26)).alloc (.cells #[.string ⟨#[]⟩, .string ⟨#[]⟩, .int .i64 0, .int .i64 0, .int .i64 0, .slice none 0 0] 26)).heap[D + 1]? = some (.cells #[.string ⟨#[]⟩, .string ⟨#[]⟩, .int .i64 0, .int .i64 0, .int .i64 0, .slice none 0 0] 26) from (heap_new (by first | omega | (simp; omega))))).1).trans (heap_new (by first | omega | (simp; omega)))
  have hw_v2 : Below D w v2 := ((((Below.refl _ w).alloc (by first | omega | (simp; omega)) (.cells #[.string nm, .string tn, .int .i64 a, .int .i64 b, .int .i64 f, .slice sa n cp] 26)).alloc (by first | omega | (simp; omega)) (.cells #[.string ⟨#[]⟩, .string ⟨#[]⟩, .int .i64 0, .int .i64 0, .int .i64 0, .slice none 0 0] 26))).trans (hb_v2.mono (by first | omega | (simp; omega)))
  clear hb_v2 y1_0 y1_1 y1_2 y1_3 y1_4 y1_5
  have ld3 : v2.heap[D]? = some (.cells #[.string nm, .string tn, .int .i64 a, .int .i64 b, .int .i64 f, .slice sa n cp] 26) := cR_v2
  have y3_0 := cell6_0 ld3
  have y3_1 := cell6_1 ld3
  have y3_2 := cell6_2 ld3
  have y3_3 := cell6_3 ld3
  have y3_4 := cell6_4 ld3
  have y3_5 := cell6_5 ld3
  clear ld3
  obtain ⟨EA, hEA⟩ : ∃ E, v2.heap.size = E := ⟨_, rfl⟩
  have W9 : Wd (v2.alloc (.cells #[.slice sa n cp, .slice sb m cq] 24)) (.slice sa n cp) n X := hW.out.below (by first | exact (hw_v2.alloc (by have := hw_v2.size; first | omega | (simp; omega)) (.cells #[.slice sa n cp, .slice sb m cq] 24)) | (rw [hD]; exact (hw_v2.alloc (by have := hw_v2.size; first | omega | (simp; omega)) (.cells #[.slice sa n cp, .slice sb m cq] 24))))
  have W10 : Wd (v2.alloc (.cells #[.slice sa n cp, .slice sb m cq] 24)) (.slice sb m cq) m Y := hY.out.below (by first | exact (hw_v2.alloc (by have := hw_v2.size; first | omega | (simp; omega)) (.cells #[.slice sa n cp, .slice sb m cq] 24)) | (rw [hD]; exact (hw_v2.alloc (by have := hw_v2.size; first | omega | (simp; omega)) (.cells #[.slice sa n cp, .slice sb m cq] 24))))
  have hA : (v2.alloc (.cells #[.slice sa n cp, .slice sb m cq] 24)).heap[EA]? = some (.cells #[.slice sa n cp, .slice sb m cq] 24) := (heap_new (by first | omega | (simp; omega)))
  have hsz : D + 2 ≤ ((v2.alloc (.cells #[.slice sa n cp, .slice sb m cq] 24))).heap.size := by have := (Array.getElem?_eq_some_iff.1 (show (v2.alloc (.cells #[.slice sa n cp, .slice sb m cq] 24)).heap[D + 1]? = some (.cells #[.string ⟨#[]⟩, .string ⟨#[]⟩, .int .i64 0, .int .i64 0, .int .i64 0, .slice none 0 0] 26) from (heap_old (o := .cells #[.slice sa n cp, .slice sb m cq] 24) cZ_v2))).1; have := (Array.getElem?_eq_some_iff.1 hA).1; omega
  have hpos : ∀ j, j < 2 → (fun j => if j = 0 then n else m) j = 0 → EmptyS ((fun j => if j = 0 then Value.slice sa n cp else .slice sb m cq) j) := by intro j hj hz; rcases j with _ | _ | j <;> first | exact h3 hz | exact absurd hz (Nat.ne_of_gt hn0) | omega
  have hs0 : 0 < sumN (fun j => if j = 0 then n else m) 2 := by simp [sumN]; omega
  have hT : sumN (fun j => if j = 0 then n else m) 2 ≤ 1000000 := by simp [sumN]; omega
  have hBl : EA < ((v2.alloc (.cells #[.slice sa n cp, .slice sb m cq] 24))).heap.size := (Array.getElem?_eq_some_iff.1 hA).1
  have hvv : ∀ j, j < 2 → ((v2.alloc (.cells #[.slice sa n cp, .slice sb m cq] 24))).cell? ⟨EA, j, none⟩ = some ((fun j => if j = 0 then Value.slice sa n cp else .slice sb m cq) j) := by intro j hj; rcases j with _ | _ | j <;> first | exact cell2_0 hA | exact cell2_1 hA | omega
  have hww : ∀ j, j < 2 → Wd ((v2.alloc (.cells #[.slice sa n cp, .slice sb m cq] 24))) ((fun j => if j = 0 then Value.slice sa n cp else .slice sb m cq) j) ((fun j => if j = 0 then n else m) j) ((fun j => if j = 0 then X else Y) j) := by intro j hj; rcases j with _ | _ | j <;> first | exact W9 | exact W10 | omega
  clear hA
  go_wp2_with fail
  refine (changed_e nm tn a b f (f) (.slice sa n cp) (EA) 2 2 (fun j => if j = 0 then Value.slice sa n cp else .slice sb m cq) (fun j => if j = 0 then n else m) (fun j => if j = 0 then X else Y) ⟨_, _, _, rfl⟩ (by decide) (by decide) hs0 hpos hT _ hBl hvv hww).mono ?_
  rintro e v4 ⟨⟨sr, mr, cr, rfl, hrow⟩, hb_v4⟩
  have hs_v4 := hw_v2.size
  have cR_v4 : v4.heap[D]? = some (.cells #[.string nm, .string tn, .int .i64 a, .int .i64 b, .int .i64 f, .slice sa n cp] 26) := (hb_v4.block (D) (Array.getElem?_eq_some_iff.1 (show (v2.alloc (.cells #[.slice sa n cp, .slice sb m cq] 24)).heap[D]? = some (.cells #[.string nm, .string tn, .int .i64 a, .int .i64 b, .int .i64 f, .slice sa n cp] 26) from (heap_old (o := .cells #[.slice sa n cp, .slice sb m cq] 24) cR_v2))).1).trans (heap_old (o := .cells #[.slice sa n cp, .slice sb m cq] 24) cR_v2)
  have cZ_v4 : v4.heap[D + 1]? = some (.cells #[.string ⟨#[]⟩, .string ⟨#[]⟩, .int .i64 0, .int .i64 0, .int .i64 0, .slice none 0 0] 26) := (hb_v4.block (D + 1) (Array.getElem?_eq_some_iff.1 (show (v2.alloc (.cells #[.slice sa n cp, .slice sb m cq] 24)).heap[D + 1]? = some (.cells #[.string ⟨#[]⟩, .string ⟨#[]⟩, .int .i64 0, .int .i64 0, .int .i64 0, .slice none 0 0] 26) from (heap_old (o := .cells #[.slice sa n cp, .slice sb m cq] 24) cZ_v2))).1).trans (heap_old (o := .cells #[.slice sa n cp, .slice sb m cq] 24) cZ_v2)
  have cA_v4 : v4.heap[EA]? = some (.cells #[.slice sa n cp, .slice sb m cq] 24) := (hb_v4.block (EA) (Array.getElem?_eq_some_iff.1 (show (v2.alloc (.cells #[.slice sa n cp, .slice sb m cq] 24)).heap[EA]? = some (.cells #[.slice sa n cp, .slice sb m cq] 24) from (heap_new (by first | omega | (simp; omega))))).1).trans (heap_new (by first | omega | (simp; omega)))
  have hw_v4 : Below D w v4 := ((hw_v2.alloc (by have := hw_v2.size; first | omega | (simp; omega)) (.cells #[.slice sa n cp, .slice sb m cq] 24))).trans (hb_v4.mono (by first | omega | (simp; omega)))
  clear cR_v2 cZ_v2 hb_v4 y3_0 y3_1 y3_2 y3_3 y3_4 y3_5 hw_v2 hs_v4
  clear hs0 hpos hT hBl hvv hww
  rw [cat_two] at hrow
  simp only [sumN, Nat.zero_add, if_true, Nat.one_ne_zero, if_false] at hrow
  have hrow2 := owns_base (B := D + 2) hrow (by first | exact hsz | omega)
  clear hsz hrow
  have hp := cZ_v4
  obtain ⟨f0, f1, f2, f3, f4, f5⟩ := free6_at hp
  obtain ⟨g0, g1, g2, g3, g4, g5⟩ := cell6_at hp
  have hE := set6_all (x0 := .string nm) (x1 := .string tn) (x2 := .int .i64 a) (x3 := .int .i64 b) (x4 := .int .i64 f) (x5 := .slice sr mr cr) hp
  have HW := Lib.hid (below6 (hw_v4) (show D ≤ D + 1 by omega) (.string nm) (.string tn) (.int .i64 a) (.int .i64 b) (.int .i64 f) (.slice sr mr cr))
  have HO := Lib.hid (owns_set (b := D + 1) (o := 5) (x := .slice sr mr cr) (owns_set (b := D + 1) (o := 4) (x := .int .i64 f) (owns_set (b := D + 1) (o := 3) (x := .int .i64 b) (owns_set (b := D + 1) (o := 2) (x := .int .i64 a) (owns_set (b := D + 1) (o := 1) (x := .string tn) (owns_set (b := D + 1) (o := 0) (x := .string nm) hrow2 (by omega)) (by omega)) (by omega)) (by omega)) (by omega)) (by omega))
  clear hrow2
  obtain ⟨U, hU⟩ : ∃ U, ((((((v4.setCell ⟨D + 1, 0, none⟩ (.string nm)).setCell ⟨D + 1, 1, none⟩ (.string tn)).setCell ⟨D + 1, 2, none⟩ (.int .i64 a)).setCell ⟨D + 1, 3, none⟩ (.int .i64 b)).setCell ⟨D + 1, 4, none⟩ (.int .i64 f)).setCell ⟨D + 1, 5, none⟩ (.slice sr mr cr)) = U := ⟨_, rfl⟩
  rw [hU] at hE HW HO
  obtain ⟨z0, z1, z2, z3, z4, z5⟩ := cell6_at hE
  have HUU := Lib.hid hU
  clear hU hE hp
  go_wp2
  rw [HUU.out]
  exact bodyPost_ret (v := .tuple #[.agg #[.string nm, .string tn, .int .i64 a, .int .i64 b, .int .i64 f, .slice sr mr cr], .int .i64 0]) (by simp [results, Tryz.results26, go_sem, z0, z1, z2, z3, z4, z5]) rfl ⟨⟨sr, mr, cr, rfl, owns_base HO.out (by omega)⟩, by first | exact HW.out | (rw [hD]; exact HW.out)⟩
end Go.Proofs.YtbkbncapgljfaaaGreatDoor
