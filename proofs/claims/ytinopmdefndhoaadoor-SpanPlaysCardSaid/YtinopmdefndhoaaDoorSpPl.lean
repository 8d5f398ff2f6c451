/- The walk of SpanPlays. -/
import Derived.Test.YtinopmdefndhoaaDoorSpPm
import Derived.Test.YtinopmdefndhoaaDoorSpFx
namespace Go.Proofs.YtinopmdefndhoaaDoor
open Go Go.RowKit Go.Shelf

set_option maxRecDepth 100000 in
set_option maxHeartbeats 8000000 in
theorem plays_law (a b c d : Int) (lv kv : Value) (nl nk : Nat) (F : Nat → DivD) (S : Nat → Nat × Nat) (w : World) (G : Gl w) (hl : DivsF w lv nl F) (hk : SetsAt w kv nk S)
    (hS : ∀ i, i < nk → (S i).1 < 18446744073709551616 ∧ (S i).2 < 18446744073709551616) :
    Calls Tryd.prog 9 #[.agg #[.int .i64 a, .int .i64 b, .int .i64 c, .int .i64 d], lv, kv] w fun e w' => e = .returned (.bool true) ∧ Below w.heap.size w w' := by
  obtain ⟨la, lc, rfl, hl1⟩ := id hl
  obtain ⟨ka, kc, rfl, hk1⟩ := id hk
  have KN := Lib.hid (fun W g => known_all W g)
  have CH := Lib.hid (fun W => chkp_any a b c d W)
  have HL0 := Lib.hid hl
  have HK0 := Lib.hid hk
  have HL := Lib.hid hl1
  have HK := Lib.hid hk1
  clear hl hk hl1 hk1
  obtain ⟨D, hD⟩ : ∃ D, w.heap.size = D := ⟨_, rfl⟩
  have hw0 : Below D w (w.alloc (.cells #[.int .i64 a, .int .i64 b, .int .i64 c, .int .i64 d] 23)) := (Below.refl _ w).alloc (by omega) _
  have hp0 : PlAt (w.alloc (.cells #[.int .i64 a, .int .i64 b, .int .i64 c, .int .i64 d] 23)) D a b c d := heap_new hD.symm
  have G0 : Gl (w.alloc (.cells #[.int .i64 a, .int .i64 b, .int .i64 c, .int .i64 d] 23)) := G.below (by rw [hD]; exact hw0)
  go_enter Tryd.func9, Tryd.ntmps9
  go_wp2_with fail
  refine (KN.out _ G0).mono ?_
  rintro e v1 ⟨rfl, hb1⟩
  have hw1 : Below D w v1 := hw0.trans (hb1.mono (by simp; omega))
  have hp1 := hp0.below hp0.lt hb1
  clear hw0 hp0 hb1 G0
  have c0 := cell4_0 hp1
  have c1 := cell4_1 hp1
  have c2 := cell4_2 hp1
  have c3 := cell4_3 hp1
  go_wp2_with fail
  refine (CH.out _).mono ?_
  rintro e v2 ⟨rfl, hb2⟩
  have hz1 : D ≤ v1.heap.size := by rw [← hD]; exact hw1.size
  have hw2 : Below D w v2 := hw1.trans (hb2.mono hz1)
  have hp2 := hp1.below hp1.lt hb2
  have hz2 : D ≤ v2.heap.size := by rw [← hD]; exact hw2.size
  have G2 : Gl v2 := G.below (by rw [hD]; exact hw2)
  clear c0 c1 c2 c3 hb2 hw1 hp1 hz1
  by_cases hx : chk a b c d = 0
  rotate_left
  · rw [chk_ne a b c d hx]
    go_wp2_with fail
    refine (KN.out _ G2).mono ?_
    rintro e v3 ⟨rfl, hb3⟩
    go_wp2
    go_ret
    exact ⟨rfl, by rw [hD]; exact hw2.trans (hb3.mono hz2)⟩
  by_cases hn : nl ≤ 4
  rotate_left
  · rw [hx]
    have hn4 : (4 : Int) < (nl : Int) := by omega
    go_wp2_with fail
    refine (KN.out _ G2).mono ?_
    rintro e v3 ⟨rfl, hb3⟩
    go_wp2
    go_ret
    exact ⟨rfl, by rw [hD]; exact hw2.trans (hb3.mono hz2)⟩
  have hn4 : ¬ (4 : Int) < (nl : Int) := by omega
  by_cases hm : nk ≤ 4
  rotate_left
  · rw [hx]
    have hm4 : (4 : Int) < (nk : Int) := by omega
    go_wp2_with fail
    refine (KN.out _ G2).mono ?_
    rintro e v3 ⟨rfl, hb3⟩
    go_wp2
    go_ret
    exact ⟨rfl, by rw [hD]; exact hw2.trans (hb3.mono hz2)⟩
  have hm4 : ¬ (4 : Int) < (nk : Int) := by omega
  obtain ⟨q, hq⟩ : ∃ q, (if nk ≠ nl then 5 else keyE F S nl) = q := ⟨_, rfl⟩
  obtain ⟨R, hR⟩ : ∃ R, (if q = 0 then possB a b c d F S nl else false) = R := ⟨_, rfl⟩
  have hpo := fun W g h1 h2 => poss_ok a b c d (.slice la nl lc) (.slice ka nk kc) nl nk F S W g hx h1 h2 hn hm hS q hq
  rw [hR] at hpo
  have PO := Lib.hid hpo
  have RN := Lib.hid (show q ≠ 0 → R = false from fun h => by rw [← hR, if_neg h])
  have RP := Lib.hid (show q = 0 → (!footB c d (plU (fun i => (F i).ped) S nl) && handB a b (plU (fun i => (F i).ped) S nl).hands) = R from fun h => by rw [← hR, if_pos h, poss_is a b c d (chk_d hx)])
  have HQ := Lib.hid hq
  rw [hx]
  have c0 := cell4_0 hp2
  have c1 := cell4_1 hp2
  have c2 := cell4_2 hp2
  have c3 := cell4_3 hp2
  have L2 : DivsF v2 (.slice la nl lc) nl F := HL0.out.below (by rw [hD]; exact hw2)
  have K2 : SetsAt v2 (.slice ka nk kc) nk S := HK0.out.below (by rw [hD]; exact hw2)
  clear hpo hR hq hx
  go_wp2_with fail
  refine (PO.out _ G2 L2 K2).mono ?_
  rintro e v3 ⟨rfl, hb3⟩
  have hw3 : Below D w v3 := hw2.trans (hb3.mono hz2)
  have hp3 := hp2.below hp2.lt hb3
  have hz3 : D ≤ v3.heap.size := by rw [← hD]; exact hw3.size
  clear c0 c1 c2 c3 hb3 hp2 L2 K2 PO hw2 hz2 G2
  by_cases hne : nk = nl
  rotate_left
  · have e1 := HQ.out
    rw [if_pos hne] at e1
    have e2 := RN.out (by rw [← e1]; decide)
    subst e1 e2
    have hni : ¬ ((nk : Int) = (nl : Int)) := by omega
    go_wp2
    go_ret
    exact ⟨rfl, by rw [hD]; exact hw3⟩
  subst hne
  have hq2 := HQ.out
  rw [if_neg (by simp)] at hq2
  have HQ2 := Lib.hid hq2
  clear hq2 HQ hm hm4
  go_wp2_with fail
  go_loopw [9] (fun i wr => ∃ k : Nat, k ≤ nk ∧ i = .int .i64 (k : Nat) ∧ keyE F S k = 0 ∧ Below (D + 1) v3 wr) (fun i _ => nk - (intOf i).toNat)
  case atStart => exact ⟨0, Nat.zero_le _, rfl, rfl, Below.refl _ _⟩
  case round =>
    obtain ⟨k, hk, rfl, hke, hwr⟩ := hrel
    have hpl := hp3.lt
    have hzr := hwr.size
    have hwD : Below D w wr := hw3.trans (hwr.mono (by omega))
    by_cases hkn : k < nk
    · have hkl : (k : Int) < (nk : Int) := by omega
      obtain ⟨gl, ol, rfl, hgl, hcl⟩ := HL.out (by omega)
      obtain ⟨g, o, rfl, hg, hck⟩ := HK.out (by omega)
      obtain ⟨z0, z1, z2, z3, z4⟩ := hcl k (by omega)
      obtain ⟨p0, p1⟩ := hck k (by omega)
      have hs := hS k (by omega)
      have NX := Lib.hid (fun hd => keyE_next F S k nk hke (by omega) hd)
      have NZ := Lib.hid (show divE (F k).lo (F k).hi (S k) = 0 → keyE F S (k + 1) = 0 from fun hd => by
        show (if keyE F S k ≠ 0 then keyE F S k else _) = _
        rw [if_neg (by simp [hke]), hd])
      have WJ := Lib.hid (wJ_is (F k).lo (F k).hi (S k))
      generalize F k = f at *
      generalize S k = s at *
      obtain ⟨nm, pd, l, h, sa, sn, sc⟩ := f
      simp only at z0 z1 z2 z3 z4 NX NZ WJ
      have hgD : g < D := by omega
      have hlD : gl < D := by omega
      have x2 := cell_upH hlD hwD z2
      have x3 := cell_upH hlD hwD z3
      have x4 : wr.cell? ⟨gl, ol + k * 5 + 2 + 1, none⟩ = some (.int .i64 h) := x3
      have CE := Lib.hid (fun W => check_any l h W)
      have LI := Lib.hid (fun W => list_c s.1 s.2 hs.1 hs.2 W)
      rw [show Ns.notes s.1 s.2 = setN s from rfl] at LI
      have hn128 : (setN s).length ≤ 128 := Ns.notes_length _ _
      generalize (setN s).length = ln at *
      generalize nth (setN s) = X at *
      clear z0 z1 z4 hcl hck
      go_wp2_with fail
      refine (CE.out _).mono ?_
      rintro e v4 ⟨rfl, rfl⟩
      have hb4 : Below wr.heap.size wr (wr.alloc (.cells #[.int .i64 l, .int .i64 h] 45)) := (Below.refl _ _).alloc (Nat.le_refl _) _
      have hw4 : Below D w (wr.alloc (.cells #[.int .i64 l, .int .i64 h] 45)) := hwD.trans (hb4.mono (by omega))
      have h4r : Below (D + 1) v3 (wr.alloc (.cells #[.int .i64 l, .int .i64 h] 45)) := hwr.trans (hb4.mono (by omega))
      have hz4 := hb4.size
      generalize wr.alloc (.cells #[.int .i64 l, .int .i64 h] 45) = v4 at *
      have p2 := cell_upH hgD hw4 p0
      have p3 := cell_upH hgD hw4 p1
      clear x2 x3 x4 hb4
      go_wp2_with fail
      refine (LI.out _).mono ?_
      rintro e v5 ⟨⟨nv, rfl, hnv⟩, hb5⟩
      have hw5 : Below D w v5 := hw4.trans (hb5.mono (by omega))
      have h5r : Below (D + 1) v3 v5 := h4r.trans (hb5.mono (by omega))
      have hz5 := hb5.size
      obtain ⟨na, nc, rfl⟩ := hnv.len
      have HNV := Lib.hid hnv
      clear p2 p3 hnv hb5 LI CE
      go_wp2_with fail
      go_loopw [10, 67] (fun cv j ws => ∃ i : Nat, i ≤ ln ∧ j = .int .i64 (i : Nat) ∧ cv = .int .i64 (wJ l h X i) ∧ Below v5.heap.size v5 ws) (fun _ j _ => ln - (intOf j).toNat)
      case atStart => exact ⟨0, Nat.zero_le _, rfl, rfl, Below.refl _ _⟩
      case round =>
        obtain ⟨i, hi, rfl, rfl, hws⟩ := hrel
        have hwsD : Below D w wr := hw5.trans (hws.mono (by omega))
        have x2 := cell_upH hlD hwsD z2
        have x3 := cell_upH hlD hwsD z3
        have x4 : wr.cell? ⟨gl, ol + k * 5 + 2 + 1, none⟩ = some (.int .i64 h) := x3
        by_cases hin : i < ln
        · have hil : (i : Int) < (ln : Int) := by omega
          have WN := Lib.hid (show wJ l h X (i + 1) = if wJ l h X i = 0 ∧ (X i < l ∨ h < X i) then 23 else wJ l h X i from rfl)
          rcases HNV.out with ⟨h0, _⟩ | ⟨ng, cap, e0, hnc, hng, hnx⟩
          · omega
          cases e0
          have n0 := (hws.cell (p := ⟨ng, 0 + i, none⟩) hng).trans (hnx i (by omega))
          rw [Nat.zero_add] at n0
          generalize wJ l h X i = z at *
          generalize X i = x at *
          by_cases hz : z = 0
          · subst hz
            by_cases hx1 : x < l
            · have e1 := WN.out
              rw [if_pos ⟨rfl, .inl hx1⟩] at e1
              go_wp2_with fail
              go_roundw
              case rel => exact ⟨i + 1, by omega, by go_num, by rw [e1], hws⟩
              case measure => simp [intOf]; omega
            · by_cases hx2 : h < x
              · have e1 := WN.out
                rw [if_pos ⟨rfl, .inr hx2⟩] at e1
                go_wp2_with fail
                go_roundw
                case rel => exact ⟨i + 1, by omega, by go_num, by rw [e1], hws⟩
                case measure => simp [intOf]; omega
              · have e1 := WN.out
                rw [if_neg (fun k => by rcases k.2 with k | k <;> omega)] at e1
                go_wp2_with fail
                go_roundw
                case rel => exact ⟨i + 1, by omega, by go_num, by rw [e1], hws⟩
                case measure => simp [intOf]; omega
          · have e1 := WN.out
            rw [if_neg (fun k => hz k.1)] at e1
            have hzz : (z == 0) = false := by simp [hz]
            go_wp2_with fail
            go_roundw
            case rel => exact ⟨i + 1, by omega, by go_num, by rw [e1], hws⟩
            case measure => simp [intOf]; omega
        · obtain rfl : i = ln := by omega
          have hil : ¬ (i : Int) < (i : Int) := by omega
          have wj := WJ.out
          generalize wJ l h X i = z at *
          subst wj
          generalize hdz : divE l h s = z at *
          have hwsR : Below (D + 1) v3 wr := h5r.trans (hws.mono (by omega))
          by_cases hz : z = 0
          · have nz := NZ.out hz
            subst hz
            go_wp2_with fail
            go_roundw
            case rel => exact ⟨k + 1, by omega, by go_num, nz, hwsR⟩
            case measure => simp [intOf]; omega
          · have nx := NX.out hz
            have e1 := HQ2.out
            rw [nx] at e1
            have e2 := RN.out (by rw [← e1]; exact hz)
            subst e1 e2
            have hzz : (z != 0) = true := by simp [hz]
            go_wp2
            go_ret
            exact ⟨by simp, by first | exact hwsD | (rw [hD]; exact hwsD)⟩
    · obtain rfl : k = nk := by omega
      have hkl : ¬ (k : Int) < (k : Int) := by omega
      have e1 := HQ2.out
      rw [hke] at e1
      have e2 := RP.out e1.symm
      subst e1
      have PL := plays_loop a b c d (.slice la k lc) (.slice ka k kc) k k k (fun i => (F i).ped) S wr ((HL0.out.below (by rw [hD]; exact hwD)).peds) (HK0.out.below (by rw [hD]; exact hwD)) (Nat.min_self k) hn hS
      rw [e2] at PL
      have HPL := Lib.hid PL
      have hP4 := hp3.below (show D < D + 1 by omega) hwr
      have c0 := cell4_0 hP4
      have c1 := cell4_1 hP4
      have c2 := cell4_2 hP4
      have c3 := cell4_3 hP4
      clear PL e2 RN RP HQ2
      go_wp2_with fail
      refine (HPL.out).mono ?_
      rintro e v5 ⟨rfl, hb5⟩
      go_wp2
      go_ret
      exact ⟨by simp, by rw [hD]; exact hwD.trans (hb5.mono (by omega))⟩
end Go.Proofs.YtinopmdefndhoaaDoor
