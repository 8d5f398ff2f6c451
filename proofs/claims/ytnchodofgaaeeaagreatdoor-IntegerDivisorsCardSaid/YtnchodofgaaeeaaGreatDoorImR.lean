/- The contracts of grouped and Parse. -/
import Derived.Test.YtnchodofgaaeeaaGreatDoorImN
import Derived.Test.YtnchodofgaaeeaaGreatDoorImQ
import Derived.Lib.SplitLaws
namespace Go.Proofs.YtnchodofgaaeeaaGreatDoor
open Go Go.RowKit Go.Shelf

theorem index_cons {b c : UInt8} {r : List UInt8} {i : Nat} (h : b ≠ c) (hi : Lib.index r [c] = i) : Lib.index (b :: r) [c] = (i + 1 : Nat) := by
  have hp : ([c] : List UInt8).isPrefixOf (b :: r) = false := by simp [List.isPrefixOf, Ne.symm h]
  have hix : Lib.index (b :: r) [c] = if Lib.index r [c] == -1 then -1 else Lib.index r [c] + 1 := by rw [Lib.index, hp]; simp
  rw [hix, if_neg (fun e => by have := beq_iff_eq.1 e; omega), hi]; omega
theorem replace_none (c : UInt8) : ∀ l : List UInt8, Lib.replaceK [c] [] (l.count c) l = l.filter (fun x => x != c)
  | [] => rfl
  | b :: r => by
    have ih := replace_none c r
    by_cases h : b = c
    · subst h
      rw [List.count_cons_self, Lib.replaceK_hit _ _ _ _ 0 (by rw [Lib.index_one]; simp [Lib.indexByte])]
      simpa using ih
    · rw [List.count_cons_of_ne h]
      rw [List.filter_cons, if_pos (by simpa using h), ← ih]
      cases hk : r.count c with
      | zero => rfl
      | succ k =>
        obtain ⟨i, hi⟩ := Lib.index_of_count (s := r) (old := [c]) (by rw [Lib.count_one, hk]; omega)
        rw [Lib.replaceK_hit _ _ _ _ (i + 1) (index_cons h hi), Lib.replaceK_hit _ _ _ _ i hi]
        simp
theorem replaceAll_none (l : List UInt8) : Lib.replaceAll l [32] [] = Im.noB l := by
  unfold Lib.replaceAll Lib.replace Im.noB
  rw [if_neg (by simp), show Lib.replaceNum l [32] (-1) = l.count 32 by unfold Lib.replaceNum; rw [if_pos (by omega), Lib.count_one]]
  exact replace_none 32 l
theorem has_one (l : List UInt8) (c : UInt8) : Lib.hasPrefix l [c] = decide (l.head? = some c) := by
  cases l with
  | nil => rfl
  | cons x r => by_cases h : x = c <;> simp [Lib.hasPrefix, h, List.isPrefixOf] <;> exact fun e => h e.symm
theorem trim_one (l : List UInt8) (c : UInt8) : Lib.trimPrefix l [c] = if l.head? = some c then l.tail else l := by
  unfold Lib.trimPrefix
  cases l with
  | nil => rfl
  | cons x r => by_cases h : x = c <;> simp [Lib.hasPrefix, h, List.isPrefixOf] <;> exact fun e => absurd e.symm h

set_option maxHeartbeats 1000000 in
theorem grouped_any (s : ByteArray) (hs : s.size ≤ 1048576) (w : World) :
    Calls Tryz.prog 58 #[.string s] w fun e w' => e = .returned (.bool (Im.gr false s.data.toList)) ∧ w' = w := by
  have hsl := size_list s
  have HSL := Lib.hid hsl
  have D := Lib.hid (fun b W => digit_any b W)
  obtain ⟨R, hR⟩ : ∃ R, Im.gr false s.data.toList = R := ⟨_, rfl⟩
  have HR := Lib.hid hR
  rw [hR]
  clear hR hsl
  go_enter Tryz.func58, Tryz.ntmps58
  go_wp2_with fail
  go_loop [3, 8] (fun b i => ∃ (k : Nat) (bb : Bool), k ≤ s.size ∧ b = .bool bb ∧ i = .int .i64 (k : Int) ∧ Im.gr bb (s.data.toList.drop k) = R) (fun _ i => s.size - (intOf i).toNat)
  case atStart => exact ⟨0, false, Nat.zero_le _, rfl, rfl, by rw [List.drop_zero]; exact HR.out⟩
  case round =>
    obtain ⟨k, bb, hk, rfl, rfl, ha⟩ := hrel
    by_cases h1 : k < s.size
    · have hkl : k < s.data.toList.length := by rw [HSL.out]; exact h1
      have hg := getElem_list s k h1 hkl
      rw [List.drop_eq_getElem_cons hkl, hg] at ha
      clear hg
      cases c1 : Im.isD s[k] with
      | true =>
        rw [Im.gr_d c1] at ha
        have HA := Lib.hid ha
        have d := fun W => D.out s[k] W
        rw [c1] at d
        have DD := Lib.hid d
        clear d c1 ha
        go_wp2_with fail
        refine (DD.out _).mono ?_
        rintro e w' ⟨rfl, rfl⟩
        go_wp2
        go_round
        case rel => exact ⟨k + 1, true, by omega, rfl, by go_num, HA.out⟩
        case measure => simp [intOf]; omega
      | false =>
        rw [Im.gr_o (by rw [c1]; simp)] at ha
        have d := fun W => D.out s[k] W
        rw [c1] at d
        by_cases h32 : s[k] = 32
        · have h32i : (s[k].toNat : Int) = 32 := by rw [h32]; rfl
          rw [h32i] at d
          have DD := Lib.hid d
          clear d c1
          cases bb with
          | true =>
            rw [if_pos ⟨h32, rfl⟩] at ha
            have HA := Lib.hid ha
            clear ha h32
            go_wp2_with fail
            refine (DD.out _).mono ?_
            rintro e w' ⟨rfl, rfl⟩
            go_wp2
            go_round
            case rel => exact ⟨k + 1, false, by omega, rfl, by go_num, HA.out⟩
            case measure => simp [intOf]; omega
          | false =>
            rw [if_neg (by simp)] at ha
            subst ha
            clear h32
            go_wp2_with fail
            refine (DD.out _).mono ?_
            rintro e w' ⟨rfl, rfl⟩
            go_wp2
            go_ret
            exact ⟨rfl, rfl⟩
        · rw [if_neg (fun e => h32 e.1)] at ha
          have DD := Lib.hid d
          clear d c1
          subst ha
          have h32i : ¬ (s[k].toNat : Int) = 32 := fun e => h32 (by apply UInt8.toNat_inj.1; show s[k].toNat = 32; omega)
          clear h32
          go_wp2_with fail
          refine (DD.out _).mono ?_
          rintro e w' ⟨rfl, rfl⟩
          go_wp2
          go_ret
          exact ⟨rfl, rfl⟩
    · obtain rfl : k = s.size := by omega
      rw [List.drop_of_length_le (by rw [HSL.out]; exact Nat.le_refl _)] at ha
      have hr : bb = R := ha
      subst hr
      clear ha
      go_wp2
      go_ret
      exact ⟨rfl, rfl⟩

theorem parse_empty (w : World) :
    Calls Tryz.prog 22 #[.string ⟨#[]⟩] w fun e w' => e = .returned (.tuple #[.string ⟨#[]⟩, .int .i64 13]) ∧ w' = w := by
  go_enter Tryz.func22, Tryz.ntmps22
  go_wp2
  exact bodyPost_ret (v := .tuple #[.string ⟨#[]⟩, .int .i64 13]) (by simp [results, Tryz.results22, go_sem]) rfl ⟨rfl, rfl⟩
theorem filter_le (l : List UInt8) : (Im.noB l).length ≤ l.length := List.length_filter_le _ _
theorem drop_le (l : List UInt8) : (Im.noZ l).length ≤ l.length := by
  unfold Im.noZ
  exact List.Sublist.length_le (List.dropWhile_sublist _)
set_option maxHeartbeats 2000000 in
theorem parse_neg (s : ByteArray) (hs : s.size ≤ 1048576) (w : World) (G : Gi w) (h0 : s.data.toList ≠ []) (hm : s.data.toList.head? = some 45) :
    Calls Tryz.prog 22 #[.string s] w fun e w' => e = .returned (.tuple #[.string ⟨(Im.prsL s.data.toList).toArray⟩, .int .i64 (Im.prsE s.data.toList)]) ∧ Below w.heap.size w w' := by
  have e1 : Im.prsL s.data.toList = if Im.gr false (Im.uns s.data.toList) = false then [] else if 400 < (Im.noZ (Im.noB (Im.uns s.data.toList))).length then [] else if Im.noZ (Im.noB (Im.uns s.data.toList)) = [] then [48] else 45 :: Im.noZ (Im.noB (Im.uns s.data.toList)) := by
    unfold Im.prsL
    rw [if_neg h0]
    simp only [hm, if_true]
  have e2 : Im.prsE s.data.toList = if Im.gr false (Im.uns s.data.toList) = false then 15 else if 400 < (Im.noZ (Im.noB (Im.uns s.data.toList))).length then 16 else 0 := by
    unfold Im.prsE
    rw [if_neg h0]
  rw [e1, e2]
  have cp := fun W => Tryz.strings_CutPrefix s ⟨#[45]⟩ W
  have hh : Lib.hasPrefix s.data.toList (ByteArray.mk #[45]).data.toList = true := by
    show Lib.hasPrefix s.data.toList [45] = _
    rw [has_one]; simp [hm]
  have hu : Lib.trimPrefix s.data.toList (ByteArray.mk #[45]).data.toList = Im.uns s.data.toList := by
    show Lib.trimPrefix s.data.toList [45] = _
    rw [trim_one, if_pos hm]; unfold Im.uns; rw [if_pos (.inl hm)]
  rw [hh, hu] at cp
  have CP := Lib.hid cp
  have hul : (Im.uns s.data.toList).length ≤ s.size := by
    rw [← size_list s]
    unfold Im.uns
    split
    · rw [List.length_tail]; omega
    · exact Nat.le_refl _
  have h0' : ¬ s.toList = [] := by rw [toList_eq]; exact h0
  have h0e : s.toList.isEmpty = false := by rw [toList_eq]; simpa using h0
  clear cp hh hu e1 e2 h0 hm
  generalize Im.uns s.data.toList = u at *
  have GRP := Lib.hid (fun W => grouped_any ⟨u.toArray⟩ (by rw [size_mk]; omega) W)
  have gl := filter_le u
  have gz := drop_le (Im.noB u)
  obtain ⟨mx, hmx⟩ := G.mx
  have RA := Lib.hid (fun W (h : W.cell? ⟨2, 0, none⟩ = some (.int .i64 mx)) => Tryz.strings_ReplaceAll ⟨u.toArray⟩ ⟨#[32]⟩ ⟨#[]⟩ mx W (by rw [size_mk]; omega) h (by decide) (by rw [size_mk, show (ByteArray.mk #[]).size = 0 from rfl, Nat.mul_zero]; omega))
  have hra : Lib.replaceAll (ByteArray.mk u.toArray).data.toList (ByteArray.mk #[32]).data.toList (ByteArray.mk #[]).data.toList = Im.noB u := replaceAll_none u
  rw [hra] at RA
  have TL := Lib.hid (fun W => Tryz.strings_TrimLeft_one ⟨(Im.noB u).toArray⟩ 48 (by decide) W)
  have htl : Lib.trimLeftB (ByteArray.mk (Im.noB u).toArray).data.toList 48 = Im.noZ (Im.noB u) := rfl
  rw [htl] at TL
  have hgl : (ByteArray.mk u.toArray).data.toList = u := rfl
  rw [hgl] at GRP
  have HM := Lib.hid hmx
  clear hra htl hgl hmx
  generalize Im.noZ (Im.noB u) = m at *
  generalize Im.noB u = nb at *
  have hml : m.length ≤ 1048576 := by omega
  cases hg : Im.gr false u with
  | false =>
    rw [hg] at GRP
    simp only [if_true]
    clear RA TL hg
    go_enter Tryz.func22, Tryz.ntmps22
    go_wp2_with fail
    refine (CP.out _).mono ?_
    rintro e w' ⟨rfl, hww⟩
    subst w'
    go_wp2_with fail
    refine (GRP.out _).mono ?_
    rintro e w' ⟨rfl, hww⟩
    subst w'
    go_wp2
    exact bodyPost_ret (v := .tuple #[.string ⟨#[]⟩, .int .i64 15]) (by simp [results, Tryz.results22, go_sem]) rfl ⟨rfl, Below.refl _ _⟩
  | true =>
    rw [hg] at GRP
    simp only [Bool.true_eq_false, if_false]
    clear hg
    by_cases h4 : 400 < m.length
    · rw [if_pos h4, if_pos h4]
      have h4i : (400 : Int) < (m.length : Int) := by omega
      go_enter Tryz.func22, Tryz.ntmps22
      go_wp2_with fail
      refine (CP.out _).mono ?_
      rintro e w' ⟨rfl, hww⟩
      subst w'
      go_wp2_with fail
      refine (GRP.out _).mono ?_
      rintro e w' ⟨rfl, hww⟩
      subst w'
      go_wp2_with fail
      refine (RA.out _ HM.out).mono ?_
      rintro e w1 ⟨rfl, hb1⟩
      go_wp2_with fail
      refine (TL.out _).mono ?_
      rintro e w' ⟨rfl, hww⟩
      subst w'
      go_wp2
      exact bodyPost_ret (v := .tuple #[.string ⟨#[]⟩, .int .i64 16]) (by simp [results, Tryz.results22, go_sem]) rfl ⟨rfl, hb1⟩
    · rw [if_neg h4, if_neg h4]
      have h4i : ¬ (400 : Int) < (m.length : Int) := by omega
      have ha45 : (ByteArray.mk #[45]) ++ (ByteArray.mk m.toArray) = ⟨(45 :: m).toArray⟩ := ext_bytes (by simp)
      by_cases hm0 : m = []
      · rw [if_pos hm0]
        subst hm0
        go_enter Tryz.func22, Tryz.ntmps22
        go_wp2_with fail
        refine (CP.out _).mono ?_
        rintro e w' ⟨rfl, hww⟩
        subst w'
        go_wp2_with fail
        refine (GRP.out _).mono ?_
        rintro e w' ⟨rfl, hww⟩
        subst w'
        go_wp2_with fail
        refine (RA.out _ HM.out).mono ?_
        rintro e w1 ⟨rfl, hb1⟩
        go_wp2_with fail
        refine (TL.out _).mono ?_
        rintro e w' ⟨rfl, hww⟩
        subst w'
        go_wp2
        exact bodyPost_ret (v := .tuple #[.string ⟨#[48]⟩, .int .i64 0]) (by simp [results, Tryz.results22, go_sem]) rfl ⟨rfl, hb1⟩
      · rw [if_neg hm0]
        have hm1 : ¬ (ByteArray.mk m.toArray).toList = [] := by rw [toList_eq]; exact hm0
        have hm2 : m.isEmpty = false := by simpa using hm0
        go_enter Tryz.func22, Tryz.ntmps22
        go_wp2_with fail
        refine (CP.out _).mono ?_
        rintro e w' ⟨rfl, hww⟩
        subst w'
        go_wp2_with fail
        refine (GRP.out _).mono ?_
        rintro e w' ⟨rfl, hww⟩
        subst w'
        go_wp2_with fail
        refine (RA.out _ HM.out).mono ?_
        rintro e w1 ⟨rfl, hb1⟩
        go_wp2_with fail
        refine (TL.out _).mono ?_
        rintro e w' ⟨rfl, hww⟩
        subst w'
        go_wp2
        exact bodyPost_ret (v := .tuple #[.string ⟨(45 :: m).toArray⟩, .int .i64 0]) (by simp [results, Tryz.results22, go_sem]) rfl ⟨rfl, hb1⟩
set_option maxHeartbeats 2000000 in
theorem parse_pos (s : ByteArray) (hs : s.size ≤ 1048576) (w : World) (G : Gi w) (h0 : s.data.toList ≠ []) (hm : ¬ s.data.toList.head? = some 45) :
    Calls Tryz.prog 22 #[.string s] w fun e w' => e = .returned (.tuple #[.string ⟨(Im.prsL s.data.toList).toArray⟩, .int .i64 (Im.prsE s.data.toList)]) ∧ Below w.heap.size w w' := by
  have e1 : Im.prsL s.data.toList = if Im.gr false (Im.uns s.data.toList) = false then [] else if 400 < (Im.noZ (Im.noB (Im.uns s.data.toList))).length then [] else if Im.noZ (Im.noB (Im.uns s.data.toList)) = [] then [48] else Im.noZ (Im.noB (Im.uns s.data.toList)) := by
    unfold Im.prsL
    rw [if_neg h0]
    simp only [hm, if_false]
  have e2 : Im.prsE s.data.toList = if Im.gr false (Im.uns s.data.toList) = false then 15 else if 400 < (Im.noZ (Im.noB (Im.uns s.data.toList))).length then 16 else 0 := by
    unfold Im.prsE
    rw [if_neg h0]
  rw [e1, e2]
  have cp := fun W => Tryz.strings_CutPrefix s ⟨#[45]⟩ W
  have hh : Lib.hasPrefix s.data.toList (ByteArray.mk #[45]).data.toList = false := by
    show Lib.hasPrefix s.data.toList [45] = _
    rw [has_one]; simp [hm]
  have tp := fun W => Tryz.strings_TrimPrefix s ⟨#[43]⟩ W
  have hu : Lib.trimPrefix s.data.toList (ByteArray.mk #[43]).data.toList = Im.uns s.data.toList := by
    show Lib.trimPrefix s.data.toList [43] = _
    rw [trim_one]
    unfold Im.uns
    by_cases hp : s.data.toList.head? = some 43
    · rw [if_pos hp, if_pos (.inr hp)]
    · rw [if_neg hp, if_neg (by simp [hm, hp])]
  rw [hh] at cp
  rw [hu] at tp
  have TP := Lib.hid tp
  clear tp
  have CP := Lib.hid cp
  have hul : (Im.uns s.data.toList).length ≤ s.size := by
    rw [← size_list s]
    unfold Im.uns
    split
    · rw [List.length_tail]; omega
    · exact Nat.le_refl _
  have h0' : ¬ s.toList = [] := by rw [toList_eq]; exact h0
  have h0e : s.toList.isEmpty = false := by rw [toList_eq]; simpa using h0
  clear cp hh hu e1 e2 h0 hm
  generalize Im.uns s.data.toList = u at *
  have GRP := Lib.hid (fun W => grouped_any ⟨u.toArray⟩ (by rw [size_mk]; omega) W)
  have gl := filter_le u
  have gz := drop_le (Im.noB u)
  obtain ⟨mx, hmx⟩ := G.mx
  have RA := Lib.hid (fun W (h : W.cell? ⟨2, 0, none⟩ = some (.int .i64 mx)) => Tryz.strings_ReplaceAll ⟨u.toArray⟩ ⟨#[32]⟩ ⟨#[]⟩ mx W (by rw [size_mk]; omega) h (by decide) (by rw [size_mk, show (ByteArray.mk #[]).size = 0 from rfl, Nat.mul_zero]; omega))
  have hra : Lib.replaceAll (ByteArray.mk u.toArray).data.toList (ByteArray.mk #[32]).data.toList (ByteArray.mk #[]).data.toList = Im.noB u := replaceAll_none u
  rw [hra] at RA
  have TL := Lib.hid (fun W => Tryz.strings_TrimLeft_one ⟨(Im.noB u).toArray⟩ 48 (by decide) W)
  have htl : Lib.trimLeftB (ByteArray.mk (Im.noB u).toArray).data.toList 48 = Im.noZ (Im.noB u) := rfl
  rw [htl] at TL
  have hgl : (ByteArray.mk u.toArray).data.toList = u := rfl
  rw [hgl] at GRP
  have HM := Lib.hid hmx
  clear hra htl hgl hmx
  generalize Im.noZ (Im.noB u) = m at *
  generalize Im.noB u = nb at *
  have hml : m.length ≤ 1048576 := by omega
  cases hg : Im.gr false u with
  | false =>
    rw [hg] at GRP
    simp only [if_true]
    clear RA TL hg
    go_enter Tryz.func22, Tryz.ntmps22
    go_wp2_with fail
    refine (CP.out _).mono ?_
    rintro e w' ⟨rfl, hww⟩
    subst w'
    go_wp2_with fail
    refine (TP.out _).mono ?_
    rintro e w' ⟨rfl, hww⟩
    subst w'
    go_wp2_with fail
    refine (GRP.out _).mono ?_
    rintro e w' ⟨rfl, hww⟩
    subst w'
    go_wp2
    exact bodyPost_ret (v := .tuple #[.string ⟨#[]⟩, .int .i64 15]) (by simp [results, Tryz.results22, go_sem]) rfl ⟨rfl, Below.refl _ _⟩
  | true =>
    rw [hg] at GRP
    simp only [Bool.true_eq_false, if_false]
    clear hg
    by_cases h4 : 400 < m.length
    · rw [if_pos h4, if_pos h4]
      have h4i : (400 : Int) < (m.length : Int) := by omega
      go_enter Tryz.func22, Tryz.ntmps22
      go_wp2_with fail
      refine (CP.out _).mono ?_
      rintro e w' ⟨rfl, hww⟩
      subst w'
      go_wp2_with fail
      refine (TP.out _).mono ?_
      rintro e w' ⟨rfl, hww⟩
      subst w'
      go_wp2_with fail
      refine (GRP.out _).mono ?_
      rintro e w' ⟨rfl, hww⟩
      subst w'
      go_wp2_with fail
      refine (RA.out _ HM.out).mono ?_
      rintro e w1 ⟨rfl, hb1⟩
      go_wp2_with fail
      refine (TL.out _).mono ?_
      rintro e w' ⟨rfl, hww⟩
      subst w'
      go_wp2
      exact bodyPost_ret (v := .tuple #[.string ⟨#[]⟩, .int .i64 16]) (by simp [results, Tryz.results22, go_sem]) rfl ⟨rfl, hb1⟩
    · rw [if_neg h4, if_neg h4]
      have h4i : ¬ (400 : Int) < (m.length : Int) := by omega
      have ha45 : (ByteArray.mk #[45]) ++ (ByteArray.mk m.toArray) = ⟨(45 :: m).toArray⟩ := ext_bytes (by simp)
      by_cases hm0 : m = []
      · rw [if_pos hm0]
        subst hm0
        go_enter Tryz.func22, Tryz.ntmps22
        go_wp2_with fail
        refine (CP.out _).mono ?_
        rintro e w' ⟨rfl, hww⟩
        subst w'
        go_wp2_with fail
        refine (TP.out _).mono ?_
        rintro e w' ⟨rfl, hww⟩
        subst w'
        go_wp2_with fail
        refine (GRP.out _).mono ?_
        rintro e w' ⟨rfl, hww⟩
        subst w'
        go_wp2_with fail
        refine (RA.out _ HM.out).mono ?_
        rintro e w1 ⟨rfl, hb1⟩
        go_wp2_with fail
        refine (TL.out _).mono ?_
        rintro e w' ⟨rfl, hww⟩
        subst w'
        go_wp2
        exact bodyPost_ret (v := .tuple #[.string ⟨#[48]⟩, .int .i64 0]) (by simp [results, Tryz.results22, go_sem]) rfl ⟨rfl, hb1⟩
      · rw [if_neg hm0]
        have hm1 : ¬ (ByteArray.mk m.toArray).toList = [] := by rw [toList_eq]; exact hm0
        have hm2 : m.isEmpty = false := by simpa using hm0
        go_enter Tryz.func22, Tryz.ntmps22
        go_wp2_with fail
        refine (CP.out _).mono ?_
        rintro e w' ⟨rfl, hww⟩
        subst w'
        go_wp2_with fail
        refine (TP.out _).mono ?_
        rintro e w' ⟨rfl, hww⟩
        subst w'
        go_wp2_with fail
        refine (GRP.out _).mono ?_
        rintro e w' ⟨rfl, hww⟩
        subst w'
        go_wp2_with fail
        refine (RA.out _ HM.out).mono ?_
        rintro e w1 ⟨rfl, hb1⟩
        go_wp2_with fail
        refine (TL.out _).mono ?_
        rintro e w' ⟨rfl, hww⟩
        subst w'
        go_wp2
        exact bodyPost_ret (v := .tuple #[.string ⟨m.toArray⟩, .int .i64 0]) (by simp [results, Tryz.results22, go_sem]) rfl ⟨rfl, hb1⟩
theorem parse_any (s : ByteArray) (hs : s.size ≤ 1048576) (w : World) (G : Gi w) :
    Calls Tryz.prog 22 #[.string s] w fun e w' => e = .returned (.tuple #[.string ⟨(Im.prsL s.data.toList).toArray⟩, .int .i64 (Im.prsE s.data.toList)]) ∧ Below w.heap.size w w' := by
  by_cases h0 : s.data.toList = []
  · obtain rfl : s = ⟨#[]⟩ := ext_bytes h0
    exact (parse_empty w).mono fun e w' ⟨h, h'⟩ => ⟨h, h' ▸ Below.refl _ _⟩
  · by_cases hm : s.data.toList.head? = some 45
    · exact parse_neg s hs w G h0 hm
    · exact parse_pos s hs w G h0 hm
end Go.Proofs.YtnchodofgaaeeaaGreatDoor
