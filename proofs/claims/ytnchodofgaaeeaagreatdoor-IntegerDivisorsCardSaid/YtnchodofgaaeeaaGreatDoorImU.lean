/- The reference's Cut, Canonical, Right, Of, Small; fits. -/
import Derived.Test.YtnchodofgaaeeaaGreatDoorImT
namespace Go.Proofs.YtnchodofgaaeeaaGreatDoor
open Go Go.RowKit Go.Shelf

theorem drew_below (w : World) (m : Nat) : Below w.heap.size w (w.drewN m) := ⟨rfl, rfl, rfl, Nat.le_refl _, fun _ _ => rfl⟩
def mns (l : List UInt8) : Bool := decide (l.head? = some 45)

set_option maxHeartbeats 1000000 in
theorem cut_any (s : ByteArray) (hs : s.size ≤ 1048576) (w : World) :
    Calls Tryz.prog 45 #[.string s] w fun e w' => e = .returned (.tuple #[.bool (mns s.data.toList), .string ⟨(Im.dgs s.data.toList).toArray⟩]) ∧ ∃ m, w' = w.drewN m := by
  have H := Lib.hid (fun W => Tryz.strings_HasPrefix s ⟨#[45]⟩ W)
  have hh : Lib.hasPrefix s.data.toList (ByteArray.mk #[45]).data.toList = mns s.data.toList := has_one _ _
  rw [hh] at H
  cases hm : mns s.data.toList with
  | true =>
    rw [hm] at H
    have hm' : s.data.toList.head? = some 45 := by simpa [mns] using hm
    have h1 : 1 ≤ s.size := by
      rw [← size_list]
      cases hl : s.data.toList with
      | nil => rw [hl] at hm'; simp at hm'
      | cons _ _ => simp
    have he : s.extract 1 s.size = ⟨(Im.dgs s.data.toList).toArray⟩ := by
      refine bytes_ext ?_
      rw [extract_list, ← size_list, List.take_length]
      unfold Im.dgs
      rw [if_pos hm', List.drop_one]
    have h1i : (1 : Int) ≤ (s.size : Int) := by omega
    rw [← he]
    clear hh hm hm' he
    go_enter Tryz.func45, Tryz.ntmps45
    go_wp2_with fail
    refine (H.out _).mono ?_
    rintro e w' ⟨rfl, rfl⟩
    go_wp2_with (go_quiet (fail))
    exact bodyPost_ret (v := .tuple #[.bool true, .string (s.extract 1 s.size)]) (by simp [results, Tryz.results45, go_sem]) rfl ⟨rfl, _, rfl⟩
  | false =>
    rw [hm] at H
    have hm' : ¬ s.data.toList.head? = some 45 := by simpa [mns] using hm
    have he : s = ⟨(Im.dgs s.data.toList).toArray⟩ := by
      apply ext_bytes
      unfold Im.dgs
      rw [if_neg hm']
    rw [← he]
    clear hh hm hm' he
    go_enter Tryz.func45, Tryz.ntmps45
    go_wp2_with fail
    refine (H.out _).mono ?_
    rintro e w' ⟨rfl, rfl⟩
    go_wp2_with (go_quiet (fail))
    exact bodyPost_ret (v := .tuple #[.bool false, .string s]) (by simp [results, Tryz.results45, go_sem]) rfl ⟨rfl, 0, rfl⟩
/-- CANON -/
theorem rcanon_none (s : ByteArray) (mn : Bool) (C : Hid (∀ W, Calls Tryz.prog 45 #[.string s] W fun e w' => e = .returned (.tuple #[.bool mn, .string ⟨#[]⟩]) ∧ ∃ m, w' = W.drewN m)) (w : World) :
    Calls Tryz.prog 18 #[.string s] w fun e w' => e = .returned (.bool false) ∧ ∃ m, w' = w.drewN m := by
  go_enter Tryz.func18, Tryz.ntmps18
  go_wp2_with fail
  refine (C.out _).mono ?_
  rintro e w1 ⟨rfl, m1, rfl⟩
  go_wp2
  go_ret
  exact ⟨rfl, m1, rfl⟩
set_option maxHeartbeats 1000000 in
theorem rcanon_bad (s : ByteArray) (mn : Bool) (d : ByteArray) (hd : 1 ≤ d.size) (h48 : (d[0].toNat : Int) = 48) (hg : mn = true ∨ (mn = false ∧ 1 < d.size)) (hds : d.size ≤ 1048576) (C : Hid (∀ W, Calls Tryz.prog 45 #[.string s] W fun e w' => e = .returned (.tuple #[.bool mn, .string d]) ∧ ∃ m, w' = W.drewN m)) (w : World) :
    Calls Tryz.prog 18 #[.string s] w fun e w' => e = .returned (.bool false) ∧ ∃ m, w' = w.drewN m := by
  have hd0 : ¬ d.toList = [] := by
    rw [toList_eq]; intro e
    have := size_list d
    rw [e] at this; simp at this; omega
  have hde : d.toList.isEmpty = false := by simpa using hd0
  rcases hg with rfl | ⟨rfl, hg⟩
  · go_enter Tryz.func18, Tryz.ntmps18
    go_wp2_with fail
    refine (C.out _).mono ?_
    rintro e w1 ⟨rfl, m1, rfl⟩
    go_wp2
    go_ret
    exact ⟨rfl, m1, rfl⟩
  · have hgi : (1 : Int) < (d.size : Int) := by omega
    go_enter Tryz.func18, Tryz.ntmps18
    go_wp2_with fail
    refine (C.out _).mono ?_
    rintro e w1 ⟨rfl, m1, rfl⟩
    go_wp2
    go_ret
    exact ⟨rfl, m1, rfl⟩
set_option maxHeartbeats 2000000 in
theorem rcanon_ok (s : ByteArray) (mn : Bool) (d : ByteArray) (hd : 1 ≤ d.size) (hg : ¬ (d[0].toNat : Int) = 48 ∨ (mn = false ∧ d.size = 1)) (hds : d.size ≤ 1048576) (C : Hid (∀ W, Calls Tryz.prog 45 #[.string s] W fun e w' => e = .returned (.tuple #[.bool mn, .string d]) ∧ ∃ m, w' = W.drewN m)) (w : World) :
    Calls Tryz.prog 18 #[.string s] w fun e w' => e = .returned (.bool (d.data.toList.all Im.isD)) ∧ ∃ m, w' = w.drewN m := by
  have hd0 : ¬ d.toList = [] := by
    rw [toList_eq]; intro e
    have := size_list d
    rw [e] at this; simp at this; omega
  have hde : d.toList.isEmpty = false := by simpa using hd0
  have hsl := size_list d
  have HSL := Lib.hid hsl
  obtain ⟨R, hR⟩ : ∃ R, d.data.toList.all Im.isD = R := ⟨_, rfl⟩
  have HR := Lib.hid hR
  rw [hR]
  clear hR hsl
  by_cases h48 : (d[0].toNat : Int) = 48
  · obtain ⟨rfl, hg⟩ : mn = false ∧ d.size = 1 := by
      rcases hg with h | h
      · exact absurd h48 h
      · exact h
    have hgi : ¬ (1 : Int) < (d.size : Int) := by omega
    clear hg
    go_enter Tryz.func18, Tryz.ntmps18
    go_wp2_with fail
    refine (C.out _).mono ?_
    rintro e w1 ⟨rfl, m1, rfl⟩
    go_wp2_with fail
    go_loop [5] (fun i => ∃ k : Nat, k ≤ d.size ∧ i = .int .i64 (k : Int) ∧ (d.data.toList.take k).all Im.isD = true) (fun i => d.size - (intOf i).toNat)
    case atStart => exact ⟨0, Nat.zero_le _, rfl, rfl⟩
    case round =>
      obtain ⟨k, hk, rfl, ha⟩ := hrel
      have HA := Lib.hid ha
      clear ha
      by_cases h1 : k < d.size
      · have hkl : k < d.data.toList.length := by rw [HSL.out]; exact h1
        have hg := getElem_list d k h1 hkl
        have HG := Lib.hid hg
        clear hg
        cases c1 : Im.isD d[k] with
        | false =>
          have hr : R = false := by rw [← HR.out]; exact all_false hkl (by rw [HG.out]; exact c1)
          subst hr
          by_cases c2 : d[k].toNat < 48
          · have c3 : (d[k].toNat : Int) < 48 := by omega
            clear c1
            go_wp2
            go_ret
            exact ⟨rfl, m1, rfl⟩
          · have c3 : ¬ (d[k].toNat : Int) < 48 := by omega
            have c4 : (57 : Int) < (d[k].toNat : Int) := by
              rcases Nat.lt_or_ge 57 d[k].toNat with h5 | h5
              · omega
              · have := Im.isD_iff.2 ⟨by omega, h5⟩
                rw [this] at c1; cases c1
            clear c1
            go_wp2
            go_ret
            exact ⟨rfl, m1, rfl⟩
        | true =>
          have hn := take_all hkl HA.out (by rw [HG.out]; exact c1)
          have HN := Lib.hid hn
          obtain ⟨c2, c3⟩ := Im.isD_iff.1 c1
          have c4 : ¬ (d[k].toNat : Int) < 48 := by omega
          have c5 : ¬ (57 : Int) < (d[k].toNat : Int) := by omega
          clear hn c1
          go_wp2
          go_round
          case rel => exact ⟨k + 1, by omega, by go_num, HN.out⟩
          case measure => simp [intOf]; omega
      · obtain rfl : k = d.size := by omega
        have ha := HA.out
        rw [List.take_of_length_le (by rw [HSL.out]; exact Nat.le_refl _)] at ha
        have hr : true = R := by rw [← HR.out, ha]
        subst hr
        clear ha
        go_wp2
        go_ret
        exact ⟨rfl, m1, rfl⟩
  · clear hg
    go_enter Tryz.func18, Tryz.ntmps18
    go_wp2_with fail
    refine (C.out _).mono ?_
    rintro e w1 ⟨rfl, m1, rfl⟩
    go_wp2_with fail
    go_loop [5] (fun i => ∃ k : Nat, k ≤ d.size ∧ i = .int .i64 (k : Int) ∧ (d.data.toList.take k).all Im.isD = true) (fun i => d.size - (intOf i).toNat)
    case atStart => exact ⟨0, Nat.zero_le _, rfl, rfl⟩
    case round =>
      obtain ⟨k, hk, rfl, ha⟩ := hrel
      have HA := Lib.hid ha
      clear ha
      by_cases h1 : k < d.size
      · have hkl : k < d.data.toList.length := by rw [HSL.out]; exact h1
        have hg := getElem_list d k h1 hkl
        have HG := Lib.hid hg
        clear hg
        cases c1 : Im.isD d[k] with
        | false =>
          have hr : R = false := by rw [← HR.out]; exact all_false hkl (by rw [HG.out]; exact c1)
          subst hr
          by_cases c2 : d[k].toNat < 48
          · have c3 : (d[k].toNat : Int) < 48 := by omega
            clear c1
            go_wp2
            go_ret
            exact ⟨rfl, m1, rfl⟩
          · have c3 : ¬ (d[k].toNat : Int) < 48 := by omega
            have c4 : (57 : Int) < (d[k].toNat : Int) := by
              rcases Nat.lt_or_ge 57 d[k].toNat with h5 | h5
              · omega
              · have := Im.isD_iff.2 ⟨by omega, h5⟩
                rw [this] at c1; cases c1
            clear c1
            go_wp2
            go_ret
            exact ⟨rfl, m1, rfl⟩
        | true =>
          have hn := take_all hkl HA.out (by rw [HG.out]; exact c1)
          have HN := Lib.hid hn
          obtain ⟨c2, c3⟩ := Im.isD_iff.1 c1
          have c4 : ¬ (d[k].toNat : Int) < 48 := by omega
          have c5 : ¬ (57 : Int) < (d[k].toNat : Int) := by omega
          clear hn c1
          go_wp2
          go_round
          case rel => exact ⟨k + 1, by omega, by go_num, HN.out⟩
          case measure => simp [intOf]; omega
      · obtain rfl : k = d.size := by omega
        have ha := HA.out
        rw [List.take_of_length_le (by rw [HSL.out]; exact Nat.le_refl _)] at ha
        have hr : true = R := by rw [← HR.out, ha]
        subst hr
        clear ha
        go_wp2
        go_ret
        exact ⟨rfl, m1, rfl⟩
theorem rcanon_any (s : ByteArray) (hs : s.size ≤ 1048576) (w : World) :
    Calls Tryz.prog 18 #[.string s] w fun e w' => e = .returned (.bool (Im.canonI s.data.toList)) ∧ ∃ m, w' = w.drewN m := by
  have C := Lib.hid (fun W => cut_any s hs W)
  have hlen := dgs_len s.data.toList
  rw [size_list] at hlen
  obtain ⟨d, hd⟩ : ∃ d : ByteArray, ⟨(Im.dgs s.data.toList).toArray⟩ = d := ⟨_, rfl⟩
  have hdl : d.data.toList = Im.dgs s.data.toList := by rw [← hd]
  rw [hd] at C
  have hsz : d.size ≤ 1048576 := by rw [← size_list, hdl]; omega
  cases hl : Im.dgs s.data.toList with
  | nil =>
    have e : Im.canonI s.data.toList = false := by
      unfold Im.canonI
      rw [hl]
      have : s.data.toList ≠ [48] := fun e => by rw [e] at hl; cases hl
      simp [this]
    rw [hl] at hd
    subst hd
    rw [e]
    exact rcanon_none s _ C w
  | cons c r =>
    have h1 : 1 ≤ d.size := by rw [← size_list, hdl, hl]; simp
    have hc : d[0] = c := by
      rw [← getElem_list d 0 (by omega) (by rw [size_list]; omega)]
      simp [hdl, hl]
    by_cases h48 : c = 48
    · subst h48
      have h48i : (d[0].toNat : Int) = 48 := by rw [hc]; rfl
      by_cases hm : mns s.data.toList = true ∨ (mns s.data.toList = false ∧ 1 < d.size)
      · have e : Im.canonI s.data.toList = false := by
          unfold Im.canonI
          have : s.data.toList ≠ [48] := fun e => by
            rw [e] at hm hl
            rw [← size_list, hdl, e] at hm
            rcases hm with hm | ⟨_, hm⟩
            · exact absurd hm (by decide)
            · exact absurd hm (by decide)
          rw [hl]
          simp [this]
        rw [e]
        exact rcanon_bad s _ d h1 h48i hm hsz C w
      · have hm1 : mns s.data.toList = false ∧ d.size = 1 := by
          cases hm2 : mns s.data.toList with
          | true => exact absurd (.inl hm2) hm
          | false => exact ⟨rfl, by have : ¬ 1 < d.size := fun h => hm (.inr ⟨hm2, h⟩); omega⟩
        have hr : r = [] := by
          have h2 := hm1.2
          rw [← size_list, hdl, hl] at h2
          simpa using h2
        subst hr
        have hl2 : s.data.toList = [48] := by
          have h3 := hm1.1
          unfold mns at h3
          unfold Im.dgs at hl
          rw [if_neg (by simpa using h3)] at hl
          exact hl
        have e : Im.canonI s.data.toList = d.data.toList.all Im.isD := by rw [hdl, hl, hl2]; rfl
        rw [e]
        exact rcanon_ok s _ d h1 (.inr hm1) hsz C w
    · have h48i : ¬ (d[0].toNat : Int) = 48 := by
        rw [hc]; intro e; exact h48 (by apply UInt8.toNat_inj.1; show c.toNat = 48; omega)
      have e : Im.canonI s.data.toList = d.data.toList.all Im.isD := by
        unfold Im.canonI
        have h3 : s.data.toList ≠ [48] := fun e => by rw [e] at hl; cases hl; exact h48 rfl
        have h4 : (some c != some (48 : UInt8)) = true := by simp [h48]
        rw [hdl, hl, beq_eq_false_iff_ne.2 h3]
        simp [h4]
      rw [e]
      exact rcanon_ok s _ d h1 (.inl h48i) hsz C w

/-- What Right returns. -/
def rightL (l : List UInt8) : Bool := Im.canonI l && decide ((Im.dgs l).length ≤ 400)
theorem right_any (s : ByteArray) (hs : s.size ≤ 1048576) (w : World) :
    Calls Tryz.prog 14 #[.string s] w fun e w' => e = .returned (.bool (rightL s.data.toList)) ∧ ∃ m, w' = w.drewN m := by
  have C := Lib.hid (fun W => cut_any s hs W)
  have K := Lib.hid (fun W => rcanon_any s hs W)
  have hlen := dgs_len s.data.toList
  rw [size_list] at hlen
  have e : rightL s.data.toList = (Im.canonI s.data.toList && decide (((Im.dgs s.data.toList).length : Int) ≤ 400)) := by
    unfold rightL
    congr 2
    apply propext
    omega
  rw [e]
  clear e
  generalize Im.dgs s.data.toList = d at *
  cases hc : Im.canonI s.data.toList with
  | false =>
    rw [hc] at K
    go_enter Tryz.func14, Tryz.ntmps14
    go_wp2_with fail
    refine (C.out _).mono ?_
    rintro e w1 ⟨rfl, m1, rfl⟩
    go_wp2_with fail
    refine (K.out _).mono ?_
    rintro e w2 ⟨rfl, m2, rfl⟩
    go_wp2
    go_ret
    exact ⟨rfl, m1 + m2, rfl⟩
  | true =>
    rw [hc] at K
    go_enter Tryz.func14, Tryz.ntmps14
    go_wp2_with fail
    refine (C.out _).mono ?_
    rintro e w1 ⟨rfl, m1, rfl⟩
    go_wp2_with fail
    refine (K.out _).mono ?_
    rintro e w2 ⟨rfl, m2, rfl⟩
    go_wp2
    go_ret
    exact ⟨rfl, m1 + m2, rfl⟩
theorem rof_any (n : Int) (h0 : -9223372036854775808 ≤ n) (h1 : n ≤ 9223372036854775807) (w : World) (G : Gi w) :
    Calls Tryz.prog 17 #[.int .i64 n] w fun e w' => e = .returned (.string (tz n)) ∧ Below w.heap.size w w' := by
  have T := Lib.hid (Tryz.strconv_Itoa n h0 h1 w G.tab)
  go_enter Tryz.func17, Tryz.ntmps17
  go_wp2_with fail
  refine T.out.mono ?_
  rintro e w' ⟨rfl, k, os, rfl⟩
  go_wp2
  go_ret
  exact ⟨rfl, Lib.below_grow _ w (Nat.le_refl _) k os⟩
theorem rsmall_any (s : ByteArray) (hs : s.size ≤ 1048576) (hc : Im.canonI s.data.toList = true) (w : World) :
    Calls Tryz.prog 20 #[.string s] w fun e w' => e = .returned (.tuple #[.int .i64 (smallV s.data.toList), .bool (smallB s.data.toList)]) ∧ Below w.heap.size w w' := by
  have C := Lib.hid (fun W => cut_any s hs W)
  have hlen := dgs_len s.data.toList
  rw [size_list] at hlen
  by_cases h1 : 18 < (Im.dgs s.data.toList).length
  · have e1 : smallV s.data.toList = 0 := by unfold smallV; rw [if_neg (by omega)]
    have e2 : smallB s.data.toList = false := by unfold smallB; simp; intro; omega
    rw [e1, e2]
    have h2 : (18 : Int) < ((Im.dgs s.data.toList).length : Int) := by omega
    clear e1 e2 hc
    generalize Im.dgs s.data.toList = d at *
    go_enter Tryz.func20, Tryz.ntmps20
    go_wp2_with fail
    refine (C.out _).mono ?_
    rintro e w1 ⟨rfl, m1, rfl⟩
    go_wp2
    exact bodyPost_ret (v := .tuple #[.int .i64 0, .bool false]) (by simp [results, Tryz.results20, go_sem]) rfl ⟨rfl, drew_below _ _⟩
  · have h2 : ¬ (18 : Int) < ((Im.dgs s.data.toList).length : Int) := by omega
    have e1 : smallV s.data.toList = Im.ivL s.data.toList := by unfold smallV; rw [if_pos ⟨hc, by omega⟩]
    have e2 : smallB s.data.toList = true := by unfold smallB; rw [hc]; simp; omega
    have A := Lib.hid (fun W => Tryz.strconv_Atoi_ok s (by omega) (Im.ivL s.data.toList) (atoi_canon hc (by omega)) W)
    rw [e1, e2]
    clear e1 e2 hc
    generalize Im.dgs s.data.toList = d at *
    generalize Im.ivL s.data.toList = z at *
    go_enter Tryz.func20, Tryz.ntmps20
    go_wp2_with fail
    refine (C.out _).mono ?_
    rintro e w1 ⟨rfl, m1, hw1⟩
    have hb1 : Below w.heap.size w w1 := by rw [hw1]; exact drew_below _ _
    clear hw1
    go_wp2_with fail
    refine (A.out _).mono ?_
    rintro e w2 ⟨rfl, hw⟩
    have hb : Below w1.heap.size w1 w2 := by
      rcases hw with rfl | ⟨t, rfl⟩
      · exact Below.refl _ _
      · exact Lib.bytesWorld_below _ _ _
    clear hw
    go_wp2_with (go_quiet (fail))
    exact bodyPost_ret (v := .tuple #[.int .i64 z, .bool true]) (by simp [results, Tryz.results20, go_sem]) rfl ⟨rfl, (hb1.trans (hb.mono hb1.size)).trans ⟨rfl, rfl, rfl, Nat.le_refl _, fun _ _ => rfl⟩⟩

/-- What fits asks of one integer. -/
def fitB (s : ByteArray) : Bool := decide (s.size ≤ 90) && Im.canonI s.data.toList
theorem fit_cn {s : ByteArray} (h : fitB s = true) : Cn s ∧ s.size ≤ 90 := by
  unfold fitB at h
  rw [Bool.and_eq_true, decide_eq_true_iff] at h
  exact ⟨⟨h.2, by omega⟩, h.1⟩
set_option maxHeartbeats 2000000 in
theorem fits_any (b o cap : Nat) (l : List ByteArray) (hl : l.length ≤ 1000) (hcap : l.length ≤ cap) (w : World) (hc : ∀ k (h : k < l.length), w.cell? ⟨b, o + k, none⟩ = some (.string l[k])) :
    Calls Tryz.prog 24 #[.slice (some ⟨b, o, none⟩) l.length cap] w fun e w' => e = .returned (.bool (l.all fitB)) ∧ ∃ m, w' = w.drewN m := by
  have HC := Lib.hid hc
  obtain ⟨R, hR⟩ : ∃ R, l.all fitB = R := ⟨_, rfl⟩
  have HR := Lib.hid hR
  rw [hR]
  obtain ⟨n, hn⟩ : ∃ n, l.length = n := ⟨_, rfl⟩
  have HN := Lib.hid hn
  rw [hn] at hl hcap ⊢
  clear hR hc hn
  go_enter Tryz.func24, Tryz.ntmps24
  go_wp2_with fail
  go_loopw [3] (fun i wr => ∃ k m : Nat, k ≤ n ∧ i = .int .i64 (k : Int) ∧ wr = w.drewN m ∧ (l.take k).all fitB = true) (fun i _ => n - (intOf i).toNat)
  case atStart => exact ⟨0, 0, Nat.zero_le _, rfl, rfl, rfl⟩
  case round =>
    obtain ⟨k, m, hk, rfl, rfl, ha⟩ := hrel
    have HA := Lib.hid ha
    clear ha
    by_cases h1 : k < n
    · have hkl : k < l.length := by rw [HN.out]; exact h1
      have c0 : (w.drewN m).cell? ⟨b, o + k, none⟩ = some (.string l[k]) := HC.out k hkl
      have HT := Lib.hid (show (l.take (k + 1)).all fitB = fitB l[k] by rw [List.take_succ_eq_append_getElem hkl, List.all_append, HA.out]; simp)
      have HF := Lib.hid (fun (h : fitB l[k] = false) => show R = false by
        rw [← HR.out, List.all_eq_false]
        exact ⟨l[k], List.getElem_mem _, by rw [h]; simp⟩)
      have hkn : (k : Int) < (n : Int) := by omega
      obtain ⟨s, hsx⟩ : ∃ s, l[k] = s := ⟨_, rfl⟩
      rw [hsx] at c0 HT HF
      clear hkl hsx
      by_cases h90 : 90 < s.size
      · obtain rfl := HF.out (by unfold fitB; simp; intro; omega)
        have h90i : (90 : Int) < (s.size : Int) := by omega
        go_wp2
        go_ret
        exact ⟨rfl, m, rfl⟩
      · have h90i : ¬ (90 : Int) < (s.size : Int) := by omega
        have K := Lib.hid (fun W => rcanon_any s (by omega) W)
        cases hcn : Im.canonI s.data.toList with
        | false =>
          obtain rfl := HF.out (by unfold fitB; rw [hcn]; simp)
          rw [hcn] at K
          clear hcn
          go_wp2_with fail
          refine (K.out _).mono ?_
          rintro e w2 ⟨rfl, m2, rfl⟩
          go_wp2
          go_ret
          exact ⟨rfl, m + m2, rfl⟩
        | true =>
          have HT2 := Lib.hid (HT.out.trans (show fitB s = true by unfold fitB; rw [hcn]; simp; omega))
          rw [hcn] at K
          clear hcn
          go_wp2_with fail
          refine (K.out _).mono ?_
          rintro e w2 ⟨rfl, m2, rfl⟩
          go_wp2
          go_roundw
          case rel => exact ⟨k + 1, m + m2, by omega, by go_num, rfl, HT2.out⟩
          case measure => simp [intOf]; omega
    · obtain rfl : k = n := by omega
      have ha := HA.out
      rw [List.take_of_length_le (by rw [HN.out]; exact Nat.le_refl _)] at ha
      have hr : true = R := by rw [← HR.out, ha]
      subst hr
      clear ha
      go_wp2
      go_ret
      exact ⟨rfl, m, rfl⟩
end Go.Proofs.YtnchodofgaaeeaaGreatDoor
