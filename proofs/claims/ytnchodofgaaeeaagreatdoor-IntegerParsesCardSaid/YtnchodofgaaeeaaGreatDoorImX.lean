/- The reference's Parse. -/
import Derived.Test.YtnchodofgaaeeaaGreatDoorImU
namespace Go.Proofs.YtnchodofgaaeeaaGreatDoor
open Go Go.RowKit Go.Shelf

def prv (l : List UInt8) : Nat → Option UInt8
  | 0 => none
  | k + 1 => l[k]?
def finL (l : List UInt8) : List UInt8 := if Im.noZ l = [] then [48] else Im.noZ l
theorem fin_zero (r : List UInt8) : finL (48 :: r) = finL r := rfl
theorem fin_one (c : UInt8) : finL [c] = [c] := by
  unfold finL Im.noZ
  by_cases h : c = 48
  · subst h; rfl
  · simp [h]
theorem fin_ne {c : UInt8} {r : List UInt8} (h : c ≠ 48) : finL (c :: r) = c :: r := by simp [finL, Im.noZ, h]
theorem noZ_head {l : List UInt8} : Im.noZ l ≠ [48] := by
  induction l with
  | nil => simp [Im.noZ]
  | cons c r ih =>
    by_cases h : c = 48
    · subst h; simpa [Im.noZ] using ih
    · simp [Im.noZ, h]
theorem noB_snoc {l : List UInt8} {k : Nat} (h : k < l.length) (hb : l[k] ≠ 32) : Im.noB (l.take (k + 1)) = Im.noB (l.take k) ++ [l[k]] := by
  unfold Im.noB
  rw [List.take_succ_eq_append_getElem h, List.filter_append, List.filter_cons, if_pos (by simpa using hb), List.filter_nil]
theorem noB_skip {l : List UInt8} {k : Nat} (h : k < l.length) (hb : l[k] = 32) : Im.noB (l.take (k + 1)) = Im.noB (l.take k) := by
  unfold Im.noB
  rw [List.take_succ_eq_append_getElem h, List.filter_append, List.filter_cons, if_neg (by simpa using hb), List.filter_nil, List.append_nil]
theorem prv_next {l : List UInt8} {k : Nat} (h : k < l.length) : prv l (k + 1) = some l[k] := by simp [prv, h]
theorem rf_at {l : List UInt8} {k : Nat} (h : k < l.length) : Im.rf (prv l k) (l.drop k) = if Im.sk (prv l k) l[k] (l.drop (k + 1)) = true then Im.rf (prv l (k + 1)) (l.drop (k + 1)) else if Im.isD l[k] = true then Im.rf (prv l (k + 1)) (l.drop (k + 1)) else false := by
  rw [prv_next h, List.drop_eq_getElem_cons h]
  cases hs : Im.sk (prv l k) l[k] (l.drop (k + 1)) with
  | true => rw [Im.rf_yes hs]; rfl
  | false => rw [Im.rf_no hs]; rfl
theorem sk_at {l : List UInt8} {k : Nat} (h : k < l.length) (hb : l[k] = 32) : Im.sk (prv l k) l[k] (l.drop (k + 1)) = (decide (0 < k) && decide (prv l k ≠ some 32) && decide (k + 1 < l.length) && decide (l[k + 1]? ≠ some 32)) := by
  unfold Im.sk
  rw [hb, List.head?_drop]
  have e1 : (prv l k).isSome = decide (0 < k) := by
    cases k with
    | zero => rfl
    | succ k => simp [prv]; omega
  have e2 : (!(l.drop (k + 1)).isEmpty) = decide (k + 1 < l.length) := by
    rcases Nat.lt_or_ge (k + 1) l.length with h1 | h1
    · rw [decide_eq_true h1]
      cases hd : l.drop (k + 1) with
      | nil => have := congrArg List.length hd; simp at this; omega
      | cons _ _ => rfl
    · rw [List.drop_of_length_le h1, decide_eq_false (by omega)]; rfl
  rw [e1, e2]
  have e3 : (prv l k != some 32) = decide (prv l k ≠ some 32) := by by_cases h : prv l k = some 32 <;> simp [h]
  have e4 : (l[k + 1]? != some 32) = decide (l[k + 1]? ≠ some 32) := by by_cases h : l[k + 1]? = some 32 <;> simp [h]
  rw [e3, e4]
  simp [Bool.and_assoc]
theorem i32 {b : UInt8} : ((b.toNat : Int) = 32) ↔ b = 32 := ⟨fun e => by apply UInt8.toNat_inj.1; show b.toNat = 32; omega, fun e => by subst e; rfl⟩
theorem i48 {b : UInt8} : ((b.toNat : Int) = 48) ↔ b = 48 := ⟨fun e => by apply UInt8.toNat_inj.1; show b.toNat = 48; omega, fun e => by subst e; rfl⟩
set_option maxRecDepth 100000 in
set_option maxHeartbeats 4000000 in
theorem rparse_neg (s : ByteArray) (hs : s.size ≤ 1048576) (h1 : 1 ≤ s.size) (h45 : (s[0].toNat : Int) = 45) (u : ByteArray) (hu : u = s.extract 1 s.size) (RS : List UInt8) (RE : Int)
    (hRS : RS = if (Im.rf none u.data.toList && !(Im.noB u.data.toList).isEmpty) = false then [] else if 400 < (finL (Im.noB u.data.toList)).length then [] else if finL (Im.noB u.data.toList) = [48] then [48] else 45 :: finL (Im.noB u.data.toList))
    (hRE : RE = if (Im.rf none u.data.toList && !(Im.noB u.data.toList).isEmpty) = false then 15 else if 400 < (finL (Im.noB u.data.toList)).length then 16 else 0) (w : World) :
    Calls Tryz.prog 23 #[.string s] w fun e w' => e = .returned (.tuple #[.string ⟨RS.toArray⟩, .int .i64 RE]) ∧ ∃ m, w' = w.drewN m := by
  have h0e : s.toList.isEmpty = false := by
    rw [toList_eq]
    have := size_list s
    cases hl : s.data.toList with
    | nil => rw [hl] at this; simp at this; omega
    | cons _ _ => rfl
  have h0' : ¬ s.toList = [] := by intro e; rw [e] at h0e; cases h0e
  have h1i : (0 : Int) < (s.size : Int) := by omega
  have h1j : (1 : Int) ≤ (s.size : Int) := by omega
  have hus : u.size ≤ 1048576 := by subst hu; rw [← size_list, extract_list, List.length_drop, List.length_take, size_list]; omega
  have HSL := Lib.hid (size_list u)
  have HSLN := Lib.hid (size_list u).symm
  obtain ⟨R, hR⟩ : ∃ R, Im.rf none u.data.toList = R := ⟨_, rfl⟩
  rw [hR] at hRS hRE
  have HR := Lib.hid hR
  have HRS := Lib.hid hRS
  have HRE := Lib.hid hRE
  clear hR hRS hRE
  go_enter Tryz.func23, Tryz.ntmps23
  go_wp2_with (go_quiet (fail))
  rw [← hu]
  clear hu h45 h0e h0' h1i h1j
  go_loopw [6, 7] (fun d i wr => ∃ k m : Nat, k ≤ u.size ∧ i = .int .i64 (k : Int) ∧ d = .string ⟨(Im.noB (u.data.toList.take k)).toArray⟩ ∧ wr = w.drewN m ∧ Im.rf (prv u.data.toList k) (u.data.toList.drop k) = R) (fun _ i _ => u.size - (intOf i).toNat)
  case atStart => exact ⟨0, _, Nat.zero_le _, rfl, rfl, rfl, by rw [List.drop_zero]; exact HR.out⟩
  case round =>
    obtain ⟨k, m, hk, rfl, rfl, rfl, ha⟩ := hrel
    by_cases h2 : k < u.size
    · have hkl : k < u.data.toList.length := by rw [HSL.out]; exact h2
      have hg := getElem_list u k h2 hkl
      rw [rf_at hkl] at ha
      have hki : (k : Int) < (u.size : Int) := by omega
      by_cases h32 : u[k] = 32
      · have h32i : (u[k].toNat : Int) = 32 := i32.2 h32
        have hd32 : Im.isD u.data.toList[k] = false := by rw [hg, h32]; decide
        have hl32 : u.data.toList[k] = 32 := by rw [hg, h32]
        rw [sk_at hkl hl32, if_neg (show ¬ Im.isD u.data.toList[k] = true by rw [hd32]; simp)] at ha
        cases k with
        | zero =>
          have hr : R = false := by rw [← ha]; simp
          subst hr
          clear ha hd32 hl32 hg
          go_wp2
          exact bodyPost_ret (v := .tuple #[.string ⟨#[]⟩, .int .i64 15]) (by simp [results, Tryz.results23, go_sem]) rfl ⟨by simp [HRS.out, HRE.out], _, rfl⟩
        | succ j =>
          by_cases k1 : j + 1 + 1 < u.size
          · have k1i : (j : Int) + 1 + 1 < (u.size : Int) := by omega
            have hj : j < u.size := by omega
            have hgj := getElem_list u j hj (by rw [size_list]; omega)
            have hgk := getElem_list u (j + 1 + 1) k1 (by rw [size_list]; omega)
            by_cases p32 : u[j] = 32
            · have p32i : (u[j].toNat : Int) = 32 := i32.2 p32
              have hr : R = false := by
                rw [← ha]
                have h9 : prv u.data.toList (j + 1) = some 32 := by rw [prv_next (by rw [size_list]; omega), hgj, p32]
                rw [decide_eq_false (show ¬ prv u.data.toList (j + 1) ≠ some 32 from fun e => e h9), Bool.and_false, Bool.false_and, Bool.false_and]
                rfl
              subst hr
              clear ha hd32 hl32 hg hgj hgk
              go_wp2
              exact bodyPost_ret (v := .tuple #[.string ⟨#[]⟩, .int .i64 15]) (by simp [results, Tryz.results23, go_sem]) rfl ⟨by simp [HRS.out, HRE.out], _, rfl⟩
            · have p32i : ¬ (u[j].toNat : Int) = 32 := fun e => p32 (i32.1 e)
              have p32b : ((u[j].toNat : Int) != 32) = true := by simpa using p32i
              have hp : prv u.data.toList (j + 1) ≠ some 32 := by
                rw [prv_next (by rw [size_list]; omega), hgj]
                intro e; exact p32 (by simpa using e)
              by_cases n32 : u[j + 1 + 1] = 32
              · have n32i : (u[j + 1 + 1].toNat : Int) = 32 := i32.2 n32
                have hr : R = false := by
                  rw [← ha]
                  have h9 : u.data.toList[j + 1 + 1]? = some 32 := by rw [List.getElem?_eq_getElem (by rw [size_list]; omega), hgk, n32]
                  rw [decide_eq_false (show ¬ u.data.toList[j + 1 + 1]? ≠ some 32 from fun e => e h9), Bool.and_false]
                  rfl
                subst hr
                clear ha hd32 hl32 hg hgj hgk hp
                go_wp2
                exact bodyPost_ret (v := .tuple #[.string ⟨#[]⟩, .int .i64 15]) (by simp [results, Tryz.results23, go_sem]) rfl ⟨by simp [HRS.out, HRE.out], _, rfl⟩
              · have n32i : ¬ (u[j + 1 + 1].toNat : Int) = 32 := fun e => n32 (i32.1 e)
                have n32b : ((u[j + 1 + 1].toNat : Int) != 32) = true := by simpa using n32i
                have hn : u.data.toList[j + 1 + 1]? ≠ some 32 := by
                  rw [List.getElem?_eq_getElem (by rw [size_list]; omega), hgk]
                  intro e; exact n32 (by simpa using e)
                rw [if_pos (by rw [decide_eq_true (show 0 < j + 1 by omega), decide_eq_true hp, decide_eq_true (show j + 1 + 1 < u.data.toList.length by rw [size_list]; exact k1), decide_eq_true hn]; rfl)] at ha
                have HA := Lib.hid ha
                have HK := Lib.hid (noB_skip hkl hl32)
                clear ha hd32 hl32 hg hgj hgk hp hn
                go_wp2
                go_roundw
                case rel => exact ⟨j + 1 + 1, m, by omega, by go_num, by rw [HK.out], rfl, HA.out⟩
                case measure => simp [intOf]; omega
          · have k1i : ¬ (j : Int) + 1 + 1 < (u.size : Int) := by omega
            have hr : R = false := by
              rw [← ha]
              rw [decide_eq_false (show ¬ j + 1 + 1 < u.data.toList.length by rw [size_list]; exact k1), Bool.and_false, Bool.false_and]
              rfl
            subst hr
            clear ha hd32 hl32 hg
            go_wp2
            exact bodyPost_ret (v := .tuple #[.string ⟨#[]⟩, .int .i64 15]) (by simp [results, Tryz.results23, go_sem]) rfl ⟨by simp [HRS.out, HRE.out], _, rfl⟩
      · have h32i : ¬ (u[k].toNat : Int) = 32 := fun e => h32 (i32.1 e)
        have hl32 : u.data.toList[k] ≠ 32 := by rw [hg]; exact h32
        rw [if_neg (show ¬ Im.sk (prv u.data.toList k) u.data.toList[k] (u.data.toList.drop (k + 1)) = true by rw [Im.sk_no hl32]; simp)] at ha
        cases hd : Im.isD u[k] with
        | true =>
          rw [if_pos (by rw [hg]; exact hd)] at ha
          obtain ⟨c2, c3⟩ := Im.isD_iff.1 hd
          have c4 : ¬ (u[k].toNat : Int) < 48 := by omega
          have c5 : ¬ (57 : Int) < (u[k].toNat : Int) := by omega
          have HA := Lib.hid ha
          have hx : (ByteArray.mk (Im.noB (u.data.toList.take k)).toArray) ++ u.extract k (k + 1) = ⟨(Im.noB (u.data.toList.take (k + 1))).toArray⟩ := by
            apply ext_bytes
            rw [noB_snoc hkl hl32]
            have e : (u.extract k (k + 1)).data.toList = [u.data.toList[k]] := by
              rw [extract_list, List.take_succ_eq_append_getElem hkl]
              exact List.drop_left' (by rw [List.length_take]; omega)
            have happ : ∀ X Y : ByteArray, (X ++ Y).data.toList = X.data.toList ++ Y.data.toList := by intro X Y; simp
            rw [happ, e]
          obtain ⟨k1, hk1⟩ : ∃ k1, k + 1 = k1 := ⟨_, rfl⟩
          have hk1i : (k : Int) + 1 = (k1 : Int) := by omega
          rw [hk1] at HA hx
          have hk1u : k1 ≤ u.size := by omega
          have hnbl : (Im.noB (u.data.toList.take k)).length ≤ k := Nat.le_trans (filter_le _) (by rw [List.length_take]; omega)
          have hcl : ¬ 9223372036854775807 < (Im.noB (u.data.toList.take k)).length + (k1 - k) := by omega
          have hkk1 : k ≤ k1 := by omega
          clear ha hd hl32 hg
          go_wp2
          go_roundw
          case rel => exact ⟨k1, m, hk1u, by go_num, rfl, rfl, HA.out⟩
          case measure => simp [intOf]; omega
        | false =>
          rw [if_neg (by rw [hg, hd]; simp)] at ha
          have hr : R = false := ha.symm
          subst hr
          by_cases c2 : u[k].toNat < 48
          · have c3 : (u[k].toNat : Int) < 48 := by omega
            clear ha hd hl32 hg
            go_wp2
            exact bodyPost_ret (v := .tuple #[.string ⟨#[]⟩, .int .i64 15]) (by simp [results, Tryz.results23, go_sem]) rfl ⟨by simp [HRS.out, HRE.out], _, rfl⟩
          · have c3 : ¬ (u[k].toNat : Int) < 48 := by omega
            have c4 : (57 : Int) < (u[k].toNat : Int) := by
              rcases Nat.lt_or_ge 57 u[k].toNat with h5 | h5
              · omega
              · have := Im.isD_iff.2 ⟨by omega, h5⟩
                rw [this] at hd; cases hd
            clear ha hd hl32 hg
            go_wp2
            exact bodyPost_ret (v := .tuple #[.string ⟨#[]⟩, .int .i64 15]) (by simp [results, Tryz.results23, go_sem]) rfl ⟨by simp [HRS.out, HRE.out], _, rfl⟩
    · obtain rfl : k = u.size := by omega
      rw [List.drop_of_length_le (by rw [HSL.out]; exact Nat.le_refl _)] at ha
      have hr : true = R := ha
      subst hr
      clear ha
      have htk : u.data.toList.take u.size = u.data.toList := List.take_of_length_le (by rw [HSL.out]; exact Nat.le_refl _)
      rw [htk]
      have hnl := filter_le u.data.toList
      rw [size_list] at hnl
      change (Im.noB u.data.toList).length ≤ _ at hnl
      clear htk
      generalize Im.noB u.data.toList = x at *
      have hui : ¬ (u.size : Int) < (u.size : Int) := by omega
      cases hx : x with
      | nil =>
        subst hx
        go_wp2
        exact bodyPost_ret (v := .tuple #[.string ⟨#[]⟩, .int .i64 15]) (by simp [results, Tryz.results23, go_sem]) rfl ⟨by simp [HRS.out, HRE.out], _, rfl⟩
      | cons c0 r0 =>
        have hx0 : x ≠ [] := by rw [hx]; simp
        rw [← hx]
        clear hx
        have hx1 : ¬ (ByteArray.mk x.toArray).toList = [] := by rw [toList_eq]; exact hx0
        have hx2 : x.isEmpty = false := by simpa using hx0
        have hxl : x.length ≤ 1048576 := by omega
        have HF0 : ∃ F, finL x = F := ⟨_, rfl⟩
        obtain ⟨FF, hF⟩ := HF0
        have HF := Lib.hid hF
        have HX0 := Lib.hid hx0
        have hrs := HRS.out
        have hre := HRE.out
        rw [hF, hx2] at hrs
        rw [hF, hx2] at hre
        simp only [Bool.not_false, Bool.and_self, Bool.true_eq_false, if_false] at hrs hre
        have HS := Lib.hid hrs
        have HE := Lib.hid hre
        clear hF hrs hre
        go_wp2_with fail
        go_loopw [6] (fun d wr => ∃ (y : ByteArray), d = .string y ∧ 1 ≤ y.size ∧ y.size ≤ 1048576 ∧ wr = w.drewN m ∧ finL y.data.toList = FF) (fun d _ => match d with | .string y => y.size | _ => 0)
        case atStart =>
          refine ⟨_, rfl, ?_, ?_, rfl, HF.out⟩
          · rw [size_mk]; have := HX0.out; cases hx : x with
            | nil => exact absurd hx this
            | cons _ _ => simp
          · rw [size_mk]; exact hxl
        case round =>
          obtain ⟨y, rfl, hy1, hy2, rfl, hyf⟩ := hrel
          have hg0 := getElem_list y 0 (by omega) (by rw [size_list]; omega)
          by_cases hy3 : 1 < y.size
          · have hy3i : (1 : Int) < (y.size : Int) := by omega
            by_cases h48 : y[0] = 48
            · have h48i : (y[0].toNat : Int) = 48 := i48.2 h48
              have hz : finL (y.extract 1 y.size).data.toList = FF := by
                rw [extract_list, ← size_list, List.take_length, ← hyf, List.drop_one]
                cases hl : y.data.toList with
                | nil => have := size_list y; rw [hl] at this; simp at this; omega
                | cons c r =>
                  simp only [hl, List.getElem_cons_zero] at hg0
                  rw [hg0, h48, fin_zero]; rfl
              have HZ := Lib.hid hz
              have hsz : (y.extract 1 y.size).size = y.size - 1 := by rw [← size_list, extract_list, List.length_drop, List.length_take, size_list]; omega
              have HSZ := Lib.hid hsz
              clear hyf hg0 hz hsz h48
              go_wp2_with (go_quiet (fail))
              go_roundw
              case rel => exact ⟨_, rfl, by rw [HSZ.out]; omega, by rw [HSZ.out]; omega, by first | rfl | trivial, HZ.out⟩
              case measure => simp [HSZ.out]; omega
            · have h48i : ¬ (y[0].toNat : Int) = 48 := fun e => h48 (i48.1 e)
              have hz : y.data.toList = FF := by
                rw [← hyf]
                cases hl : y.data.toList with
                | nil => have := size_list y; rw [hl] at this; simp at this; omega
                | cons c r =>
                  simp only [hl, List.getElem_cons_zero] at hg0
                  rw [fin_ne (by rw [hg0]; exact h48)]
              clear hyf hg0 h48
              have hyl : FF.length = y.size := by rw [← hz, size_list]
              by_cases hl4 : 400 < y.size
              · have hl4i : (400 : Int) < (y.size : Int) := by omega
                have hrs := HS.out
                have hre := HE.out
                rw [if_pos (by omega)] at hrs hre
                subst hrs hre
                clear hz hyl
                go_wp2
                exact bodyPost_ret (v := .tuple #[.string ⟨#[]⟩, .int .i64 16]) (by simp [results, Tryz.results23, go_sem]) rfl ⟨rfl, _, rfl⟩
              · have hl4i : ¬ (400 : Int) < (y.size : Int) := by omega
                have hrs := HS.out
                have hre := HE.out
                rw [if_neg (by omega)] at hrs hre
                subst hre
                clear hyl
                by_cases hz0 : FF = [48]
                · rw [if_pos hz0] at hrs
                  subst hrs
                  rw [hz0] at hz
                  obtain rfl : y = ⟨#[48]⟩ := ext_bytes hz
                  clear hz hy3i hl4i
                  go_wp2
                  exact bodyPost_ret (v := .tuple #[.string ⟨#[48]⟩, .int .i64 0]) (by simp [results, Tryz.results23, go_sem]) rfl ⟨rfl, _, rfl⟩
                · rw [if_neg hz0] at hrs
                  subst hrs
                  have hy48 : ¬ y.toList = [48] := by rw [toList_eq, hz]; exact hz0
                  have hy48b : (y.toList == [48]) = false := by rw [beq_eq_false_iff_ne]; exact hy48
                  have hy48c : ¬ y = ⟨#[48]⟩ := fun e => hz0 (by rw [← hz, e])
                  have hap : (ByteArray.mk #[45]) ++ y = ⟨(45 :: FF).toArray⟩ := ext_bytes (by simp [hz])
                  clear hz hz0
                  go_wp2
                  exact bodyPost_ret (v := .tuple #[.string ⟨(45 :: FF).toArray⟩, .int .i64 0]) (by simp [results, Tryz.results23, go_sem]) rfl ⟨rfl, _, rfl⟩
          · have hy3i : ¬ (1 : Int) < (y.size : Int) := by omega
            have hz : y.data.toList = FF := by
              rw [← hyf]
              cases hl : y.data.toList with
              | nil => have := size_list y; rw [hl] at this; simp at this; omega
              | cons c r =>
                have h6 := size_list y
                rw [hl, List.length_cons] at h6
                have : r = [] := List.eq_nil_of_length_eq_zero (by omega)
                subst this
                rw [fin_one]
            clear hyf hg0
            have hyl : FF.length = y.size := by rw [← hz, size_list]
            by_cases hl4 : 400 < y.size
            · have hl4i : (400 : Int) < (y.size : Int) := by omega
              have hrs := HS.out
              have hre := HE.out
              rw [if_pos (by omega)] at hrs hre
              subst hrs hre
              clear hz hyl
              go_wp2
              exact bodyPost_ret (v := .tuple #[.string ⟨#[]⟩, .int .i64 16]) (by simp [results, Tryz.results23, go_sem]) rfl ⟨rfl, _, rfl⟩
            · have hl4i : ¬ (400 : Int) < (y.size : Int) := by omega
              have hrs := HS.out
              have hre := HE.out
              rw [if_neg (by omega)] at hrs hre
              subst hre
              clear hyl
              by_cases hz0 : FF = [48]
              · rw [if_pos hz0] at hrs
                subst hrs
                rw [hz0] at hz
                obtain rfl : y = ⟨#[48]⟩ := ext_bytes hz
                clear hz hy3i hl4i
                go_wp2
                exact bodyPost_ret (v := .tuple #[.string ⟨#[48]⟩, .int .i64 0]) (by simp [results, Tryz.results23, go_sem]) rfl ⟨rfl, _, rfl⟩
              · rw [if_neg hz0] at hrs
                subst hrs
                have hy48 : ¬ y.toList = [48] := by rw [toList_eq, hz]; exact hz0
                have hy48b : (y.toList == [48]) = false := by rw [beq_eq_false_iff_ne]; exact hy48
                have hy48c : ¬ y = ⟨#[48]⟩ := fun e => hz0 (by rw [← hz, e])
                have hap : (ByteArray.mk #[45]) ++ y = ⟨(45 :: FF).toArray⟩ := ext_bytes (by simp [hz])
                clear hz hz0
                go_wp2
                exact bodyPost_ret (v := .tuple #[.string ⟨(45 :: FF).toArray⟩, .int .i64 0]) (by simp [results, Tryz.results23, go_sem]) rfl ⟨rfl, _, rfl⟩
set_option maxRecDepth 100000 in
set_option maxHeartbeats 4000000 in
theorem rparse_plus (s : ByteArray) (hs : s.size ≤ 1048576) (h1 : 1 ≤ s.size) (h45 : ¬ (s[0].toNat : Int) = 45) (h43 : (s[0].toNat : Int) = 43) (u : ByteArray) (hu : u = s.extract 1 s.size) (RS : List UInt8) (RE : Int)
    (hRS : RS = if (Im.rf none u.data.toList && !(Im.noB u.data.toList).isEmpty) = false then [] else if 400 < (finL (Im.noB u.data.toList)).length then [] else finL (Im.noB u.data.toList))
    (hRE : RE = if (Im.rf none u.data.toList && !(Im.noB u.data.toList).isEmpty) = false then 15 else if 400 < (finL (Im.noB u.data.toList)).length then 16 else 0) (w : World) :
    Calls Tryz.prog 23 #[.string s] w fun e w' => e = .returned (.tuple #[.string ⟨RS.toArray⟩, .int .i64 RE]) ∧ ∃ m, w' = w.drewN m := by
  have h0e : s.toList.isEmpty = false := by
    rw [toList_eq]
    have := size_list s
    cases hl : s.data.toList with
    | nil => rw [hl] at this; simp at this; omega
    | cons _ _ => rfl
  have h0' : ¬ s.toList = [] := by intro e; rw [e] at h0e; cases h0e
  have h1i : (0 : Int) < (s.size : Int) := by omega
  have h1j : (1 : Int) ≤ (s.size : Int) := by omega
  have hus : u.size ≤ 1048576 := by subst hu; rw [← size_list, extract_list, List.length_drop, List.length_take, size_list]; omega
  have HSL := Lib.hid (size_list u)
  have HSLN := Lib.hid (size_list u).symm
  obtain ⟨R, hR⟩ : ∃ R, Im.rf none u.data.toList = R := ⟨_, rfl⟩
  rw [hR] at hRS hRE
  have HR := Lib.hid hR
  have HRS := Lib.hid hRS
  have HRE := Lib.hid hRE
  clear hR hRS hRE
  go_enter Tryz.func23, Tryz.ntmps23
  go_wp2_with (go_quiet (fail))
  rw [← hu]
  clear hu h45 h0e h0' h1i h1j
  go_loopw [6, 7] (fun d i wr => ∃ k m : Nat, k ≤ u.size ∧ i = .int .i64 (k : Int) ∧ d = .string ⟨(Im.noB (u.data.toList.take k)).toArray⟩ ∧ wr = w.drewN m ∧ Im.rf (prv u.data.toList k) (u.data.toList.drop k) = R) (fun _ i _ => u.size - (intOf i).toNat)
  case atStart => exact ⟨0, _, Nat.zero_le _, rfl, rfl, rfl, by rw [List.drop_zero]; exact HR.out⟩
  case round =>
    obtain ⟨k, m, hk, rfl, rfl, rfl, ha⟩ := hrel
    by_cases h2 : k < u.size
    · have hkl : k < u.data.toList.length := by rw [HSL.out]; exact h2
      have hg := getElem_list u k h2 hkl
      rw [rf_at hkl] at ha
      have hki : (k : Int) < (u.size : Int) := by omega
      by_cases h32 : u[k] = 32
      · have h32i : (u[k].toNat : Int) = 32 := i32.2 h32
        have hd32 : Im.isD u.data.toList[k] = false := by rw [hg, h32]; decide
        have hl32 : u.data.toList[k] = 32 := by rw [hg, h32]
        rw [sk_at hkl hl32, if_neg (show ¬ Im.isD u.data.toList[k] = true by rw [hd32]; simp)] at ha
        cases k with
        | zero =>
          have hr : R = false := by rw [← ha]; simp
          subst hr
          clear ha hd32 hl32 hg
          go_wp2
          exact bodyPost_ret (v := .tuple #[.string ⟨#[]⟩, .int .i64 15]) (by simp [results, Tryz.results23, go_sem]) rfl ⟨by simp [HRS.out, HRE.out], _, rfl⟩
        | succ j =>
          by_cases k1 : j + 1 + 1 < u.size
          · have k1i : (j : Int) + 1 + 1 < (u.size : Int) := by omega
            have hj : j < u.size := by omega
            have hgj := getElem_list u j hj (by rw [size_list]; omega)
            have hgk := getElem_list u (j + 1 + 1) k1 (by rw [size_list]; omega)
            by_cases p32 : u[j] = 32
            · have p32i : (u[j].toNat : Int) = 32 := i32.2 p32
              have hr : R = false := by
                rw [← ha]
                have h9 : prv u.data.toList (j + 1) = some 32 := by rw [prv_next (by rw [size_list]; omega), hgj, p32]
                rw [decide_eq_false (show ¬ prv u.data.toList (j + 1) ≠ some 32 from fun e => e h9), Bool.and_false, Bool.false_and, Bool.false_and]
                rfl
              subst hr
              clear ha hd32 hl32 hg hgj hgk
              go_wp2
              exact bodyPost_ret (v := .tuple #[.string ⟨#[]⟩, .int .i64 15]) (by simp [results, Tryz.results23, go_sem]) rfl ⟨by simp [HRS.out, HRE.out], _, rfl⟩
            · have p32i : ¬ (u[j].toNat : Int) = 32 := fun e => p32 (i32.1 e)
              have p32b : ((u[j].toNat : Int) != 32) = true := by simpa using p32i
              have hp : prv u.data.toList (j + 1) ≠ some 32 := by
                rw [prv_next (by rw [size_list]; omega), hgj]
                intro e; exact p32 (by simpa using e)
              by_cases n32 : u[j + 1 + 1] = 32
              · have n32i : (u[j + 1 + 1].toNat : Int) = 32 := i32.2 n32
                have hr : R = false := by
                  rw [← ha]
                  have h9 : u.data.toList[j + 1 + 1]? = some 32 := by rw [List.getElem?_eq_getElem (by rw [size_list]; omega), hgk, n32]
                  rw [decide_eq_false (show ¬ u.data.toList[j + 1 + 1]? ≠ some 32 from fun e => e h9), Bool.and_false]
                  rfl
                subst hr
                clear ha hd32 hl32 hg hgj hgk hp
                go_wp2
                exact bodyPost_ret (v := .tuple #[.string ⟨#[]⟩, .int .i64 15]) (by simp [results, Tryz.results23, go_sem]) rfl ⟨by simp [HRS.out, HRE.out], _, rfl⟩
              · have n32i : ¬ (u[j + 1 + 1].toNat : Int) = 32 := fun e => n32 (i32.1 e)
                have n32b : ((u[j + 1 + 1].toNat : Int) != 32) = true := by simpa using n32i
                have hn : u.data.toList[j + 1 + 1]? ≠ some 32 := by
                  rw [List.getElem?_eq_getElem (by rw [size_list]; omega), hgk]
                  intro e; exact n32 (by simpa using e)
                rw [if_pos (by rw [decide_eq_true (show 0 < j + 1 by omega), decide_eq_true hp, decide_eq_true (show j + 1 + 1 < u.data.toList.length by rw [size_list]; exact k1), decide_eq_true hn]; rfl)] at ha
                have HA := Lib.hid ha
                have HK := Lib.hid (noB_skip hkl hl32)
                clear ha hd32 hl32 hg hgj hgk hp hn
                go_wp2
                go_roundw
                case rel => exact ⟨j + 1 + 1, m, by omega, by go_num, by rw [HK.out], rfl, HA.out⟩
                case measure => simp [intOf]; omega
          · have k1i : ¬ (j : Int) + 1 + 1 < (u.size : Int) := by omega
            have hr : R = false := by
              rw [← ha]
              rw [decide_eq_false (show ¬ j + 1 + 1 < u.data.toList.length by rw [size_list]; exact k1), Bool.and_false, Bool.false_and]
              rfl
            subst hr
            clear ha hd32 hl32 hg
            go_wp2
            exact bodyPost_ret (v := .tuple #[.string ⟨#[]⟩, .int .i64 15]) (by simp [results, Tryz.results23, go_sem]) rfl ⟨by simp [HRS.out, HRE.out], _, rfl⟩
      · have h32i : ¬ (u[k].toNat : Int) = 32 := fun e => h32 (i32.1 e)
        have hl32 : u.data.toList[k] ≠ 32 := by rw [hg]; exact h32
        rw [if_neg (show ¬ Im.sk (prv u.data.toList k) u.data.toList[k] (u.data.toList.drop (k + 1)) = true by rw [Im.sk_no hl32]; simp)] at ha
        cases hd : Im.isD u[k] with
        | true =>
          rw [if_pos (by rw [hg]; exact hd)] at ha
          obtain ⟨c2, c3⟩ := Im.isD_iff.1 hd
          have c4 : ¬ (u[k].toNat : Int) < 48 := by omega
          have c5 : ¬ (57 : Int) < (u[k].toNat : Int) := by omega
          have HA := Lib.hid ha
          have hx : (ByteArray.mk (Im.noB (u.data.toList.take k)).toArray) ++ u.extract k (k + 1) = ⟨(Im.noB (u.data.toList.take (k + 1))).toArray⟩ := by
            apply ext_bytes
            rw [noB_snoc hkl hl32]
            have e : (u.extract k (k + 1)).data.toList = [u.data.toList[k]] := by
              rw [extract_list, List.take_succ_eq_append_getElem hkl]
              exact List.drop_left' (by rw [List.length_take]; omega)
            have happ : ∀ X Y : ByteArray, (X ++ Y).data.toList = X.data.toList ++ Y.data.toList := by intro X Y; simp
            rw [happ, e]
          obtain ⟨k1, hk1⟩ : ∃ k1, k + 1 = k1 := ⟨_, rfl⟩
          have hk1i : (k : Int) + 1 = (k1 : Int) := by omega
          rw [hk1] at HA hx
          have hk1u : k1 ≤ u.size := by omega
          have hnbl : (Im.noB (u.data.toList.take k)).length ≤ k := Nat.le_trans (filter_le _) (by rw [List.length_take]; omega)
          have hcl : ¬ 9223372036854775807 < (Im.noB (u.data.toList.take k)).length + (k1 - k) := by omega
          have hkk1 : k ≤ k1 := by omega
          clear ha hd hl32 hg
          go_wp2
          go_roundw
          case rel => exact ⟨k1, m, hk1u, by go_num, rfl, rfl, HA.out⟩
          case measure => simp [intOf]; omega
        | false =>
          rw [if_neg (by rw [hg, hd]; simp)] at ha
          have hr : R = false := ha.symm
          subst hr
          by_cases c2 : u[k].toNat < 48
          · have c3 : (u[k].toNat : Int) < 48 := by omega
            clear ha hd hl32 hg
            go_wp2
            exact bodyPost_ret (v := .tuple #[.string ⟨#[]⟩, .int .i64 15]) (by simp [results, Tryz.results23, go_sem]) rfl ⟨by simp [HRS.out, HRE.out], _, rfl⟩
          · have c3 : ¬ (u[k].toNat : Int) < 48 := by omega
            have c4 : (57 : Int) < (u[k].toNat : Int) := by
              rcases Nat.lt_or_ge 57 u[k].toNat with h5 | h5
              · omega
              · have := Im.isD_iff.2 ⟨by omega, h5⟩
                rw [this] at hd; cases hd
            clear ha hd hl32 hg
            go_wp2
            exact bodyPost_ret (v := .tuple #[.string ⟨#[]⟩, .int .i64 15]) (by simp [results, Tryz.results23, go_sem]) rfl ⟨by simp [HRS.out, HRE.out], _, rfl⟩
    · obtain rfl : k = u.size := by omega
      rw [List.drop_of_length_le (by rw [HSL.out]; exact Nat.le_refl _)] at ha
      have hr : true = R := ha
      subst hr
      clear ha
      have htk : u.data.toList.take u.size = u.data.toList := List.take_of_length_le (by rw [HSL.out]; exact Nat.le_refl _)
      rw [htk]
      have hnl := filter_le u.data.toList
      rw [size_list] at hnl
      change (Im.noB u.data.toList).length ≤ _ at hnl
      clear htk
      generalize Im.noB u.data.toList = x at *
      have hui : ¬ (u.size : Int) < (u.size : Int) := by omega
      cases hx : x with
      | nil =>
        subst hx
        go_wp2
        exact bodyPost_ret (v := .tuple #[.string ⟨#[]⟩, .int .i64 15]) (by simp [results, Tryz.results23, go_sem]) rfl ⟨by simp [HRS.out, HRE.out], _, rfl⟩
      | cons c0 r0 =>
        have hx0 : x ≠ [] := by rw [hx]; simp
        rw [← hx]
        clear hx
        have hx1 : ¬ (ByteArray.mk x.toArray).toList = [] := by rw [toList_eq]; exact hx0
        have hx2 : x.isEmpty = false := by simpa using hx0
        have hxl : x.length ≤ 1048576 := by omega
        have HF0 : ∃ F, finL x = F := ⟨_, rfl⟩
        obtain ⟨FF, hF⟩ := HF0
        have HF := Lib.hid hF
        have HX0 := Lib.hid hx0
        have hrs := HRS.out
        have hre := HRE.out
        rw [hF, hx2] at hrs
        rw [hF, hx2] at hre
        simp only [Bool.not_false, Bool.and_self, Bool.true_eq_false, if_false] at hrs hre
        have HS := Lib.hid hrs
        have HE := Lib.hid hre
        clear hF hrs hre
        go_wp2_with fail
        go_loopw [6] (fun d wr => ∃ (y : ByteArray), d = .string y ∧ 1 ≤ y.size ∧ y.size ≤ 1048576 ∧ wr = w.drewN m ∧ finL y.data.toList = FF) (fun d _ => match d with | .string y => y.size | _ => 0)
        case atStart =>
          refine ⟨_, rfl, ?_, ?_, rfl, HF.out⟩
          · rw [size_mk]; have := HX0.out; cases hx : x with
            | nil => exact absurd hx this
            | cons _ _ => simp
          · rw [size_mk]; exact hxl
        case round =>
          obtain ⟨y, rfl, hy1, hy2, rfl, hyf⟩ := hrel
          have hg0 := getElem_list y 0 (by omega) (by rw [size_list]; omega)
          by_cases hy3 : 1 < y.size
          · have hy3i : (1 : Int) < (y.size : Int) := by omega
            by_cases h48 : y[0] = 48
            · have h48i : (y[0].toNat : Int) = 48 := i48.2 h48
              have hz : finL (y.extract 1 y.size).data.toList = FF := by
                rw [extract_list, ← size_list, List.take_length, ← hyf, List.drop_one]
                cases hl : y.data.toList with
                | nil => have := size_list y; rw [hl] at this; simp at this; omega
                | cons c r =>
                  simp only [hl, List.getElem_cons_zero] at hg0
                  rw [hg0, h48, fin_zero]; rfl
              have HZ := Lib.hid hz
              have hsz : (y.extract 1 y.size).size = y.size - 1 := by rw [← size_list, extract_list, List.length_drop, List.length_take, size_list]; omega
              have HSZ := Lib.hid hsz
              clear hyf hg0 hz hsz h48
              go_wp2_with (go_quiet (fail))
              go_roundw
              case rel => exact ⟨_, rfl, by rw [HSZ.out]; omega, by rw [HSZ.out]; omega, by first | rfl | trivial, HZ.out⟩
              case measure => simp [HSZ.out]; omega
            · have h48i : ¬ (y[0].toNat : Int) = 48 := fun e => h48 (i48.1 e)
              have hz : y.data.toList = FF := by
                rw [← hyf]
                cases hl : y.data.toList with
                | nil => have := size_list y; rw [hl] at this; simp at this; omega
                | cons c r =>
                  simp only [hl, List.getElem_cons_zero] at hg0
                  rw [fin_ne (by rw [hg0]; exact h48)]
              clear hyf hg0 h48
              have hyl : FF.length = y.size := by rw [← hz, size_list]
              by_cases hl4 : 400 < y.size
              · have hl4i : (400 : Int) < (y.size : Int) := by omega
                have hrs := HS.out
                have hre := HE.out
                rw [if_pos (by omega)] at hrs hre
                subst hrs hre
                clear hz hyl
                go_wp2
                exact bodyPost_ret (v := .tuple #[.string ⟨#[]⟩, .int .i64 16]) (by simp [results, Tryz.results23, go_sem]) rfl ⟨rfl, _, rfl⟩
              · have hl4i : ¬ (400 : Int) < (y.size : Int) := by omega
                have hrs := HS.out
                have hre := HE.out
                rw [if_neg (by omega)] at hrs hre
                subst hre
                clear hyl
                subst hrs
                have HYE := Lib.hid (show (ByteArray.mk RS.toArray) = y from (ext_bytes hz).symm)
                clear hz
                go_wp2
                exact bodyPost_ret (v := .tuple #[.string y, .int .i64 0]) (by simp [results, Tryz.results23, go_sem]) rfl ⟨by rw [HYE.out], _, rfl⟩
          · have hy3i : ¬ (1 : Int) < (y.size : Int) := by omega
            have hz : y.data.toList = FF := by
              rw [← hyf]
              cases hl : y.data.toList with
              | nil => have := size_list y; rw [hl] at this; simp at this; omega
              | cons c r =>
                have h6 := size_list y
                rw [hl, List.length_cons] at h6
                have : r = [] := List.eq_nil_of_length_eq_zero (by omega)
                subst this
                rw [fin_one]
            clear hyf hg0
            have hyl : FF.length = y.size := by rw [← hz, size_list]
            by_cases hl4 : 400 < y.size
            · have hl4i : (400 : Int) < (y.size : Int) := by omega
              have hrs := HS.out
              have hre := HE.out
              rw [if_pos (by omega)] at hrs hre
              subst hrs hre
              clear hz hyl
              go_wp2
              exact bodyPost_ret (v := .tuple #[.string ⟨#[]⟩, .int .i64 16]) (by simp [results, Tryz.results23, go_sem]) rfl ⟨rfl, _, rfl⟩
            · have hl4i : ¬ (400 : Int) < (y.size : Int) := by omega
              have hrs := HS.out
              have hre := HE.out
              rw [if_neg (by omega)] at hrs hre
              subst hre
              clear hyl
              subst hrs
              have HYE := Lib.hid (show (ByteArray.mk RS.toArray) = y from (ext_bytes hz).symm)
              clear hz
              go_wp2
              exact bodyPost_ret (v := .tuple #[.string y, .int .i64 0]) (by simp [results, Tryz.results23, go_sem]) rfl ⟨by rw [HYE.out], _, rfl⟩
set_option maxRecDepth 100000 in
set_option maxHeartbeats 4000000 in
theorem rparse_none (s : ByteArray) (hs : s.size ≤ 1048576) (h1 : 1 ≤ s.size) (h45 : ¬ (s[0].toNat : Int) = 45) (h43 : ¬ (s[0].toNat : Int) = 43) (u : ByteArray) (hu : u = s) (RS : List UInt8) (RE : Int)
    (hRS : RS = if (Im.rf none u.data.toList && !(Im.noB u.data.toList).isEmpty) = false then [] else if 400 < (finL (Im.noB u.data.toList)).length then [] else finL (Im.noB u.data.toList))
    (hRE : RE = if (Im.rf none u.data.toList && !(Im.noB u.data.toList).isEmpty) = false then 15 else if 400 < (finL (Im.noB u.data.toList)).length then 16 else 0) (w : World) :
    Calls Tryz.prog 23 #[.string s] w fun e w' => e = .returned (.tuple #[.string ⟨RS.toArray⟩, .int .i64 RE]) ∧ ∃ m, w' = w.drewN m := by
  have h0e : s.toList.isEmpty = false := by
    rw [toList_eq]
    have := size_list s
    cases hl : s.data.toList with
    | nil => rw [hl] at this; simp at this; omega
    | cons _ _ => rfl
  have h0' : ¬ s.toList = [] := by intro e; rw [e] at h0e; cases h0e
  have h1i : (0 : Int) < (s.size : Int) := by omega
  have h1j : (1 : Int) ≤ (s.size : Int) := by omega
  have hus : u.size ≤ 1048576 := by subst hu; omega
  have HSL := Lib.hid (size_list u)
  have HSLN := Lib.hid (size_list u).symm
  obtain ⟨R, hR⟩ : ∃ R, Im.rf none u.data.toList = R := ⟨_, rfl⟩
  rw [hR] at hRS hRE
  have HR := Lib.hid hR
  have HRS := Lib.hid hRS
  have HRE := Lib.hid hRE
  clear hR hRS hRE
  go_enter Tryz.func23, Tryz.ntmps23
  subst hu
  obtain ⟨c, hc⟩ : ∃ c : Int, (u[0].toNat : Int) = c := ⟨_, rfl⟩
  rw [hc] at h45 h43
  have h45b : (c == 45) = false := by rw [beq_eq_false_iff_ne]; exact h45
  have h43b : (c == 43) = false := by rw [beq_eq_false_iff_ne]; exact h43
  go_wp2_with (go_quiet (fail))
  clear hc h45 h43 h45b h43b h0e h0' h1i h1j
  go_loopw [6, 7] (fun d i wr => ∃ k m : Nat, k ≤ u.size ∧ i = .int .i64 (k : Int) ∧ d = .string ⟨(Im.noB (u.data.toList.take k)).toArray⟩ ∧ wr = w.drewN m ∧ Im.rf (prv u.data.toList k) (u.data.toList.drop k) = R) (fun _ i _ => u.size - (intOf i).toNat)
  case atStart => exact ⟨0, _, Nat.zero_le _, rfl, rfl, rfl, by rw [List.drop_zero]; exact HR.out⟩
  case round =>
    obtain ⟨k, m, hk, rfl, rfl, rfl, ha⟩ := hrel
    by_cases h2 : k < u.size
    · have hkl : k < u.data.toList.length := by rw [HSL.out]; exact h2
      have hg := getElem_list u k h2 hkl
      rw [rf_at hkl] at ha
      have hki : (k : Int) < (u.size : Int) := by omega
      by_cases h32 : u[k] = 32
      · have h32i : (u[k].toNat : Int) = 32 := i32.2 h32
        have hd32 : Im.isD u.data.toList[k] = false := by rw [hg, h32]; decide
        have hl32 : u.data.toList[k] = 32 := by rw [hg, h32]
        rw [sk_at hkl hl32, if_neg (show ¬ Im.isD u.data.toList[k] = true by rw [hd32]; simp)] at ha
        cases k with
        | zero =>
          have hr : R = false := by rw [← ha]; simp
          subst hr
          clear ha hd32 hl32 hg
          go_wp2
          exact bodyPost_ret (v := .tuple #[.string ⟨#[]⟩, .int .i64 15]) (by simp [results, Tryz.results23, go_sem]) rfl ⟨by simp [HRS.out, HRE.out], _, rfl⟩
        | succ j =>
          by_cases k1 : j + 1 + 1 < u.size
          · have k1i : (j : Int) + 1 + 1 < (u.size : Int) := by omega
            have hj : j < u.size := by omega
            have hgj := getElem_list u j hj (by rw [size_list]; omega)
            have hgk := getElem_list u (j + 1 + 1) k1 (by rw [size_list]; omega)
            by_cases p32 : u[j] = 32
            · have p32i : (u[j].toNat : Int) = 32 := i32.2 p32
              have hr : R = false := by
                rw [← ha]
                have h9 : prv u.data.toList (j + 1) = some 32 := by rw [prv_next (by rw [size_list]; omega), hgj, p32]
                rw [decide_eq_false (show ¬ prv u.data.toList (j + 1) ≠ some 32 from fun e => e h9), Bool.and_false, Bool.false_and, Bool.false_and]
                rfl
              subst hr
              clear ha hd32 hl32 hg hgj hgk
              go_wp2
              exact bodyPost_ret (v := .tuple #[.string ⟨#[]⟩, .int .i64 15]) (by simp [results, Tryz.results23, go_sem]) rfl ⟨by simp [HRS.out, HRE.out], _, rfl⟩
            · have p32i : ¬ (u[j].toNat : Int) = 32 := fun e => p32 (i32.1 e)
              have p32b : ((u[j].toNat : Int) != 32) = true := by simpa using p32i
              have hp : prv u.data.toList (j + 1) ≠ some 32 := by
                rw [prv_next (by rw [size_list]; omega), hgj]
                intro e; exact p32 (by simpa using e)
              by_cases n32 : u[j + 1 + 1] = 32
              · have n32i : (u[j + 1 + 1].toNat : Int) = 32 := i32.2 n32
                have hr : R = false := by
                  rw [← ha]
                  have h9 : u.data.toList[j + 1 + 1]? = some 32 := by rw [List.getElem?_eq_getElem (by rw [size_list]; omega), hgk, n32]
                  rw [decide_eq_false (show ¬ u.data.toList[j + 1 + 1]? ≠ some 32 from fun e => e h9), Bool.and_false]
                  rfl
                subst hr
                clear ha hd32 hl32 hg hgj hgk hp
                go_wp2
                exact bodyPost_ret (v := .tuple #[.string ⟨#[]⟩, .int .i64 15]) (by simp [results, Tryz.results23, go_sem]) rfl ⟨by simp [HRS.out, HRE.out], _, rfl⟩
              · have n32i : ¬ (u[j + 1 + 1].toNat : Int) = 32 := fun e => n32 (i32.1 e)
                have n32b : ((u[j + 1 + 1].toNat : Int) != 32) = true := by simpa using n32i
                have hn : u.data.toList[j + 1 + 1]? ≠ some 32 := by
                  rw [List.getElem?_eq_getElem (by rw [size_list]; omega), hgk]
                  intro e; exact n32 (by simpa using e)
                rw [if_pos (by rw [decide_eq_true (show 0 < j + 1 by omega), decide_eq_true hp, decide_eq_true (show j + 1 + 1 < u.data.toList.length by rw [size_list]; exact k1), decide_eq_true hn]; rfl)] at ha
                have HA := Lib.hid ha
                have HK := Lib.hid (noB_skip hkl hl32)
                clear ha hd32 hl32 hg hgj hgk hp hn
                go_wp2
                go_roundw
                case rel => exact ⟨j + 1 + 1, m, by omega, by go_num, by rw [HK.out], rfl, HA.out⟩
                case measure => simp [intOf]; omega
          · have k1i : ¬ (j : Int) + 1 + 1 < (u.size : Int) := by omega
            have hr : R = false := by
              rw [← ha]
              rw [decide_eq_false (show ¬ j + 1 + 1 < u.data.toList.length by rw [size_list]; exact k1), Bool.and_false, Bool.false_and]
              rfl
            subst hr
            clear ha hd32 hl32 hg
            go_wp2
            exact bodyPost_ret (v := .tuple #[.string ⟨#[]⟩, .int .i64 15]) (by simp [results, Tryz.results23, go_sem]) rfl ⟨by simp [HRS.out, HRE.out], _, rfl⟩
      · have h32i : ¬ (u[k].toNat : Int) = 32 := fun e => h32 (i32.1 e)
        have hl32 : u.data.toList[k] ≠ 32 := by rw [hg]; exact h32
        rw [if_neg (show ¬ Im.sk (prv u.data.toList k) u.data.toList[k] (u.data.toList.drop (k + 1)) = true by rw [Im.sk_no hl32]; simp)] at ha
        cases hd : Im.isD u[k] with
        | true =>
          rw [if_pos (by rw [hg]; exact hd)] at ha
          obtain ⟨c2, c3⟩ := Im.isD_iff.1 hd
          have c4 : ¬ (u[k].toNat : Int) < 48 := by omega
          have c5 : ¬ (57 : Int) < (u[k].toNat : Int) := by omega
          have HA := Lib.hid ha
          have hx : (ByteArray.mk (Im.noB (u.data.toList.take k)).toArray) ++ u.extract k (k + 1) = ⟨(Im.noB (u.data.toList.take (k + 1))).toArray⟩ := by
            apply ext_bytes
            rw [noB_snoc hkl hl32]
            have e : (u.extract k (k + 1)).data.toList = [u.data.toList[k]] := by
              rw [extract_list, List.take_succ_eq_append_getElem hkl]
              exact List.drop_left' (by rw [List.length_take]; omega)
            have happ : ∀ X Y : ByteArray, (X ++ Y).data.toList = X.data.toList ++ Y.data.toList := by intro X Y; simp
            rw [happ, e]
          obtain ⟨k1, hk1⟩ : ∃ k1, k + 1 = k1 := ⟨_, rfl⟩
          have hk1i : (k : Int) + 1 = (k1 : Int) := by omega
          rw [hk1] at HA hx
          have hk1u : k1 ≤ u.size := by omega
          have hnbl : (Im.noB (u.data.toList.take k)).length ≤ k := Nat.le_trans (filter_le _) (by rw [List.length_take]; omega)
          have hcl : ¬ 9223372036854775807 < (Im.noB (u.data.toList.take k)).length + (k1 - k) := by omega
          have hkk1 : k ≤ k1 := by omega
          clear ha hd hl32 hg
          go_wp2
          go_roundw
          case rel => exact ⟨k1, m, hk1u, by go_num, rfl, rfl, HA.out⟩
          case measure => simp [intOf]; omega
        | false =>
          rw [if_neg (by rw [hg, hd]; simp)] at ha
          have hr : R = false := ha.symm
          subst hr
          by_cases c2 : u[k].toNat < 48
          · have c3 : (u[k].toNat : Int) < 48 := by omega
            clear ha hd hl32 hg
            go_wp2
            exact bodyPost_ret (v := .tuple #[.string ⟨#[]⟩, .int .i64 15]) (by simp [results, Tryz.results23, go_sem]) rfl ⟨by simp [HRS.out, HRE.out], _, rfl⟩
          · have c3 : ¬ (u[k].toNat : Int) < 48 := by omega
            have c4 : (57 : Int) < (u[k].toNat : Int) := by
              rcases Nat.lt_or_ge 57 u[k].toNat with h5 | h5
              · omega
              · have := Im.isD_iff.2 ⟨by omega, h5⟩
                rw [this] at hd; cases hd
            clear ha hd hl32 hg
            go_wp2
            exact bodyPost_ret (v := .tuple #[.string ⟨#[]⟩, .int .i64 15]) (by simp [results, Tryz.results23, go_sem]) rfl ⟨by simp [HRS.out, HRE.out], _, rfl⟩
    · obtain rfl : k = u.size := by omega
      rw [List.drop_of_length_le (by rw [HSL.out]; exact Nat.le_refl _)] at ha
      have hr : true = R := ha
      subst hr
      clear ha
      have htk : u.data.toList.take u.size = u.data.toList := List.take_of_length_le (by rw [HSL.out]; exact Nat.le_refl _)
      rw [htk]
      have hnl := filter_le u.data.toList
      rw [size_list] at hnl
      change (Im.noB u.data.toList).length ≤ _ at hnl
      clear htk
      generalize Im.noB u.data.toList = x at *
      have hui : ¬ (u.size : Int) < (u.size : Int) := by omega
      cases hx : x with
      | nil =>
        subst hx
        go_wp2
        exact bodyPost_ret (v := .tuple #[.string ⟨#[]⟩, .int .i64 15]) (by simp [results, Tryz.results23, go_sem]) rfl ⟨by simp [HRS.out, HRE.out], _, rfl⟩
      | cons c0 r0 =>
        have hx0 : x ≠ [] := by rw [hx]; simp
        rw [← hx]
        clear hx
        have hx1 : ¬ (ByteArray.mk x.toArray).toList = [] := by rw [toList_eq]; exact hx0
        have hx2 : x.isEmpty = false := by simpa using hx0
        have hxl : x.length ≤ 1048576 := by omega
        have HF0 : ∃ F, finL x = F := ⟨_, rfl⟩
        obtain ⟨FF, hF⟩ := HF0
        have HF := Lib.hid hF
        have HX0 := Lib.hid hx0
        have hrs := HRS.out
        have hre := HRE.out
        rw [hF, hx2] at hrs
        rw [hF, hx2] at hre
        simp only [Bool.not_false, Bool.and_self, Bool.true_eq_false, if_false] at hrs hre
        have HS := Lib.hid hrs
        have HE := Lib.hid hre
        clear hF hrs hre
        go_wp2_with fail
        go_loopw [6] (fun d wr => ∃ (y : ByteArray), d = .string y ∧ 1 ≤ y.size ∧ y.size ≤ 1048576 ∧ wr = w.drewN m ∧ finL y.data.toList = FF) (fun d _ => match d with | .string y => y.size | _ => 0)
        case atStart =>
          refine ⟨_, rfl, ?_, ?_, rfl, HF.out⟩
          · rw [size_mk]; have := HX0.out; cases hx : x with
            | nil => exact absurd hx this
            | cons _ _ => simp
          · rw [size_mk]; exact hxl
        case round =>
          obtain ⟨y, rfl, hy1, hy2, rfl, hyf⟩ := hrel
          have hg0 := getElem_list y 0 (by omega) (by rw [size_list]; omega)
          by_cases hy3 : 1 < y.size
          · have hy3i : (1 : Int) < (y.size : Int) := by omega
            by_cases h48 : y[0] = 48
            · have h48i : (y[0].toNat : Int) = 48 := i48.2 h48
              have hz : finL (y.extract 1 y.size).data.toList = FF := by
                rw [extract_list, ← size_list, List.take_length, ← hyf, List.drop_one]
                cases hl : y.data.toList with
                | nil => have := size_list y; rw [hl] at this; simp at this; omega
                | cons c r =>
                  simp only [hl, List.getElem_cons_zero] at hg0
                  rw [hg0, h48, fin_zero]; rfl
              have HZ := Lib.hid hz
              have hsz : (y.extract 1 y.size).size = y.size - 1 := by rw [← size_list, extract_list, List.length_drop, List.length_take, size_list]; omega
              have HSZ := Lib.hid hsz
              clear hyf hg0 hz hsz h48
              go_wp2_with (go_quiet (fail))
              go_roundw
              case rel => exact ⟨_, rfl, by rw [HSZ.out]; omega, by rw [HSZ.out]; omega, by first | rfl | trivial, HZ.out⟩
              case measure => simp [HSZ.out]; omega
            · have h48i : ¬ (y[0].toNat : Int) = 48 := fun e => h48 (i48.1 e)
              have hz : y.data.toList = FF := by
                rw [← hyf]
                cases hl : y.data.toList with
                | nil => have := size_list y; rw [hl] at this; simp at this; omega
                | cons c r =>
                  simp only [hl, List.getElem_cons_zero] at hg0
                  rw [fin_ne (by rw [hg0]; exact h48)]
              clear hyf hg0 h48
              have hyl : FF.length = y.size := by rw [← hz, size_list]
              by_cases hl4 : 400 < y.size
              · have hl4i : (400 : Int) < (y.size : Int) := by omega
                have hrs := HS.out
                have hre := HE.out
                rw [if_pos (by omega)] at hrs hre
                subst hrs hre
                clear hz hyl
                go_wp2
                exact bodyPost_ret (v := .tuple #[.string ⟨#[]⟩, .int .i64 16]) (by simp [results, Tryz.results23, go_sem]) rfl ⟨rfl, _, rfl⟩
              · have hl4i : ¬ (400 : Int) < (y.size : Int) := by omega
                have hrs := HS.out
                have hre := HE.out
                rw [if_neg (by omega)] at hrs hre
                subst hre
                clear hyl
                subst hrs
                have HYE := Lib.hid (show (ByteArray.mk RS.toArray) = y from (ext_bytes hz).symm)
                clear hz
                go_wp2
                exact bodyPost_ret (v := .tuple #[.string y, .int .i64 0]) (by simp [results, Tryz.results23, go_sem]) rfl ⟨by rw [HYE.out], _, rfl⟩
          · have hy3i : ¬ (1 : Int) < (y.size : Int) := by omega
            have hz : y.data.toList = FF := by
              rw [← hyf]
              cases hl : y.data.toList with
              | nil => have := size_list y; rw [hl] at this; simp at this; omega
              | cons c r =>
                have h6 := size_list y
                rw [hl, List.length_cons] at h6
                have : r = [] := List.eq_nil_of_length_eq_zero (by omega)
                subst this
                rw [fin_one]
            clear hyf hg0
            have hyl : FF.length = y.size := by rw [← hz, size_list]
            by_cases hl4 : 400 < y.size
            · have hl4i : (400 : Int) < (y.size : Int) := by omega
              have hrs := HS.out
              have hre := HE.out
              rw [if_pos (by omega)] at hrs hre
              subst hrs hre
              clear hz hyl
              go_wp2
              exact bodyPost_ret (v := .tuple #[.string ⟨#[]⟩, .int .i64 16]) (by simp [results, Tryz.results23, go_sem]) rfl ⟨rfl, _, rfl⟩
            · have hl4i : ¬ (400 : Int) < (y.size : Int) := by omega
              have hrs := HS.out
              have hre := HE.out
              rw [if_neg (by omega)] at hrs hre
              subst hre
              clear hyl
              subst hrs
              have HYE := Lib.hid (show (ByteArray.mk RS.toArray) = y from (ext_bytes hz).symm)
              clear hz
              go_wp2
              exact bodyPost_ret (v := .tuple #[.string y, .int .i64 0]) (by simp [results, Tryz.results23, go_sem]) rfl ⟨by rw [HYE.out], _, rfl⟩
theorem rparse_empty (w : World) :
    Calls Tryz.prog 23 #[.string ⟨#[]⟩] w fun e w' => e = .returned (.tuple #[.string ⟨#[]⟩, .int .i64 13]) ∧ ∃ m, w' = w.drewN m := by
  go_enter Tryz.func23, Tryz.ntmps23
  go_wp2
  exact bodyPost_ret (v := .tuple #[.string ⟨#[]⟩, .int .i64 13]) (by simp [results, Tryz.results23, go_sem]) rfl ⟨rfl, 0, rfl⟩
theorem fin_or (x : List UInt8) : (400 < (finL x).length ↔ 400 < (Im.noZ x).length) ∧ (finL x = [48] ↔ Im.noZ x = []) := by
  unfold finL
  by_cases h : Im.noZ x = []
  · rw [if_pos h, h]; simp
  · rw [if_neg h]
    exact ⟨Iff.rfl, ⟨fun e => absurd e noZ_head, fun e => absurd e h⟩⟩
theorem rparse_any (s : ByteArray) (hs : s.size ≤ 1048576) (w : World) :
    Calls Tryz.prog 23 #[.string s] w fun e w' => e = .returned (.tuple #[.string ⟨(Im.prsL s.data.toList).toArray⟩, .int .i64 (Im.prsE s.data.toList)]) ∧ ∃ m, w' = w.drewN m := by
  by_cases h0 : s.data.toList = []
  · obtain rfl : s = ⟨#[]⟩ := ext_bytes h0
    exact rparse_empty w
  · have h1 : 1 ≤ s.size := by
      rw [← size_list]
      cases hl : s.data.toList with
      | nil => exact absurd hl h0
      | cons _ _ => simp
    obtain ⟨c, r, hcr⟩ : ∃ c r, s.data.toList = c :: r := by
      cases hl : s.data.toList with
      | nil => exact absurd hl h0
      | cons c r => exact ⟨c, r, rfl⟩
    have hc : s[0] = c := by
      rw [← getElem_list s 0 (by omega) (by rw [size_list]; omega)]
      simp [hcr]
    have hex : (s.extract 1 s.size).data.toList = r := by
      rw [extract_list, ← size_list, List.take_length, hcr]; rfl
    have hne : ∀ k : Nat, k < 256 → (¬ c = UInt8.ofNat k) → ¬ (s[0].toNat : Int) = (k : Int) := fun k hk h e => h (by
      rw [hc] at e
      apply UInt8.toNat_inj.1
      rw [UInt8.toNat_ofNat']; omega)
    have key : ∀ (u : List UInt8), Im.uns s.data.toList = u → ∀ (RS : List UInt8) (RE : Int),
        (RS = if (Im.rf none u && !(Im.noB u).isEmpty) = false then [] else if 400 < (finL (Im.noB u)).length then [] else if c = 45 then (if finL (Im.noB u) = [48] then [48] else 45 :: finL (Im.noB u)) else finL (Im.noB u)) →
        (RE = if (Im.rf none u && !(Im.noB u).isEmpty) = false then 15 else if 400 < (finL (Im.noB u)).length then 16 else 0) →
        RS = Im.prsL s.data.toList ∧ RE = Im.prsE s.data.toList := by
      intro u hu RS RE h2 h3
      subst h2 h3
      unfold Im.prsL Im.prsE
      rw [if_neg h0, if_neg h0, hu, Im.rf_none]
      obtain ⟨f1, f2⟩ := fin_or (Im.noB u)
      have hh : (s.data.toList.head? = some 45) ↔ c = 45 := by rw [hcr]; simp
      refine ⟨?_, ?_⟩
      · by_cases g1 : Im.gr false u = false
        · rw [if_pos g1, if_pos g1]
        · rw [if_neg g1, if_neg g1]
          by_cases g2 : 400 < (finL (Im.noB u)).length
          · rw [if_pos g2, if_pos (f1.1 g2)]
          · rw [if_neg g2, if_neg (fun e => g2 (f1.2 e))]
            by_cases g3 : Im.noZ (Im.noB u) = []
            · rw [if_pos g3]
              have g4 := f2.2 g3
              rw [if_pos g4, g4]; simp
            · rw [if_neg g3, if_neg (fun e => g3 (f2.1 e))]
              have g4 : finL (Im.noB u) = Im.noZ (Im.noB u) := by unfold finL; rw [if_neg g3]
              rw [g4]
              by_cases g5 : c = 45
              · rw [if_pos g5, if_pos (hh.2 g5)]
              · rw [if_neg g5, if_neg (fun e => g5 (hh.1 e))]
      · by_cases g1 : Im.gr false u = false
        · rw [if_pos g1, if_pos g1]
        · rw [if_neg g1, if_neg g1]
          by_cases g2 : 400 < (finL (Im.noB u)).length
          · rw [if_pos g2, if_pos (f1.1 g2)]
          · rw [if_neg g2, if_neg (fun e => g2 (f1.2 e))]
    by_cases h45 : c = 45
    · have hu : Im.uns s.data.toList = (s.extract 1 s.size).data.toList := by rw [hex, hcr, h45]; rfl
      have := rparse_neg s hs h1 (by rw [hc, h45]; rfl) _ rfl _ _ rfl rfl w
      obtain ⟨k1, k2⟩ := key _ hu _ _ rfl rfl
      rw [if_pos h45] at k1
      rw [k1, k2] at this
      exact this
    · by_cases h43 : c = 43
      · have hu : Im.uns s.data.toList = (s.extract 1 s.size).data.toList := by rw [hex, hcr, h43]; rfl
        have := rparse_plus s hs h1 (hne 45 (by decide) h45) (by rw [hc, h43]; rfl) _ rfl _ _ rfl rfl w
        obtain ⟨k1, k2⟩ := key _ hu _ _ rfl rfl
        rw [if_neg h45] at k1
        rw [k1, k2] at this
        exact this
      · have hu : Im.uns s.data.toList = s.data.toList := by
          unfold Im.uns; rw [hcr, if_neg (by simp [h45, h43])]
        have := rparse_none s hs h1 (hne 45 (by decide) h45) (hne 43 (by decide) h43) _ rfl _ _ rfl rfl w
        obtain ⟨k1, k2⟩ := key _ hu _ _ rfl rfl
        rw [if_neg h45] at k1
        rw [k1, k2] at this
        exact this
end Go.Proofs.YtnchodofgaaeeaaGreatDoor
