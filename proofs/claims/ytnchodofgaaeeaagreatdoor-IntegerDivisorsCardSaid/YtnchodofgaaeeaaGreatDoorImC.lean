/- Contracts of the functions that look at an integer's text: digits, digit, decimal, canonical. -/
import Derived.Test.YtnchodofgaaeeaaGreatDoorImB
import Derived.Test.YtnchodofgaaeeaaGreatDoorImShelf
import Derived.Test.YtnchodofgaaeeaaGreatDoorBk
import Derived.Lib.SmallJoins
import Derived.Lib.AtoiErrMem
import Derived.Lib.AtoiAll
import Derived.Lib.AppendIntMem
namespace Go.Proofs.YtnchodofgaaeeaaGreatDoor
open Go Go.RowKit Go.Shelf

theorem ret_bool {a b : Bool} (h : a = b) : Ending.returned (.bool a) = .returned (.bool b) := by rw [h]
theorem ret_int {k : IntKind} {a b : Int} (h : a = b) : Ending.returned (.int k a) = .returned (.int k b) := by rw [h]
theorem ret_str {a b : ByteArray} (h : a = b) : Ending.returned (.string a) = .returned (.string b) := by rw [h]
theorem ext_bytes {s t : ByteArray} (h : s.data.toList = t.data.toList) : s = t := by
  cases s; cases t; congr 1; exact Array.toList_inj.1 h
theorem bytes_ext {s : ByteArray} {l : List UInt8} (h : s.data.toList = l) : s = ⟨l.toArray⟩ := ext_bytes (by rw [h])
theorem size_list (s : ByteArray) : s.data.toList.length = s.size := Array.length_toList
theorem size_mk (l : List UInt8) : (ByteArray.mk l.toArray).size = l.length := by rw [← size_list]
theorem extract_take (s : ByteArray) (k : Nat) : s.extract 0 k = ⟨(s.data.toList.take k).toArray⟩ := bytes_ext (by rw [Lib.extract_data]; simp)
theorem getElem_list (s : ByteArray) (k : Nat) (_h : k < s.size) (h' : k < s.data.toList.length) : s.data.toList[k] = s[k] := by simp; rfl
theorem all_false {l : List UInt8} {k : Nat} (h : k < l.length) (hd : Im.isD l[k] = false) : l.all Im.isD = false := by
  cases hl : l.all Im.isD with
  | false => rfl
  | true => rw [List.all_eq_true.1 hl _ (List.getElem_mem h)] at hd; cases hd
theorem take_all {l : List UInt8} {k : Nat} (h : k < l.length) (ha : (l.take k).all Im.isD = true) (hd : Im.isD l[k] = true) : (l.take (k + 1)).all Im.isD = true := by
  rw [List.take_succ_eq_append_getElem h, List.all_append, ha]; simp [hd]

theorem trim_dgs (l : List UInt8) : Lib.trimPrefix l [45] = Im.dgs l := by
  cases l with
  | nil => rfl
  | cons c r =>
    unfold Im.dgs Lib.trimPrefix Lib.hasPrefix
    by_cases h : c = 45
    · subst h; simp
    · simp [h, Ne.symm h]

theorem digits_any (s : ByteArray) (w : World) :
    Calls Tryz.prog 47 #[.string s] w fun e w' => e = .returned (.string ⟨(Im.dgs s.data.toList).toArray⟩) ∧ w' = w := by
  have t := fun W => Tryz.strings_TrimPrefix s ⟨#[45]⟩ W
  have e : Lib.trimPrefix s.data.toList (ByteArray.mk #[45]).data.toList = Im.dgs s.data.toList := trim_dgs _
  rw [e] at t
  have T := Lib.hid t
  clear t e
  go_enter Tryz.func47, Tryz.ntmps47
  go_wp2_with fail
  refine (T.out _).mono ?_
  rintro e w' ⟨rfl, rfl⟩
  go_wp2
  go_ret
  exact ⟨rfl, rfl⟩

theorem digit_any (b : UInt8) (w : World) :
    Calls Tryz.prog 90 #[.int .u8 (b.toNat : Int)] w fun e w' => e = .returned (.bool (Im.isD b)) ∧ w' = w := by
  by_cases c1 : 48 ≤ b.toNat
  · have c2 : (48 : Int) ≤ (b.toNat : Int) := by omega
    have h : Im.isD b = decide ((b.toNat : Int) ≤ 57) := by unfold Im.isD; rw [show decide (48 ≤ b.toNat) = true by simpa using c1, Bool.true_and]; congr 1; apply propext; omega
    rw [h]
    go_enter Tryz.func90, Tryz.ntmps90
    go_wp2
    go_ret
    exact ⟨rfl, rfl⟩
  · have c2 : ¬ (48 : Int) ≤ (b.toNat : Int) := by omega
    have h : Im.isD b = false := by unfold Im.isD; rw [show decide (48 ≤ b.toNat) = false by simpa using c1, Bool.false_and]
    rw [h]
    go_enter Tryz.func90, Tryz.ntmps90
    go_wp2
    go_ret
    exact ⟨rfl, rfl⟩

set_option maxHeartbeats 1000000 in
theorem decimal_any (s : ByteArray) (hs : s.size ≤ 1048576) (w : World) :
    Calls Tryz.prog 79 #[.string s] w fun e w' => e = .returned (.bool (s.data.toList.all Im.isD)) ∧ w' = w := by
  have hsl := size_list s
  have HSL := Lib.hid hsl
  have D := Lib.hid (fun b W => digit_any b W)
  obtain ⟨R, hR⟩ : ∃ R, s.data.toList.all Im.isD = R := ⟨_, rfl⟩
  have HR := Lib.hid hR
  rw [hR]
  clear hR hsl
  go_enter Tryz.func79, Tryz.ntmps79
  go_wp2_with fail
  go_loop [6] (fun i => ∃ k : Nat, k ≤ s.size ∧ i = .int .i64 (k : Int) ∧ (s.data.toList.take k).all Im.isD = true) (fun i => s.size - (intOf i).toNat)
  case atStart => exact ⟨0, Nat.zero_le _, rfl, rfl⟩
  case round =>
    obtain ⟨k, hk, rfl, ha⟩ := hrel
    have HA := Lib.hid ha
    clear ha
    by_cases h1 : k < s.size
    · have hkl : k < s.data.toList.length := by rw [HSL.out]; exact h1
      have hg := getElem_list s k h1 hkl
      have HG := Lib.hid hg
      clear hg
      cases c1 : Im.isD s[k] with
      | false =>
        have hr : R = false := by rw [← HR.out]; exact all_false hkl (by rw [HG.out]; exact c1)
        subst hr
        have d := fun W => D.out s[k] W
        rw [c1] at d
        have DD := Lib.hid d
        clear d c1
        go_wp2_with fail
        refine (DD.out _).mono ?_
        rintro e w' ⟨rfl, rfl⟩
        go_wp2
        go_ret
        exact ⟨rfl, rfl⟩
      | true =>
        have hn := take_all hkl HA.out (by rw [HG.out]; exact c1)
        have HN := Lib.hid hn
        have d := fun W => D.out s[k] W
        rw [c1] at d
        have DD := Lib.hid d
        clear hn d c1
        go_wp2_with fail
        refine (DD.out _).mono ?_
        rintro e w' ⟨rfl, rfl⟩
        go_wp2
        go_round
        case rel => exact ⟨k + 1, by omega, by go_num, HN.out⟩
        case measure => simp [intOf]; omega
    · obtain rfl : k = s.size := by omega
      have ha := HA.out
      rw [List.take_of_length_le (by rw [HSL.out]; exact Nat.le_refl _)] at ha
      have hr : true = R := by rw [← HR.out, ha]
      subst hr
      clear ha
      go_wp2
      go_ret
      exact ⟨rfl, rfl⟩

theorem toList_eq (s : ByteArray) : s.toList = s.data.toList := Lib.toList_data s

set_option maxHeartbeats 1000000 in
theorem canonical_any (s : ByteArray) (hs : s.size ≤ 1048576) (w : World) :
    Calls Tryz.prog 46 #[.string s] w fun e w' => e = .returned (.bool (Im.canonI s.data.toList)) ∧ w' = w := by
  have t := fun W => digits_any s W
  have D := Lib.hid (fun s hs W => decimal_any s hs W)
  have hlen : (Im.dgs s.data.toList).length ≤ s.size := by
    unfold Im.dgs
    split
    · rw [List.length_tail, size_list]; omega
    · rw [size_list]; omega
  by_cases h0 : s.data.toList = [48]
  · have T := Lib.hid t
    have hr : Im.canonI s.data.toList = true := by rw [h0]; rfl
    rw [hr]
    rw [← toList_eq] at h0
    clear t hr hlen
    go_enter Tryz.func46, Tryz.ntmps46
    go_wp2_with fail
    refine (T.out _).mono ?_
    rintro e w' ⟨rfl, rfl⟩
    go_wp2
    go_ret
    exact ⟨rfl, rfl⟩
  · have h0' : (s.toList == [48]) = false := by rw [toList_eq, beq_eq_false_iff_ne]; exact h0
    have hr : Im.canonI s.data.toList = (!(Im.dgs s.data.toList).isEmpty && (Im.dgs s.data.toList).head? != some 48 && (Im.dgs s.data.toList).all Im.isD) := by
      unfold Im.canonI
      rw [show (s.data.toList == [48]) = false by rw [beq_eq_false_iff_ne]; exact h0, Bool.false_or]
    rw [hr]
    have h0'' : ¬ s.toList = [48] := by rw [toList_eq]; exact h0
    generalize Im.dgs s.data.toList = d at *
    have T := Lib.hid t
    clear t hr h0
    cases d with
    | nil =>
      go_enter Tryz.func46, Tryz.ntmps46
      go_wp2_with fail
      refine (T.out _).mono ?_
      rintro e w' ⟨rfl, rfl⟩
      go_wp2
      go_ret
      exact ⟨ret_bool (by simp), rfl⟩
    | cons c r =>
      by_cases hc : c = 48
      · subst hc
        go_enter Tryz.func46, Tryz.ntmps46
        go_wp2_with fail
        refine (T.out _).mono ?_
        rintro e w' ⟨rfl, rfl⟩
        go_wp2
        go_ret
        exact ⟨ret_bool (by simp), rfl⟩
      · have hc1 : ¬ ((c.toNat : Int) = 48) := fun e => hc (by apply UInt8.toNat_inj.1; show c.toNat = 48; omega)
        have d1 := fun W => D.out ⟨(c :: r).toArray⟩ (by rw [size_mk]; omega) W
        have e1 : (!(c :: r).isEmpty && (c :: r).head? != some 48 && (c :: r).all Im.isD) = (c :: r).all Im.isD := by simp [hc]
        rw [e1]
        change ∀ W, Calls Tryz.prog 79 #[.string ⟨(c :: r).toArray⟩] W fun e w' => e = .returned (.bool ((c :: r).all Im.isD)) ∧ w' = W at d1
        have DD := Lib.hid d1
        generalize (c :: r).all Im.isD = R at *
        clear d1 e1 hlen
        go_enter Tryz.func46, Tryz.ntmps46
        go_wp2_with fail
        refine (T.out _).mono ?_
        rintro e w' ⟨rfl, rfl⟩
        go_wp2_with (first | (go_at_call 79; refine (DD.out _).mono ?_; rintro e w' ⟨rfl, rfl⟩) | fail)
        go_ret
        exact ⟨ret_bool (show ((c.toNat : Int) != 48 && R) = R by rw [show ((c.toNat : Int) != 48) = true by simpa using hc1, Bool.true_and]), rfl⟩

/-- What the walks ask of memory: the table of powers of ten, and the cell of MaxLen. -/
structure Gi (W : World) : Prop where
  tab : Lib.TabIs Tryz.prog W "internal/strconv.uint64pow10" .u64 Lib.pow10Tab
  mx : ∃ m, W.cell? ⟨2, 0, none⟩ = some (.int .i64 m)
  size : 3 ≤ W.heap.size
theorem Gi.below {w w' : World} (h : Gi w) (hb : Below w.heap.size w w') : Gi w' where
  size := Nat.le_trans h.size hb.size
  tab := Joins.tab_stays (g := 3) (by kernel_rfl) h.tab hb (Nat.le_refl _)
  mx := h.mx.imp fun m hm => (hb.cell (p := ⟨2, 0, none⟩) (by have := h.size; simp; omega)).trans hm
theorem of_any (n : Int) (h0 : -9223372036854775808 ≤ n) (h1 : n ≤ 9223372036854775807) (w : World) (G : Gi w) :
    Calls Tryz.prog 16 #[.int .i64 n] w fun e w' => e = .returned (.string ⟨(Lib.itoa n).toArray⟩) ∧ Below w.heap.size w w' := by
  have T := Lib.hid (Tryz.strconv_Itoa n h0 h1 w G.tab)
  go_enter Tryz.func16, Tryz.ntmps16
  go_wp2_with fail
  refine T.out.mono ?_
  rintro e w' ⟨rfl, k, os, rfl⟩
  go_wp2
  go_ret
  exact ⟨rfl, Lib.below_grow _ w (Nat.le_refl _) k os⟩

theorem parse_digits : ∀ (l : List UInt8) (acc : Nat), l.all Im.isD = true → acc * 10 ^ l.length + Im.valL l < 18446744073709551616 → Lib.parseUint10 acc l = .ok (acc * 10 ^ l.length + Im.valL l)
  | [], acc, _, _ => by simp [Lib.parseUint10, Im.valL]
  | c :: r, acc, h, hlt => by
    obtain ⟨h1, h2⟩ : Im.isD c = true ∧ r.all Im.isD = true := by simpa using h
    have h3 := Im.isD_iff.1 h1
    have hv : Im.valL (c :: r) = (c.toNat - 48) * 10 ^ r.length + Im.valL r := by
      rw [show c :: r = [c] ++ r from rfl, Im.val_append, Im.val_one]
    have e : acc * 10 ^ (c :: r).length + Im.valL (c :: r) = (acc * 10 + (c.toNat - 48)) * 10 ^ r.length + Im.valL r := by
      rw [hv, List.length_cons, Nat.pow_succ, Nat.add_mul, Nat.mul_assoc, Nat.mul_comm 10 (10 ^ r.length), Nat.add_assoc]
    rw [e] at hlt ⊢
    have hp : 1 ≤ 10 ^ r.length := Nat.pow_pos (by decide)
    have hb : acc * 10 + (c.toNat - 48) ≤ (acc * 10 + (c.toNat - 48)) * 10 ^ r.length := Nat.le_mul_of_pos_right _ hp
    unfold Lib.parseUint10
    rw [if_pos h3, if_neg (by omega), if_neg (by omega)]
    exact parse_digits r _ h2 hlt
/-- Atoi of an integer that fits. -/
theorem atoi_canon {l : List UInt8} (h : Im.canonI l = true) (hl : (Im.dgs l).length ≤ 18) : Lib.atoiAll l = .ok (Im.ivL l) := by
  obtain ⟨h1, h2⟩ := Im.canonI_canon h
  obtain ⟨h3, h4, h5⟩ := Im.canonL_iff.1 h1
  have hlt := Im.val_lt h4
  have hp : 10 ^ (Im.dgs l).length ≤ 10 ^ 18 := Nat.pow_le_pow_right (by decide) hl
  have hpm : Lib.parseMag (Im.dgs l) = .ok (Im.valL (Im.dgs l)) := by
    unfold Lib.parseMag
    rw [if_neg h3]
    have := parse_digits (Im.dgs l) 0 h4 (by omega)
    simpa using this
  cases l with
  | nil => exact absurd h (by decide)
  | cons c r =>
    by_cases hc : c = 45
    · subst hc
      have e : Im.dgs (45 :: r) = r := rfl
      rw [e] at hlt hp hpm h4 hl
      unfold Lib.atoiAll
      simp only [show (45 : UInt8).toNat = 45 from rfl, or_true, if_true, hpm, not_true_eq_false, false_and, if_false, true_and]
      rw [if_neg (by omega)]
      rfl
    · have e : Im.dgs (c :: r) = c :: r := by unfold Im.dgs; rw [if_neg (by simpa using hc)]
      have e2 : Im.ivL (c :: r) = (Im.valL (c :: r) : Int) := by unfold Im.ivL; rw [if_neg (by simpa using hc)]
      rw [e] at hlt hp hpm h4 hl
      have hd : Im.isD c = true := List.all_eq_true.1 h4 c (by simp)
      have hd2 := Im.isD_iff.1 hd
      unfold Lib.atoiAll
      simp only
      rw [if_neg (by omega), hpm]
      simp only
      rw [if_neg (by omega), if_neg (by omega), if_neg (by omega), e2]

theorem ivL_abs (l : List UInt8) : (Im.ivL l).natAbs = Im.valL (Im.dgs l) := by
  unfold Im.ivL Im.dgs
  split <;> simp
/-- What Small returns. -/
def smallV (l : List UInt8) : Int := if Im.canonI l = true ∧ (Im.dgs l).length ≤ 18 then Im.ivL l else 0
def smallB (l : List UInt8) : Bool := Im.canonI l && decide ((Im.dgs l).length ≤ 18)

set_option maxHeartbeats 1000000 in
theorem small_any (s : ByteArray) (hs : s.size ≤ 1048576) (w : World) :
    Calls Tryz.prog 19 #[.string s] w fun e w' => e = .returned (.tuple #[.int .i64 (smallV s.data.toList), .bool (smallB s.data.toList)]) ∧ Below w.heap.size w w' := by
  have T := Lib.hid (fun W => digits_any s W)
  have c := fun W => canonical_any s hs W
  by_cases h1 : 18 < (Im.dgs s.data.toList).length
  · have e1 : smallV s.data.toList = 0 := by unfold smallV; rw [if_neg (by omega)]
    have e2 : smallB s.data.toList = false := by unfold smallB; simp; intro; omega
    rw [e1, e2]
    clear c
    have h2 : (18 : Int) < ((Im.dgs s.data.toList).length : Int) := by omega
    go_enter Tryz.func19, Tryz.ntmps19
    go_wp2_with fail
    refine (T.out _).mono ?_
    rintro e w' ⟨rfl, rfl⟩
    go_wp2
    exact bodyPost_ret (v := .tuple #[.int .i64 0, .bool false]) (by simp [results, Tryz.results19, go_sem]) rfl ⟨rfl, Below.refl _ _⟩
  · have h2 : ¬ (18 : Int) < ((Im.dgs s.data.toList).length : Int) := by omega
    cases hc : Im.canonI s.data.toList with
    | false =>
      have e1 : smallV s.data.toList = 0 := by unfold smallV; rw [if_neg (by rw [hc]; simp)]
      have e2 : smallB s.data.toList = false := by unfold smallB; rw [hc]; rfl
      rw [hc] at c
      have C := Lib.hid c
      rw [e1, e2]
      clear c hc e1 e2
      go_enter Tryz.func19, Tryz.ntmps19
      go_wp2_with fail
      refine (T.out _).mono ?_
      rintro e w' ⟨rfl, rfl⟩
      go_wp2_with fail
      refine (C.out _).mono ?_
      rintro e w' ⟨rfl, rfl⟩
      go_wp2
      exact bodyPost_ret (v := .tuple #[.int .i64 0, .bool false]) (by simp [results, Tryz.results19, go_sem]) rfl ⟨rfl, Below.refl _ _⟩
    | true =>
      have e1 : smallV s.data.toList = Im.ivL s.data.toList := by unfold smallV; rw [if_pos ⟨hc, by omega⟩]
      have e2 : smallB s.data.toList = true := by unfold smallB; rw [hc]; simp; omega
      have A := Lib.hid (fun W => Tryz.strconv_Atoi_ok s (by omega) (Im.ivL s.data.toList) (atoi_canon hc (by omega)) W)
      rw [hc] at c
      have C := Lib.hid c
      rw [e1, e2]
      clear c hc e1 e2
      go_enter Tryz.func19, Tryz.ntmps19
      go_wp2_with fail
      refine (T.out _).mono ?_
      rintro e w' ⟨rfl, rfl⟩
      go_wp2_with fail
      refine (C.out _).mono ?_
      rintro e w' ⟨rfl, rfl⟩
      go_wp2_with fail
      refine (A.out _).mono ?_
      rintro e w2 ⟨rfl, hw⟩
      have hb : Below w'.heap.size w' w2 := by
        rcases hw with rfl | ⟨t, rfl⟩
        · exact Below.refl _ _
        · exact Lib.bytesWorld_below _ _ _
      clear hw
      go_wp2_with (go_quiet (fail))
      exact bodyPost_ret (v := .tuple #[.int .i64 (Im.ivL s.data.toList), .bool true]) (by simp [results, Tryz.results19, go_sem]) rfl ⟨rfl, hb.trans ⟨rfl, rfl, rfl, Nat.le_refl _, fun _ _ => rfl⟩⟩

set_option maxHeartbeats 1000000 in
theorem pair_any (s t : ByteArray) (hs : s.size ≤ 1048576) (ht : t.size ≤ 1048576) (w : World) :
    Calls Tryz.prog 64 #[.string s, .string t] w fun e w' => e = .returned (.tuple #[.int .i64 (smallV s.data.toList), .int .i64 (smallV t.data.toList), .bool (smallB s.data.toList && smallB t.data.toList)]) ∧ Below w.heap.size w w' := by
  have S := Lib.hid (fun W => small_any s hs W)
  have T := Lib.hid (fun W => small_any t ht W)
  cases h : smallB s.data.toList with
  | false =>
    rw [h] at S
    go_enter Tryz.func64, Tryz.ntmps64
    go_wp2_with fail
    refine (S.out _).mono ?_
    rintro e w1 ⟨rfl, hb1⟩
    go_wp2_with fail
    refine (T.out _).mono ?_
    rintro e w2 ⟨rfl, hb2⟩
    go_wp2
    exact bodyPost_ret (v := .tuple #[.int .i64 (smallV s.data.toList), .int .i64 (smallV t.data.toList), .bool false]) (by simp [results, Tryz.results64, go_sem]) rfl ⟨rfl, hb1.trans (hb2.mono hb1.size)⟩
  | true =>
    rw [h] at S
    go_enter Tryz.func64, Tryz.ntmps64
    go_wp2_with fail
    refine (S.out _).mono ?_
    rintro e w1 ⟨rfl, hb1⟩
    go_wp2_with fail
    refine (T.out _).mono ?_
    rintro e w2 ⟨rfl, hb2⟩
    go_wp2
    exact bodyPost_ret (v := .tuple #[.int .i64 (smallV s.data.toList), .int .i64 (smallV t.data.toList), .bool (smallB t.data.toList)]) (by simp [results, Tryz.results64, go_sem]) rfl ⟨rfl, hb1.trans (hb2.mono hb1.size)⟩

/-- What Check returns. -/
def chkL (l : List UInt8) : Int := if Im.canonI l = true ∧ (Im.dgs l).length ≤ 400 then 0 else 2
set_option maxHeartbeats 1000000 in
theorem check_any (s : ByteArray) (hs : s.size ≤ 1048576) (w : World) :
    Calls Tryz.prog 15 #[.string s] w fun e w' => e = .returned (.int .i64 (chkL s.data.toList)) ∧ w' = w := by
  have T := Lib.hid (fun W => digits_any s W)
  have c := fun W => canonical_any s hs W
  cases hc : Im.canonI s.data.toList with
  | false =>
    have e1 : chkL s.data.toList = 2 := by unfold chkL; rw [if_neg (by rw [hc]; simp)]
    rw [hc] at c
    have C := Lib.hid c
    rw [e1]
    clear c hc e1
    go_enter Tryz.func15, Tryz.ntmps15
    go_wp2_with fail
    refine (C.out _).mono ?_
    rintro e w' ⟨rfl, rfl⟩
    go_wp2
    go_ret
    exact ⟨rfl, rfl⟩
  | true =>
    rw [hc] at c
    have C := Lib.hid c
    by_cases h1 : 400 < (Im.dgs s.data.toList).length
    · have e1 : chkL s.data.toList = 2 := by unfold chkL; rw [if_neg (by omega)]
      have h2 : (400 : Int) < ((Im.dgs s.data.toList).length : Int) := by omega
      rw [e1]
      clear c hc e1
      go_enter Tryz.func15, Tryz.ntmps15
      go_wp2_with fail
      refine (C.out _).mono ?_
      rintro e w' ⟨rfl, rfl⟩
      go_wp2_with fail
      refine (T.out _).mono ?_
      rintro e w' ⟨rfl, rfl⟩
      go_wp2
      go_ret
      exact ⟨rfl, rfl⟩
    · have e1 : chkL s.data.toList = 0 := by unfold chkL; rw [if_pos ⟨hc, by omega⟩]
      have h2 : ¬ (400 : Int) < ((Im.dgs s.data.toList).length : Int) := by omega
      rw [e1]
      clear c hc e1
      go_enter Tryz.func15, Tryz.ntmps15
      go_wp2_with fail
      refine (C.out _).mono ?_
      rintro e w' ⟨rfl, rfl⟩
      go_wp2_with fail
      refine (T.out _).mono ?_
      rintro e w' ⟨rfl, rfl⟩
      go_wp2
      go_ret
      exact ⟨rfl, rfl⟩
end Go.Proofs.YtnchodofgaaeeaaGreatDoor
