/- Plain arithmetic of written integers: what a text with a sign and blanks writes; no program is named here. -/
import Derived.Test.YthdoadkdofgenaaGreatDoorImB
import Derived.Test.YthdoadkdofgenaaGreatDoorImN
import Derived.Lib.SplitLaws
import Derived.Lib.ItoaNum
namespace Go.Proofs.YthdoadkdofgenaaGreatDoor.Im
open Go

/-- Digits, with at most one blank between each two; b: a digit stands before. -/
def gr : Bool → List UInt8 → Bool
  | b, [] => b
  | b, c :: r => if isD c = true then gr true r else if c = 32 ∧ b = true then gr false r else false
/-- The text without its sign. -/
def uns (l : List UInt8) : List UInt8 := if l.head? = some 45 ∨ l.head? = some 43 then l.tail else l
def noB (l : List UInt8) : List UInt8 := l.filter (fun c => c != 32)
def noZ (l : List UInt8) : List UInt8 := l.dropWhile (fun c => c == 48)
def prsL (l : List UInt8) : List UInt8 :=
  if l = [] then [] else if gr false (uns l) = false then [] else
  if 400 < (noZ (noB (uns l))).length then [] else
  if noZ (noB (uns l)) = [] then [48] else
  if l.head? = some 45 then 45 :: noZ (noB (uns l)) else noZ (noB (uns l))
def prsE (l : List UInt8) : Int :=
  if l = [] then 13 else if gr false (uns l) = false then 15 else
  if 400 < (noZ (noB (uns l))).length then 16 else 0

/-- The other way to read: a blank is passed over where its neighbours are there and no blanks. -/
def sk (p : Option UInt8) (c : UInt8) (r : List UInt8) : Bool := c == 32 && p.isSome && p != some 32 && !r.isEmpty && r.head? != some 32
def rf : Option UInt8 → List UInt8 → Bool
  | _, [] => true
  | p, c :: r => if sk p c r = true then rf (some c) r else if isD c = true then rf (some c) r else false
theorem not_blank {c : UInt8} (h : isD c = true) : c ≠ 32 := fun e => by subst e; exact absurd h (by decide)
theorem rf_yes {p : Option UInt8} {c : UInt8} {r : List UInt8} (h : sk p c r = true) : rf p (c :: r) = rf (some c) r := by
  show (if sk p c r = true then rf (some c) r else if isD c = true then rf (some c) r else false) = _
  rw [if_pos h]
theorem rf_no {p : Option UInt8} {c : UInt8} {r : List UInt8} (h : sk p c r = false) : rf p (c :: r) = if isD c = true then rf (some c) r else false := by
  show (if sk p c r = true then rf (some c) r else if isD c = true then rf (some c) r else false) = _
  rw [if_neg (by rw [h]; simp)]
theorem gr_d {b : Bool} {c : UInt8} {r : List UInt8} (h : isD c = true) : gr b (c :: r) = gr true r := by
  show (if isD c = true then gr true r else if c = 32 ∧ b = true then gr false r else false) = _
  rw [if_pos h]
theorem gr_o {b : Bool} {c : UInt8} {r : List UInt8} (h : ¬ isD c = true) : gr b (c :: r) = if c = 32 ∧ b = true then gr false r else false := by
  show (if isD c = true then gr true r else if c = 32 ∧ b = true then gr false r else false) = _
  rw [if_neg h]
theorem sk_no {p : Option UInt8} {c : UInt8} {r : List UInt8} (h : c ≠ 32) : sk p c r = false := by simp [sk, h]
theorem rf_gr : ∀ (l : List UInt8),
    (∀ d, isD d = true → rf (some d) l = gr true l) ∧ (l ≠ [] → l.head? ≠ some 32 → rf (some 32) l = gr false l)
  | [] => ⟨fun _ _ => rfl, fun h => absurd rfl h⟩
  | c :: r => by
    obtain ⟨ih1, ih2⟩ := rf_gr r
    refine ⟨fun d hd => ?_, fun _ hh => ?_⟩
    · by_cases hc : isD c = true
      · rw [rf_no (sk_no (not_blank hc)), if_pos hc, gr_d hc, ih1 c hc]
      · rw [gr_o hc]
        by_cases h32 : c = 32
        · subst h32
          rw [if_pos (And.intro rfl rfl)]
          have hd2 := not_blank hd
          cases r with
          | nil => rw [rf_no (by simp [sk]), if_neg hc]; rfl
          | cons x t =>
            by_cases hx : x = 32
            · subst hx
              rw [rf_no (by simp [sk]), if_neg hc, gr_o hc, if_neg (by simp)]
            · rw [rf_yes (by simp [sk, hd2, hx]), ih2 (by simp) (by simpa using hx)]
        · rw [rf_no (sk_no h32), if_neg hc, if_neg (by simp [h32])]
    · have h32 : c ≠ 32 := by simpa using hh
      rw [rf_no (sk_no h32)]
      by_cases hc : isD c = true
      · rw [if_pos hc, gr_d hc, ih1 c hc]
      · rw [if_neg hc, gr_o hc, if_neg (by simp [h32])]
theorem rf_none (l : List UInt8) : (rf none l && !(noB l).isEmpty) = gr false l := by
  cases l with
  | nil => rfl
  | cons c r =>
    rw [rf_no (by simp [sk])]
    by_cases hc : isD c = true
    · rw [if_pos hc, gr_d hc, (rf_gr r).1 c hc]
      have := not_blank hc
      simp [noB, this]
    · rw [if_neg hc, gr_o hc, if_neg (by simp), Bool.false_and]
theorem gr_digits : ∀ (l : List UInt8) (b : Bool), gr b l = true → (noB l).all isD = true
  | [], _, _ => rfl
  | c :: r, b, h => by
    unfold gr at h
    by_cases hc : isD c = true
    · rw [if_pos hc] at h
      have := gr_digits r true h
      have h2 := not_blank hc
      simp only [noB, List.filter_cons, bne_iff_ne, ne_eq, h2, not_false_eq_true, if_true, List.all_cons, hc, Bool.true_and]
      exact this
    · rw [if_neg hc] at h
      by_cases h3 : c = 32 ∧ b = true
      · rw [if_pos h3] at h
        have := gr_digits r false h
        obtain ⟨rfl, _⟩ := h3
        simpa [noB] using this
      · rw [if_neg h3] at h; cases h
/-- A canonical integer is read as it is. -/
theorem all_gr : ∀ (l : List UInt8) (b : Bool), l.all isD = true → gr b l = (b || !l.isEmpty)
  | [], b, _ => by simp [gr]
  | c :: r, b, h => by
    obtain ⟨h1, h2⟩ : isD c = true ∧ r.all isD = true := by simpa using h
    unfold gr
    rw [if_pos h1, all_gr r true h2]
    simp
theorem all_noB {l : List UInt8} (h : l.all isD = true) : noB l = l := by
  unfold noB
  rw [List.filter_eq_self]
  intro c hc
  have := not_blank (List.all_eq_true.1 h c hc)
  simpa using this
theorem prs_canon {l : List UInt8} (h : canonI l = true) (hl : (dgs l).length ≤ 400) : prsL l = l ∧ prsE l = 0 := by
  obtain ⟨h1, h2⟩ := canonI_canon h
  obtain ⟨h3, h4, h5⟩ := canonL_iff.1 h1
  have hne : l ≠ [] := fun e => by subst e; exact absurd h (by decide)
  have hu : uns l = dgs l := by
    unfold uns dgs
    by_cases hm : l.head? = some 45
    · rw [if_pos (.inl hm), if_pos hm]
    · rw [if_neg hm]
      by_cases hp : l.head? = some 43
      · exfalso
        have e : dgs l = l := by unfold dgs; rw [if_neg hm]
        rw [e] at h4
        cases l with
        | nil => exact hne rfl
        | cons c r =>
          simp at hp
          subst hp
          simp [isD] at h4
      · rw [if_neg (by simp [hm, hp])]
  have hg : gr false (uns l) = true := by
    rw [hu, all_gr _ _ h4]
    cases hd : dgs l with
    | nil => exact absurd hd h3
    | cons _ _ => rfl
  have hn : noZ (noB (uns l)) = if dgs l = [48] then [] else dgs l := by
    rw [hu, all_noB h4]
    unfold noZ
    by_cases e : dgs l = [48]
    · rw [if_pos e, e]; rfl
    · rw [if_neg e]
      cases hd : dgs l with
      | nil => exact absurd hd h3
      | cons c r =>
        have hc : c ≠ 48 := by
          rcases h5 with h5 | h5
          · rw [hd] at h5; simpa using h5
          · exact absurd h5 e
        rw [List.dropWhile_cons, if_neg (by simpa using hc)]
  have hl2 : ¬ 400 < (noZ (noB (uns l))).length := by
    rw [hn]
    split
    · simp
    · omega
  refine ⟨?_, by unfold prsE; rw [if_neg hne, if_neg (by rw [hg]; simp), if_neg hl2]⟩
  unfold prsL
  rw [if_neg hne, if_neg (by rw [hg]; simp), if_neg hl2, hn]
  by_cases e : dgs l = [48]
  · rw [if_pos e, if_pos rfl]
    unfold dgs at e
    by_cases hm : l.head? = some 45
    · rw [if_pos hm] at e
      exact absurd (by rw [e]; rfl) (h2 hm)
    · rw [if_neg hm] at e
      exact e.symm
  · rw [if_neg e, if_neg h3]
    unfold dgs
    by_cases hm : l.head? = some 45
    · rw [if_pos hm, if_pos hm]
      cases l with
      | nil => exact absurd rfl hne
      | cons c r => simp at hm; subst hm; rfl
    · rw [if_neg hm, if_neg hm]
end Go.Proofs.YthdoadkdofgenaaGreatDoor.Im
/- The contracts of grouped and Parse. -/
namespace Go.Proofs.YthdoadkdofgenaaGreatDoor
open Go Go.RowKit Go.Shelf

theorem index_cons {b c : UInt8} {r : List UInt8} {i : Nat} (h : b ≠ c) (hi : Lib.index r [c] = i) : Lib.index (b :: r) [c] = (i + 1 : Nat) := by
  have hp : ([c] : List UInt8).isPrefixOf (b :: r) = false := by simp [List.isPrefixOf, Ne.symm h]
  have hix : Lib.index (b :: r) [c] = if Lib.index r [c] == -1 then -1 else Lib.index r [c] + 1 := by rw [Lib.index, hp]; simp
  rw [hix, if_neg (fun e => by have := beq_iff_eq.1 e; omega), hi]; omega
theorem replace_none (c : UInt8) : ∀ l : List UInt8, Lib.replaceK [c] [] (l.count c) l = l.filter (fun x => x != c)
  | [] => rfl
  | b :: r => by
    have ih := replace_none c r
    by_cases h : b = c
    · subst h
      rw [List.count_cons_self, Lib.replaceK_hit _ _ _ _ 0 (by rw [Lib.index_one]; simp [Lib.indexByte])]
      simpa using ih
    · rw [List.count_cons_of_ne h]
      rw [List.filter_cons, if_pos (by simpa using h), ← ih]
      cases hk : r.count c with
      | zero => rfl
      | succ k =>
        obtain ⟨i, hi⟩ := Lib.index_of_count (s := r) (old := [c]) (by rw [Lib.count_one, hk]; omega)
        rw [Lib.replaceK_hit _ _ _ _ (i + 1) (index_cons h hi), Lib.replaceK_hit _ _ _ _ i hi]
        simp
theorem replaceAll_none (l : List UInt8) : Lib.replaceAll l [32] [] = Im.noB l := by
  unfold Lib.replaceAll Lib.replace Im.noB
  rw [if_neg (by simp), show Lib.replaceNum l [32] (-1) = l.count 32 by unfold Lib.replaceNum; rw [if_pos (by omega), Lib.count_one]]
  exact replace_none 32 l
theorem has_one (l : List UInt8) (c : UInt8) : Lib.hasPrefix l [c] = decide (l.head? = some c) := by
  cases l with
  | nil => rfl
  | cons x r => by_cases h : x = c <;> simp [Lib.hasPrefix, h, List.isPrefixOf] <;> exact fun e => h e.symm
theorem trim_one (l : List UInt8) (c : UInt8) : Lib.trimPrefix l [c] = if l.head? = some c then l.tail else l := by
  unfold Lib.trimPrefix
  cases l with
  | nil => rfl
  | cons x r => by_cases h : x = c <;> simp [Lib.hasPrefix, h, List.isPrefixOf] <;> exact fun e => absurd e.symm h

theorem filter_le (l : List UInt8) : (Im.noB l).length ≤ l.length := List.length_filter_le _ _
theorem drop_le (l : List UInt8) : (Im.noZ l).length ≤ l.length := by
  unfold Im.noZ
  exact List.Sublist.length_le (List.dropWhile_sublist _)
end Go.Proofs.YthdoadkdofgenaaGreatDoor
/- The contract of Power. -/
namespace Go.Proofs.YthdoadkdofgenaaGreatDoor
open Go Go.RowKit Go.Shelf

theorem lt_bitLen {n : Nat} (h : n < 2 ^ 64) : n < 2 ^ Lib.bitLen n := by
  by_cases h0 : n = 0
  · subst h0; decide
  · exact (Lib.bitLenAux_bounds 64 n h h0).2.2
theorem pow_step1 (a : Int) (n k : Nat) (h : n / 2 ^ k % 2 = 1) : a ^ (n / 2 ^ (k + 1)) * a ^ (n / 2 ^ (k + 1)) * a = a ^ (n / 2 ^ k) := by
  have e : n / 2 ^ k = n / 2 ^ (k + 1) + n / 2 ^ (k + 1) + 1 := by
    rw [Nat.pow_succ, ← Nat.div_div_eq_div_mul]; omega
  rw [← Int.pow_add]
  conv => rhs; rw [e, Int.pow_succ]
theorem pow_step0 (a : Int) (n k : Nat) (h : ¬ n / 2 ^ k % 2 = 1) : a ^ (n / 2 ^ (k + 1)) * a ^ (n / 2 ^ (k + 1)) = a ^ (n / 2 ^ k) := by
  have e : n / 2 ^ k = n / 2 ^ (k + 1) + n / 2 ^ (k + 1) := by
    rw [Nat.pow_succ, ← Nat.div_div_eq_div_mul]; omega
  rw [← Int.pow_add]
  conv => rhs; rw [e]
theorem nd_pow (a : Int) : ∀ n : Nat, nd (a ^ n).natAbs ≤ n * nd a.natAbs + 1
  | 0 => by
    rw [Int.pow_zero]
    exact Im.nd_le bb2 (k := 0 * nd a.natAbs + 1) (by rw [Nat.zero_mul]; decide)
  | n + 1 => by
    rw [Int.pow_succ]
    have := nd_mul (a ^ n) a
    have := nd_pow a n
    rw [Nat.succ_mul]
    omega
theorem nd_dgs {s : ByteArray} (h : Im.canonI s.data.toList = true) : nd (iv s).natAbs ≤ (Im.dgs s.data.toList).length :=
  Im.nd_le bb2 (Nat.lt_of_lt_of_le (iv_lt h) (pow_BB _))
theorem and1 (x : Nat) (h : x < 1000000) : bits .and .i64 (x : Int) 1 = ((x % 2 : Nat) : Int) := by
  have h := bits_mask .i64 62 (by decide) (fun n h0 h1 => by rw [IntKind.wrap_i64]; omega) 1 (by decide) (x : Int) (by omega) (by omega)
  have e : ((2 : Int) ^ 1 - 1) = 1 := by decide
  have e2 : ((2 : Int) ^ 1) = 2 := by decide
  rw [e, e2] at h
  rw [h]
  omega
theorem shr_nat (n k : Nat) : (n : Int) / (2 : Int) ^ k = ((n / 2 ^ k : Nat) : Int) := by simp
theorem cn_one : Cn ⟨#[49]⟩ := ⟨by decide, by decide⟩
theorem iv_one : iv ⟨#[49]⟩ = 1 := by decide

end Go.Proofs.YthdoadkdofgenaaGreatDoor
/- The contract of DivMod for integers that are small. -/
namespace Go.Proofs.YthdoadkdofgenaaGreatDoor
open Go Go.RowKit Go.Shelf

/-- The quotient, rounded down, and the remainder. -/
def dvC (x y : Int) : Bool := x.tmod y != 0 && (decide (x.tmod y < 0) != decide (y < 0))
def dvQ (x y : Int) : Int := if dvC x y then x.tdiv y - 1 else x.tdiv y
def dvR (x y : Int) : Int := if dvC x y then x.tmod y + y else x.tmod y
theorem dv_sum (x y : Int) : dvQ x y * y + dvR x y = x := by
  have h := Int.mul_tdiv_add_tmod x y
  have e := Int.sub_mul (x.tdiv y) 1 y
  rw [Int.mul_comm] at h
  unfold dvQ dvR
  split
  · rw [e]; omega
  · exact h
theorem dv_ends (x y : Int) (hy : y ≠ 0) : (0 < y → 0 ≤ dvR x y ∧ dvR x y < y) ∧ (y < 0 → y < dvR x y ∧ dvR x y ≤ 0) := by
  have h1 : (x.tmod y).natAbs < y.natAbs := by rw [Int.natAbs_tmod]; exact Nat.mod_lt _ (by omega)
  unfold dvR dvC
  by_cases h2 : x.tmod y = 0
  · rw [h2]
    simp
  · by_cases h3 : x.tmod y < 0
    · by_cases h4 : y < 0
      · simp [h3, h4]; omega
      · simp [h2, h3, h4]; omega
    · by_cases h4 : y < 0
      · simp [h2, h3, h4]; omega
      · simp [h3, h4]; omega
theorem dv_unique {x y q r q' r' : Int} (h : q * y + r = x) (h' : q' * y + r' = x) (e : (0 < y → 0 ≤ r ∧ r < y) ∧ (y < 0 → y < r ∧ r ≤ 0)) (e' : (0 < y → 0 ≤ r' ∧ r' < y) ∧ (y < 0 → y < r' ∧ r' ≤ 0)) (hy : y ≠ 0) : q = q' ∧ r = r' := by
  have h1 : (q - q') * y = r' - r := by rw [Int.sub_mul]; omega
  have h2 : (r' - r).natAbs < y.natAbs := by
    rcases Int.lt_or_gt_of_ne hy with h3 | h3
    · have := e.2 h3; have := e'.2 h3; omega
    · have := e.1 h3; have := e'.1 h3; omega
  have h3 : q - q' = 0 := by
    rcases Int.lt_trichotomy (q - q') 0 with h4 | h4 | h4
    · exfalso
      have h5 : (r' - r).natAbs = (q - q').natAbs * y.natAbs := by rw [← h1, Int.natAbs_mul]
      have h6 : 1 * y.natAbs ≤ (q - q').natAbs * y.natAbs := Nat.mul_le_mul_right _ (by omega)
      omega
    · exact h4
    · exfalso
      have h5 : (r' - r).natAbs = (q - q').natAbs * y.natAbs := by rw [← h1, Int.natAbs_mul]
      have h6 : 1 * y.natAbs ≤ (q - q').natAbs * y.natAbs := Nat.mul_le_mul_right _ (by omega)
      omega
  rw [h3, Int.zero_mul] at h1
  exact ⟨by omega, by omega⟩
theorem sgn_zero {z : Int} : sgn z = 0 ↔ z = 0 := by
  unfold sgn
  by_cases h : z = 0
  · simp [h]
  · rw [if_neg h]; split <;> simp [h]

set_option maxHeartbeats 2000000 in
theorem div_zero (s t : ByteArray) (ht : Cn t) (h0 : iv t = 0) (w : World) :
    Calls Tryz.prog 73 #[.string s, .string t] w fun e w' => e = .returned (.tuple #[.string ⟨#[]⟩, .string ⟨#[]⟩, .int .i64 17]) ∧ Below w.heap.size w w' := by
  have SG := Lib.hid (fun W => sign_c t ht W)
  rw [h0, show sgn 0 = 0 from rfl] at SG
  clear ht h0
  go_enter Tryz.func73, Tryz.ntmps73
  go_wp2_with fail
  refine (SG.out _).mono ?_
  rintro e w1 ⟨rfl, hb1⟩
  go_wp2
  exact bodyPost_ret (v := .tuple #[.string ⟨#[]⟩, .string ⟨#[]⟩, .int .i64 17]) (by simp [results, Tryz.results73, go_sem]) rfl ⟨rfl, hb1⟩

set_option maxRecDepth 100000 in
set_option maxHeartbeats 4000000 in
theorem div_few (s t : ByteArray) (hs : Cn s) (ht : Cn t) (hb : (smallB s.data.toList && smallB t.data.toList) = true) (h0 : iv t ≠ 0) (w : World) (G : Gi w) :
    Calls Tryz.prog 73 #[.string s, .string t] w fun e w' => e = .returned (.tuple #[.string (tz (dvQ (iv s) (iv t))), .string (tz (dvR (iv s) (iv t))), .int .i64 0]) ∧ Below w.heap.size w w' := by
  have SG := Lib.hid (fun W => sign_c t ht W)
  have P := Lib.hid (fun W => pair_any s t (by have := hs.size; omega) (by have := ht.size; omega) W)
  rw [hb] at P
  rw [Bool.and_eq_true] at hb
  obtain ⟨e1, a1, b1⟩ := small_iv hb.1
  obtain ⟨e2, a2, b2⟩ := small_iv hb.2
  rw [e1, e2] at P
  clear hs ht hb e1 e2
  generalize iv s = x at *
  generalize iv t = y at *
  have hsg : ¬ sgn y = 0 := fun e => h0 (sgn_zero.1 e)
  have hq1 : (x.tdiv y).natAbs ≤ x.natAbs := Int.natAbs_tdiv_le_natAbs x y
  have hr1 : (x.tmod y).natAbs < y.natAbs := by rw [Int.natAbs_tmod]; exact Nat.mod_lt _ (by omega)
  have hC : dvC x y = (x.tmod y != 0 && (decide (x.tmod y < 0) != decide (y < 0))) := rfl
  have hQ : dvQ x y = if dvC x y then x.tdiv y - 1 else x.tdiv y := rfl
  have hR : dvR x y = if dvC x y then x.tmod y + y else x.tmod y := rfl
  rw [hQ, hR]
  clear hQ hR
  have OF := Lib.hid (fun (n : Int) (h1 : -4000000000000000000 ≤ n) (h2 : n ≤ 4000000000000000000) W G => of_any n (by omega) (by omega) W G)
  generalize hsv : sgn y = sy at *
  obtain ⟨q, hq⟩ : ∃ q, x.tdiv y = q := ⟨_, rfl⟩
  obtain ⟨r, hr⟩ : ∃ r, x.tmod y = r := ⟨_, rfl⟩
  rw [hq] at hq1 ⊢
  rw [hr] at hr1 hC ⊢
  have q1 : -2000000000000000000 < q := by omega
  have q2 : q < 2000000000000000000 := by omega
  have r1 : -2000000000000000000 < r := by omega
  have r2 : r < 2000000000000000000 := by omega
  by_cases hr0 : r = 0
  · subst hr0
    rw [show dvC x y = false by rw [hC]; rfl]
    simp only [Bool.false_eq_true, if_false]
    clear hC
    have OQ := Lib.hid (OF.out (q) (by omega) (by omega))
    have OR := Lib.hid (OF.out (0) (by omega) (by omega))
    clear OF
    go_enter Tryz.func73, Tryz.ntmps73
    go_wp2_with fail
    refine (SG.out _).mono ?_
    rintro e w1 ⟨rfl, hb1⟩
    go_wp2_with fail
    refine (P.out _).mono ?_
    rintro e w2 ⟨rfl, hb2⟩
    have hb12 := hb1.trans (hb2.mono hb1.size)
    go_wp2_with (go_quiet (fail))
    have hbq : Below w.heap.size w (w2.drewN nq) := hb12.trans ⟨rfl, rfl, rfl, Nat.le_refl _, fun _ _ => rfl⟩
    refine (OQ.out _ (G.below hbq)).mono ?_
    rintro e w3 ⟨rfl, hb3⟩
    have hb13 := hbq.trans (hb3.mono hbq.size)
    go_wp2_with fail
    refine (OR.out _ (G.below hb13)).mono ?_
    rintro e w4 ⟨rfl, hb4⟩
    have hb14 := hb13.trans (hb4.mono hb13.size)
    go_wp2
    exact bodyPost_ret (v := .tuple #[.string (tz (q)), .string (tz (0)), .int .i64 0]) (by simp [results, Tryz.results73, go_sem, tz]) rfl ⟨rfl, hb14⟩
  · by_cases hr1 : r < 0
    · by_cases hy1 : y < 0
      · rw [show dvC x y = false by rw [hC]; simp [hr1, hy1]]
        simp only [Bool.false_eq_true, if_false]
        clear hC
        have OQ := Lib.hid (OF.out (q) (by omega) (by omega))
        have OR := Lib.hid (OF.out (r) (by omega) (by omega))
        have hcond0 : (r != 0) = true := by simp [hr0]
        have hcond : (decide (r < 0) == decide (y < 0)) = true := by simp [hr1, hy1]
        have hcond2 : (decide (r < 0) != decide (y < 0)) = false := by simp [hr1, hy1]
        clear hr1 hy1
        clear OF
        go_enter Tryz.func73, Tryz.ntmps73
        go_wp2_with fail
        refine (SG.out _).mono ?_
        rintro e w1 ⟨rfl, hb1⟩
        go_wp2_with fail
        refine (P.out _).mono ?_
        rintro e w2 ⟨rfl, hb2⟩
        have hb12 := hb1.trans (hb2.mono hb1.size)
        go_wp2_with (go_quiet (fail))
        have hbq : Below w.heap.size w (w2.drewN nq) := hb12.trans ⟨rfl, rfl, rfl, Nat.le_refl _, fun _ _ => rfl⟩
        refine (OQ.out _ (G.below hbq)).mono ?_
        rintro e w3 ⟨rfl, hb3⟩
        have hb13 := hbq.trans (hb3.mono hbq.size)
        go_wp2_with fail
        refine (OR.out _ (G.below hb13)).mono ?_
        rintro e w4 ⟨rfl, hb4⟩
        have hb14 := hb13.trans (hb4.mono hb13.size)
        go_wp2
        exact bodyPost_ret (v := .tuple #[.string (tz (q)), .string (tz (r)), .int .i64 0]) (by simp [results, Tryz.results73, go_sem, tz]) rfl ⟨rfl, hb14⟩
      · rw [show dvC x y = true by rw [hC]; simp [hr0, hr1, hy1]]
        simp only [if_true]
        clear hC
        have OQ := Lib.hid (OF.out (q - 1) (by omega) (by omega))
        have OR := Lib.hid (OF.out (r + y) (by omega) (by omega))
        have hcond0 : (r != 0) = true := by simp [hr0]
        have hcond : (decide (r < 0) == decide (y < 0)) = false := by simp [hr1, hy1]
        have hcond2 : (decide (r < 0) != decide (y < 0)) = true := by simp [hr1, hy1]
        clear hr1 hy1
        clear OF
        go_enter Tryz.func73, Tryz.ntmps73
        go_wp2_with fail
        refine (SG.out _).mono ?_
        rintro e w1 ⟨rfl, hb1⟩
        go_wp2_with fail
        refine (P.out _).mono ?_
        rintro e w2 ⟨rfl, hb2⟩
        have hb12 := hb1.trans (hb2.mono hb1.size)
        go_wp2_with (go_quiet (fail))
        have hbq : Below w.heap.size w (w2.drewN nq) := hb12.trans ⟨rfl, rfl, rfl, Nat.le_refl _, fun _ _ => rfl⟩
        refine (OQ.out _ (G.below hbq)).mono ?_
        rintro e w3 ⟨rfl, hb3⟩
        have hb13 := hbq.trans (hb3.mono hbq.size)
        go_wp2_with fail
        refine (OR.out _ (G.below hb13)).mono ?_
        rintro e w4 ⟨rfl, hb4⟩
        have hb14 := hb13.trans (hb4.mono hb13.size)
        go_wp2
        exact bodyPost_ret (v := .tuple #[.string (tz (q - 1)), .string (tz (r + y)), .int .i64 0]) (by simp [results, Tryz.results73, go_sem, tz]) rfl ⟨rfl, hb14⟩
    · by_cases hy1 : y < 0
      · rw [show dvC x y = true by rw [hC]; simp [hr0, hr1, hy1]]
        simp only [if_true]
        clear hC
        have OQ := Lib.hid (OF.out (q - 1) (by omega) (by omega))
        have OR := Lib.hid (OF.out (r + y) (by omega) (by omega))
        have hcond0 : (r != 0) = true := by simp [hr0]
        have hcond : (decide (r < 0) == decide (y < 0)) = false := by simp [hr1, hy1]
        have hcond2 : (decide (r < 0) != decide (y < 0)) = true := by simp [hr1, hy1]
        clear hr1 hy1
        clear OF
        go_enter Tryz.func73, Tryz.ntmps73
        go_wp2_with fail
        refine (SG.out _).mono ?_
        rintro e w1 ⟨rfl, hb1⟩
        go_wp2_with fail
        refine (P.out _).mono ?_
        rintro e w2 ⟨rfl, hb2⟩
        have hb12 := hb1.trans (hb2.mono hb1.size)
        go_wp2_with (go_quiet (fail))
        have hbq : Below w.heap.size w (w2.drewN nq) := hb12.trans ⟨rfl, rfl, rfl, Nat.le_refl _, fun _ _ => rfl⟩
        refine (OQ.out _ (G.below hbq)).mono ?_
        rintro e w3 ⟨rfl, hb3⟩
        have hb13 := hbq.trans (hb3.mono hbq.size)
        go_wp2_with fail
        refine (OR.out _ (G.below hb13)).mono ?_
        rintro e w4 ⟨rfl, hb4⟩
        have hb14 := hb13.trans (hb4.mono hb13.size)
        go_wp2
        exact bodyPost_ret (v := .tuple #[.string (tz (q - 1)), .string (tz (r + y)), .int .i64 0]) (by simp [results, Tryz.results73, go_sem, tz]) rfl ⟨rfl, hb14⟩
      · rw [show dvC x y = false by rw [hC]; simp [hr1, hy1]]
        simp only [Bool.false_eq_true, if_false]
        clear hC
        have OQ := Lib.hid (OF.out (q) (by omega) (by omega))
        have OR := Lib.hid (OF.out (r) (by omega) (by omega))
        have hcond0 : (r != 0) = true := by simp [hr0]
        have hcond : (decide (r < 0) == decide (y < 0)) = true := by simp [hr1, hy1]
        have hcond2 : (decide (r < 0) != decide (y < 0)) = false := by simp [hr1, hy1]
        clear hr1 hy1
        clear OF
        go_enter Tryz.func73, Tryz.ntmps73
        go_wp2_with fail
        refine (SG.out _).mono ?_
        rintro e w1 ⟨rfl, hb1⟩
        go_wp2_with fail
        refine (P.out _).mono ?_
        rintro e w2 ⟨rfl, hb2⟩
        have hb12 := hb1.trans (hb2.mono hb1.size)
        go_wp2_with (go_quiet (fail))
        have hbq : Below w.heap.size w (w2.drewN nq) := hb12.trans ⟨rfl, rfl, rfl, Nat.le_refl _, fun _ _ => rfl⟩
        refine (OQ.out _ (G.below hbq)).mono ?_
        rintro e w3 ⟨rfl, hb3⟩
        have hb13 := hbq.trans (hb3.mono hbq.size)
        go_wp2_with fail
        refine (OR.out _ (G.below hb13)).mono ?_
        rintro e w4 ⟨rfl, hb4⟩
        have hb14 := hb13.trans (hb4.mono hb13.size)
        go_wp2
        exact bodyPost_ret (v := .tuple #[.string (tz (q)), .string (tz (r)), .int .i64 0]) (by simp [results, Tryz.results73, go_sem, tz]) rfl ⟨rfl, hb14⟩

end Go.Proofs.YthdoadkdofgenaaGreatDoor
/- The law's known examples. -/
namespace Go.Proofs.YthdoadkdofgenaaGreatDoor
open Go Go.RowKit Go.Shelf

theorem tz_of {z : Int} {s : ByteArray} (h : Im.canonI s.data.toList = true) (hv : iv s = z) : tz z = s := by rw [← hv]; exact tz_iv h
theorem cn_of {s : ByteArray} (h : Im.canonI s.data.toList = true) (hs : s.size ≤ 100000) : Cn s := ⟨h, hs⟩

end Go.Proofs.YthdoadkdofgenaaGreatDoor
/- The reference's Cut, Canonical, Right, Of, Small; fits. -/
namespace Go.Proofs.YthdoadkdofgenaaGreatDoor
open Go Go.RowKit Go.Shelf

theorem drew_below (w : World) (m : Nat) : Below w.heap.size w (w.drewN m) := ⟨rfl, rfl, rfl, Nat.le_refl _, fun _ _ => rfl⟩
def mns (l : List UInt8) : Bool := decide (l.head? = some 45)

set_option maxHeartbeats 1000000 in
theorem cut_any (s : ByteArray) (hs : s.size ≤ 1048576) (w : World) :
    Calls Tryz.prog 81 #[.string s] w fun e w' => e = .returned (.tuple #[.bool (mns s.data.toList), .string ⟨(Im.dgs s.data.toList).toArray⟩]) ∧ ∃ m, w' = w.drewN m := by
  have H := Lib.hid (fun W => Tryz.strings_HasPrefix s ⟨#[45]⟩ W)
  have hh : Lib.hasPrefix s.data.toList (ByteArray.mk #[45]).data.toList = mns s.data.toList := has_one _ _
  rw [hh] at H
  cases hm : mns s.data.toList with
  | true =>
    rw [hm] at H
    have hm' : s.data.toList.head? = some 45 := by simpa [mns] using hm
    have h1 : 1 ≤ s.size := by
      rw [← size_list]
      cases hl : s.data.toList with
      | nil => rw [hl] at hm'; simp at hm'
      | cons _ _ => simp
    have he : s.extract 1 s.size = ⟨(Im.dgs s.data.toList).toArray⟩ := by
      refine bytes_ext ?_
      rw [extract_list, ← size_list, List.take_length]
      unfold Im.dgs
      rw [if_pos hm', List.drop_one]
    have h1i : (1 : Int) ≤ (s.size : Int) := by omega
    rw [← he]
    clear hh hm hm' he
    go_enter Tryz.func81, Tryz.ntmps81
    go_wp2_with fail
    refine (H.out _).mono ?_
    rintro e w' ⟨rfl, rfl⟩
    go_wp2_with (go_quiet (fail))
    exact bodyPost_ret (v := .tuple #[.bool true, .string (s.extract 1 s.size)]) (by simp [results, Tryz.results81, go_sem]) rfl ⟨rfl, _, rfl⟩
  | false =>
    rw [hm] at H
    have hm' : ¬ s.data.toList.head? = some 45 := by simpa [mns] using hm
    have he : s = ⟨(Im.dgs s.data.toList).toArray⟩ := by
      apply ext_bytes
      unfold Im.dgs
      rw [if_neg hm']
    rw [← he]
    clear hh hm hm' he
    go_enter Tryz.func81, Tryz.ntmps81
    go_wp2_with fail
    refine (H.out _).mono ?_
    rintro e w' ⟨rfl, rfl⟩
    go_wp2_with (go_quiet (fail))
    exact bodyPost_ret (v := .tuple #[.bool false, .string s]) (by simp [results, Tryz.results81, go_sem]) rfl ⟨rfl, 0, rfl⟩
/-- What Right returns. -/
def rightL (l : List UInt8) : Bool := Im.canonI l && decide ((Im.dgs l).length ≤ 400)
theorem rof_any (n : Int) (h0 : -9223372036854775808 ≤ n) (h1 : n ≤ 9223372036854775807) (w : World) (G : Gi w) :
    Calls Tryz.prog 61 #[.int .i64 n] w fun e w' => e = .returned (.string (tz n)) ∧ Below w.heap.size w w' := by
  have T := Lib.hid (Tryz.strconv_Itoa n h0 h1 w G.tab)
  go_enter Tryz.func61, Tryz.ntmps61
  go_wp2_with fail
  refine T.out.mono ?_
  rintro e w' ⟨rfl, k, os, rfl⟩
  go_wp2
  go_ret
  exact ⟨rfl, Lib.below_grow _ w (Nat.le_refl _) k os⟩
theorem rsmall_any (s : ByteArray) (hs : s.size ≤ 1048576) (hc : Im.canonI s.data.toList = true) (w : World) :
    Calls Tryz.prog 63 #[.string s] w fun e w' => e = .returned (.tuple #[.int .i64 (smallV s.data.toList), .bool (smallB s.data.toList)]) ∧ Below w.heap.size w w' := by
  have C := Lib.hid (fun W => cut_any s hs W)
  have hlen := dgs_len s.data.toList
  rw [size_list] at hlen
  by_cases h1 : 18 < (Im.dgs s.data.toList).length
  · have e1 : smallV s.data.toList = 0 := by unfold smallV; rw [if_neg (by omega)]
    have e2 : smallB s.data.toList = false := by unfold smallB; simp; intro; omega
    rw [e1, e2]
    have h2 : (18 : Int) < ((Im.dgs s.data.toList).length : Int) := by omega
    clear e1 e2 hc
    generalize Im.dgs s.data.toList = d at *
    go_enter Tryz.func63, Tryz.ntmps63
    go_wp2_with fail
    refine (C.out _).mono ?_
    rintro e w1 ⟨rfl, m1, rfl⟩
    go_wp2
    exact bodyPost_ret (v := .tuple #[.int .i64 0, .bool false]) (by simp [results, Tryz.results63, go_sem]) rfl ⟨rfl, drew_below _ _⟩
  · have h2 : ¬ (18 : Int) < ((Im.dgs s.data.toList).length : Int) := by omega
    have e1 : smallV s.data.toList = Im.ivL s.data.toList := by unfold smallV; rw [if_pos ⟨hc, by omega⟩]
    have e2 : smallB s.data.toList = true := by unfold smallB; rw [hc]; simp; omega
    have A := Lib.hid (fun W => Tryz.strconv_Atoi_ok s (by omega) (Im.ivL s.data.toList) (atoi_canon hc (by omega)) W)
    rw [e1, e2]
    clear e1 e2 hc
    generalize Im.dgs s.data.toList = d at *
    generalize Im.ivL s.data.toList = z at *
    go_enter Tryz.func63, Tryz.ntmps63
    go_wp2_with fail
    refine (C.out _).mono ?_
    rintro e w1 ⟨rfl, m1, hw1⟩
    have hb1 : Below w.heap.size w w1 := by rw [hw1]; exact drew_below _ _
    clear hw1
    go_wp2_with fail
    refine (A.out _).mono ?_
    rintro e w2 ⟨rfl, hw⟩
    have hb : Below w1.heap.size w1 w2 := by
      rcases hw with rfl | ⟨t, rfl⟩
      · exact Below.refl _ _
      · exact Lib.bytesWorld_below _ _ _
    clear hw
    go_wp2_with (go_quiet (fail))
    exact bodyPost_ret (v := .tuple #[.int .i64 z, .bool true]) (by simp [results, Tryz.results63, go_sem]) rfl ⟨rfl, (hb1.trans (hb.mono hb1.size)).trans ⟨rfl, rfl, rfl, Nat.le_refl _, fun _ _ => rfl⟩⟩

/-- What fits asks of one integer. -/
def fitB (s : ByteArray) : Bool := decide (s.size ≤ 90) && Im.canonI s.data.toList
theorem fit_cn {s : ByteArray} (h : fitB s = true) : Cn s ∧ s.size ≤ 90 := by
  unfold fitB at h
  rw [Bool.and_eq_true, decide_eq_true_iff] at h
  exact ⟨⟨h.2, by omega⟩, h.1⟩
end Go.Proofs.YthdoadkdofgenaaGreatDoor
/- How fits is met; sizes of sums and products. -/
namespace Go.Proofs.YthdoadkdofgenaaGreatDoor
open Go Go.RowKit Go.Shelf

theorem alloc_cell (W : World) (l : List Value) (T : TypeId) (k : Nat) : (W.alloc (.cells l.toArray T)).cell? ⟨W.heap.size, k, none⟩ = l[k]? := by
  rw [Lib.cell_of_heap (heap_at rfl)]; simp
theorem lt_add {x y : Int} {k : Nat} (hx : x.natAbs < 10 ^ k) (hy : y.natAbs < 10 ^ k) : (x + y).natAbs < 10 ^ (k + 1) := by
  rw [Nat.pow_succ]; omega
theorem lt_sub {x y : Int} {k : Nat} (hx : x.natAbs < 10 ^ k) (hy : y.natAbs < 10 ^ k) : (x - y).natAbs < 10 ^ (k + 1) := by
  rw [Nat.pow_succ]; omega
theorem lt_mul {x y : Int} {j k : Nat} (hx : x.natAbs < 10 ^ j) (hy : y.natAbs < 10 ^ k) : (x * y).natAbs < 10 ^ (j + k) := by
  rw [Int.natAbs_mul, Nat.pow_add]
  exact Nat.mul_lt_mul'' hx hy
theorem lt_up {x : Int} {j k : Nat} (hx : x.natAbs < 10 ^ j) (h : j ≤ k) : x.natAbs < 10 ^ k := Nat.lt_of_lt_of_le hx (Nat.pow_le_pow_right (by decide) h)
theorem fit_lt {s : ByteArray} (h : fitB s = true) : (iv s).natAbs < 10 ^ 90 := by
  obtain ⟨h1, h2⟩ := fit_cn h
  have h3 := dgs_len s.data.toList
  rw [size_list] at h3
  exact lt_up (iv_lt h1.canon) (by omega)
theorem sgn_neg (z : Int) : sgn (-z) = -sgn z := by
  unfold sgn
  by_cases h : z = 0
  · subst h; rfl
  · rw [if_neg h, if_neg (by omega)]
    by_cases h2 : z < 0
    · rw [if_pos h2, if_neg (by omega)]; rfl
    · rw [if_neg h2, if_pos (by omega)]
theorem sgn_le (z : Int) : -1 ≤ sgn z ∧ sgn z ≤ 1 := by
  unfold sgn
  split
  · omega
  · split <;> omega
end Go.Proofs.YthdoadkdofgenaaGreatDoor
/- Contracts of Sum and Product. -/
namespace Go.Proofs.YthdoadkdofgenaaGreatDoor
open Go Go.RowKit Go.Shelf

def foldI (x : Int) (v : Value) (a : ByteArray) (u : Int) : Nat → Value → World → Prop
  | 0, y, _ => y = v
  | 1, y, _ => y = .string a
  | 2, y, A => Num A y x
  | 3, y, A => Num A y u
  | _, _, _ => True
theorem foldI_up (x : Int) (v : Value) (a : ByteArray) (u : Int) : ∀ (j : Nat) (y : Value) (A B : World), Below A.heap.size A B → foldI x v a u j y A → foldI x v a u j y B
  | 0, _, _, _, _, h => h
  | 1, _, _, _, _, h => h
  | 2, _, _, _, hb, h => Num.call h hb
  | 3, _, _, _, hb, h => Num.call h hb
  | _ + 4, _, _, _, _, _ => trivial
theorem cn_bit (c : UInt8) (h : Im.canonI [c] = true) : Cn ⟨#[c]⟩ := ⟨h, (show (1 : Nat) ≤ 100000 by decide)⟩
def sumZ (l : List ByteArray) : Int := l.foldl (fun z a => z + iv a) 0
theorem sumZ_snoc (l : List ByteArray) (a : ByteArray) : sumZ (l ++ [a]) = sumZ l + iv a := by simp [sumZ]
theorem sumZ_take {l : List ByteArray} {k : Nat} (h : k < l.length) : sumZ (l.take (k + 1)) = sumZ (l.take k) + iv l[k] := by rw [List.take_succ_eq_append_getElem h, sumZ_snoc]
theorem sum_three (a b c : ByteArray) : sumZ [a, b, c] = iv a + iv b + iv c := by simp [sumZ]
theorem sum_small (l : List ByteArray) (h : l.all fitB = true) : ∀ k, k ≤ l.length → k ≤ 100 → nd (sumZ (l.take k)).natAbs ≤ 1000 := by
  have key : ∀ k, k ≤ l.length → (sumZ (l.take k)).natAbs ≤ k * 10 ^ 90 := by
    intro k
    induction k with
    | zero => intro _; simp [sumZ]
    | succ k ih =>
      intro hk
      rw [sumZ_take (by omega), Nat.succ_mul]
      have h1 := ih (by omega)
      have h2 := fit_lt (List.all_eq_true.1 h l[k] (List.getElem_mem (by omega)))
      generalize 10 ^ 90 = p at *
      omega
  intro k hk h100
  refine Nat.le_trans (Im.nd_le bb2 (k := 100) (Nat.lt_of_le_of_lt (key k hk) ?_)) (by decide)
  have h1 : k * 10 ^ 90 ≤ 100 * 10 ^ 90 := Nat.mul_le_mul_right _ h100
  have h2 : 100 * 10 ^ 90 < BB ^ 100 := by unfold BB; decide +kernel
  exact Nat.lt_of_le_of_lt h1 h2
set_option maxRecDepth 100000 in
set_option maxHeartbeats 4000000 in
theorem sum_any (sl : Option Addr) (bl ol cap : Nat) (l : List ByteArray) (hl : l.length ≤ 100) (hfit : l.all fitB = true) (hcap : l.length ≤ cap) (hat : 0 < l.length → sl = some ⟨bl, ol, none⟩) (w : World) (hlt : 0 < l.length → bl < w.heap.size) (hc : ∀ k (h : k < l.length), w.cell? ⟨bl, ol + k, none⟩ = some (.string l[k])) (G : Gi w) :
    Calls Tryz.prog 72 #[.slice sl l.length cap] w fun e w' => e = .returned (.string (tz (sumZ l))) ∧ Below w.heap.size w w' := by
  have R0 := Lib.hid (fun W => read_c ⟨#[48]⟩ (cn_bit 48 (by decide)) W)
  rw [show iv ⟨#[48]⟩ = 0 by decide] at R0
  have RK := Lib.hid (fun k (h : k < l.length) W => read_c l[k] (fit_cn (List.all_eq_true.1 hfit l[k] (List.getElem_mem h))).1 W)
  have NS := Lib.hid (fun k hk => sum_small l hfit k hk (by omega))
  have NK := Lib.hid (fun k (h : k < l.length) => nd_iv (fit_cn (List.all_eq_true.1 hfit l[k] (List.getElem_mem h))).1)
  have ZK := Lib.hid (fun k (h : k < l.length) => sumZ_take h)
  have ZL := Lib.hid (show sumZ (l.take l.length) = sumZ l by rw [List.take_length])
  obtain ⟨n, hn⟩ : ∃ n, l.length = n := ⟨_, rfl⟩
  have HN := Lib.hid hn
  have HC := Lib.hid hc
  rw [hn] at hl hcap hat hlt ZL ⊢
  have HAT := Lib.hid hat
  have HLT := Lib.hid hlt
  clear hn hc hfit hat hlt
  obtain ⟨D, hD⟩ : ∃ D, w.heap.size = D := ⟨_, rfl⟩
  rw [hD] at HLT
  go_enter Tryz.func72, Tryz.ntmps72
  go_wp2_with fail
  refine (R0.out _).mono ?_
  rintro e w2 ⟨⟨v2, rfl, h2⟩, hb2⟩
  obtain ⟨ng, m, sa, cp, b, o, rfl, hr2, hz2⟩ := num_open h2
  have HZ2 := Lib.hid hz2
  clear hz2 h2
  obtain ⟨E, hE⟩ : ∃ E, w2.heap.size = E := ⟨_, rfl⟩
  have hDE : D ≤ E := by have := hb2.size; omega
  go_upto_region 2 with fail
  obtain ⟨V, hV⟩ : ∃ V, (w2.alloc (.cells #[.bool ng, .slice sa (nd m) cp] 106)) = V := ⟨_, rfl⟩
  have hwV : Below D w V := by rw [← hV, ← hD]; exact hb2.alloc (by have := hb2.size; omega) _
  have hVb : Below E w2 V := by rw [← hV, ← hE]; exact (Below.refl _ _).alloc (Nat.le_refl _) _
  have hV0 : V.heap[E]? = some (.cells #[.bool ng, .slice sa (nd m) cp] 106) := by rw [← hV]; exact heap_at hE.symm
  have hzV : V.heap.size = E + 1 := by rw [← hV]; simp [hE]
  have hrV := hr2.below hVb (by omega)
  rw [hV]
  clear hV hr2 hb2 hVb hE
  go_wp2_with fail
  go_loopw [9] (fun i wr => ∃ k ng3 m3 sa3 cap3 b3 o3, k ≤ n ∧ i = .int .i64 (k : Nat) ∧ sv ng3 m3 = sumZ (l.take k) ∧ Row wr sa3 (nd m3) cap3 b3 o3 m3 ∧ wr.heap[E]? = some (.cells #[.bool ng3, .slice sa3 (nd m3) cap3] 106) ∧ E + 1 ≤ wr.heap.size ∧ Below D w wr) (fun i _ => n - (intOf i).toNat)
  case atStart => exact ⟨0, ng, m, sa, cp, b, o, Nat.zero_le _, rfl, by rw [← HZ2.out]; rfl, hrV, hV0, by omega, hwV⟩
  case round =>
    obtain ⟨k, ng3, m3, sa3, cap3, b3, o3, hk, rfl, hz3, hr3, hh0, hsz, hw⟩ := hrel
    by_cases h1 : k < n
    · have hki : (k : Int) < (n : Int) := by omega
      have hkl : k < l.length := by rw [HN.out]; exact h1
      have ca := (hw.cell (p := ⟨bl, ol + k, none⟩) (HLT.out (by omega))).trans (HC.out k hkl)
      obtain rfl := HAT.out (by omega)
      have RKK := Lib.hid (RK.out k hkl)
      have hns := NS.out k (by omega)
      have hnk := NK.out k hkl
      have HZN := Lib.hid (ZK.out k hkl)
      rw [← hz3] at hns HZN
      obtain ⟨a, ha⟩ : ∃ a, l[k] = a := ⟨_, rfl⟩
      rw [ha] at ca RKK hnk HZN
      have HM := Lib.hid (num_mk (neg := ng3) hr3)
      have HNS := Lib.hid hns
      have HNK := Lib.hid hnk
      have HH := Lib.hid hh0
      have c0 := cells_fst hh0
      have c1 := cells_snd hh0
      have HW := Lib.hid hw
      clear hz3 hns hnk ha hr3 hh0 hw
      go_upto_region 5 with fail
      obtain ⟨W0, hW0⟩ : ∃ W0, W0 = wr := ⟨_, rfl⟩
      subst hW0
      have K0 := Lib.hid c0
      have K1 := Lib.hid c1
      clear c0 c1 ca
      refine wp_region_slots_at rfl rfl (fun base ys => (((base.set 13 (ys 0)).set 14 (ys 1)).set 15 (ys 2)).set 16 (ys 3)) (LastI _ (Below W0.heap.size W0) (foldI (iv a) (.agg #[.bool ng3, .slice sa3 (nd m3) cap3]) a (sv ng3 m3 + iv a)) (fun A => ∃ ng5 m5 sa5 cap5 b5 o5, sv ng5 m5 = sv ng3 m3 + iv a ∧ Row A sa5 (nd m5) cap5 b5 o5 m5 ∧ A.heap[E]? = some (.cells #[.bool ng5, .slice sa5 (nd m5) cap5] 106) ∧ E + 1 ≤ A.heap.size ∧ Below D w A)) (fun j => match j with | 0 => u13 | 1 => u14 | 2 => u15 | 3 => u16 | _ => undef) (by kernel_rfl) (last_start (by decide) ((Below.refl _ _).trans ⟨rfl, rfl, rfl, Nat.le_refl _, fun _ _ => rfl⟩)) ?h
      case h =>
        intro F hF
        simp only [List.set_cons_succ, List.set_cons_zero] at hF
        subst hF
        refine ⟨rfl, ?_, ?_⟩
        refine ⟨?_, ?_⟩
        · refine SlotStep.lastB (by kernel_rfl) rfl (by decide) (fun A B hb h => h.trans (hb.mono h.size)) (foldI_up _ _ _ _) ?_
          intro ys W hR hd K hK
          have c0 := (hR.cell (p := ⟨E, 0, none⟩) (by show E < W0.heap.size; omega)).trans K0.out
          have c1 := (hR.cell (p := ⟨E, 1, none⟩) (by show E < W0.heap.size; omega)).trans K1.out
          go_simp
          have hK2 := hK (.agg #[.bool ng3, .slice sa3 (nd m3) cap3]) _ (Below.refl _ _) rfl
          simp (config := { decide := true }) only [upd, if_true, if_false] at hK2
          exact hK2
        refine ⟨?_, ?_⟩
        · refine SlotStep.lastB (by kernel_rfl) rfl (by decide) (fun A B hb h => h.trans (hb.mono h.size)) (foldI_up _ _ _ _) ?_
          intro ys W hR hd K hK
          go_simp
          have hK2 := hK (.string a) _ (Below.refl _ _) rfl
          simp (config := { decide := true }) only [upd, if_true, if_false] at hK2
          exact hK2
        refine ⟨?_, ?_⟩
        · refine SlotStep.lastB (by kernel_rfl) rfl (by decide) (fun A B hb h => h.trans (hb.mono h.size)) (foldI_up _ _ _ _) ?_
          intro ys W hR hd K hK
          have d1 : ys 1 = .string a := hd 1 (by kernel_rfl) (by decide)
          go_simp
          refine (RKK.out W).mono ?_
          rintro e w5 ⟨⟨v5, rfl, hm5⟩, hb5⟩
          have hK2 := hK v5 _ hb5 hm5
          simp (config := { decide := true }) only [upd, if_true, if_false, d1] at hK2
          exact hK2
        refine ⟨?_, ?_⟩
        · refine SlotStep.lastB (by kernel_rfl) rfl (by decide) (fun A B hb h => h.trans (hb.mono h.size)) (foldI_up _ _ _ _) ?_
          intro ys W hR hd K hK
          have d0 : ys 0 = .agg #[.bool ng3, .slice sa3 (nd m3) cap3] := hd 0 (by kernel_rfl) (by decide)
          have d2 : Num W (ys 2) (iv a) := hd 2 (by kernel_rfl) (by decide)
          have D2 := Lib.hid d2
          clear d2
          go_simp
          refine (plus_any _ _ _ _ W (HM.out.below hR (Nat.le_refl _)) D2.out (by have := HNS.out; omega) (by have := HNK.out; omega)).mono ?_
          rintro e w5 ⟨⟨v5, rfl, hm5⟩, hb5⟩
          have hK2 := hK v5 _ hb5 hm5
          simp (config := { decide := true }) only [upd, if_true, if_false, d0] at hK2
          exact hK2
        refine ⟨?_, ?_⟩
        · refine SlotStep.lastS rfl rfl ?_
          intro ys W hR hd K hK
          have d3 : Num W (ys 3) (sv ng3 m3 + iv a) := hd 3 (by kernel_rfl) (by decide)
          obtain ⟨ng5, m5, sa5, cap5, b5, o5, hv, hrow, hz5⟩ := num_open d3
          have hh := (hR.block E (by omega)).trans HH.out
          have f0 := cells_f0 hh
          have f1 := cells_f1 hh
          have g0 := cells_fst hh
          have g1 := cells_snd hh
          have hne := row_ne hrow hh
          have HV := Lib.hid hv
          have hwD := HW.out.trans (hR.mono (by have := HW.out.size; omega))
          have hDE2 : D ≤ E := hDE
          clear d3
          go_simp
          have hK2 := hK undef _ ⟨ng5, m5, sa5, cap5, b5, o5, hz5.symm, (hrow.set ⟨E, 0, none⟩ hne _).set ⟨E, 1, none⟩ hne _, set_two hh, by have := hR.size; simp [World.setCell]; omega, (hwD.setCell (p := ⟨E, 0, none⟩) (by simpa using hDE2) _).setCell (p := ⟨E, 1, none⟩) (by simpa using hDE2) _⟩
          simp (config := { decide := true }) only [upd, if_false, hv] at hK2
          exact hK2
        trivial
        · intro L ys W hL hI
          obtain ⟨ng5, m5, sa5, cap5, b5, o5, hz5, hr5, hh5, hs5, hw5⟩ := last_end (by decide) hL hI
          have HZ5 := Lib.hid hz5
          have HR5 := Lib.hid hr5
          have HH5 := Lib.hid hh5
          have HW5 := Lib.hid hw5
          clear hz5 hr5 hh5 hw5 hI hL
          generalize ys 0 = y0 at *
          generalize ys 1 = y1 at *
          generalize ys 2 = y2 at *
          generalize ys 3 = y3 at *
          go_wp2
          go_roundw
          case rel => exact ⟨k + 1, ng5, m5, sa5, cap5, b5, o5, by omega, by go_num, by rw [HZN.out, HZ5.out], HR5.out, HH5.out, hs5, HW5.out⟩
          case measure => simp [intOf]; omega
    · obtain rfl : k = n := by omega
      have hki : ¬ (k : Int) < (k : Int) := by omega
      have HM := Lib.hid (num_mk (neg := ng3) hr3)
      have hns := NS.out k (by rw [HN.out]; exact Nat.le_refl _)
      rw [← hz3] at hns
      rw [ZL.out] at hz3
      have HZ3 := Lib.hid hz3
      have HNS := Lib.hid hns
      have c0 := cells_fst hh0
      have c1 := cells_snd hh0
      have HW := Lib.hid hw
      have GW := G.below (hD ▸ hw)
      clear hz3 hr3 hh0 hns hw
      go_wp2_with fail
      refine (text_any _ _ _ HM.out (by have := HNS.out; omega) GW).mono ?_
      rintro e w7 ⟨rfl, hb7⟩
      go_wp2
      go_ret
      exact ⟨by rw [HZ3.out]; rfl, by rw [hD]; exact HW.out.trans (hb7.mono (by have := HW.out.size; omega))⟩
theorem sum_new (l : List ByteArray) (hl : l.length ≤ 100) (hfit : l.all fitB = true) (T : TypeId) (n : Nat) (hn : l.length = n) (W : World) (G : Gi W) :
    Calls Tryz.prog 72 #[.slice (some ⟨W.heap.size, 0, none⟩) n n] (W.alloc (.cells (l.map Value.string).toArray T)) fun e w' => e = .returned (.string (tz (sumZ l))) ∧ Below W.heap.size W w' := by
  subst hn
  have hb : Below W.heap.size W (W.alloc (.cells (l.map Value.string).toArray T)) := (Below.refl _ _).alloc (Nat.le_refl _) _
  refine (sum_any _ W.heap.size 0 l.length l hl hfit (Nat.le_refl _) (fun _ => rfl) _ (fun _ => by simp) (fun k hk => ?_) (G.below hb)).mono ?_
  · rw [Nat.zero_add, alloc_cell]; simp [hk]
  · rintro e w' ⟨rfl, h⟩
    exact ⟨rfl, hb.trans (h.mono (by simp))⟩
theorem sum_none (W : World) (G : Gi W) :
    Calls Tryz.prog 72 #[.slice none 0 0] W fun e w' => e = .returned (.string ⟨#[48]⟩) ∧ Below W.heap.size W w' := by
  have := sum_any none 0 0 0 [] (by decide) (by decide) (Nat.le_refl _) (fun h => absurd h (by decide)) W (fun h => absurd h (by decide)) (fun k h => absurd h (by simp)) G
  rw [show tz (sumZ []) = ⟨#[48]⟩ from ext_bytes (by show Lib.itoa 0 = [48]; rw [Im.itoa_nonneg (by decide)]; exact Im.dec_small (by decide))] at this
  exact this
def productZ (l : List ByteArray) : Int := l.foldl (fun z a => z * iv a) 1
theorem productZ_snoc (l : List ByteArray) (a : ByteArray) : productZ (l ++ [a]) = productZ l * iv a := by simp [productZ]
theorem productZ_take {l : List ByteArray} {k : Nat} (h : k < l.length) : productZ (l.take (k + 1)) = productZ (l.take k) * iv l[k] := by rw [List.take_succ_eq_append_getElem h, productZ_snoc]
theorem product_three (a b c : ByteArray) : productZ [a, b, c] = iv a * iv b * iv c := by simp [productZ]
theorem product_small (l : List ByteArray) (h : l.all fitB = true) : ∀ k, k ≤ l.length → k ≤ 100 → nd (productZ (l.take k)).natAbs ≤ 100000 := by
  have key : ∀ k, k ≤ l.length → (productZ (l.take k)).natAbs ≤ 10 ^ (90 * k) := by
    intro k
    induction k with
    | zero => intro _; simp [productZ]
    | succ k ih =>
      intro hk
      rw [productZ_take (by omega), Int.natAbs_mul, Nat.mul_succ, Nat.pow_add]
      have h1 := ih (by omega)
      have h2 := fit_lt (List.all_eq_true.1 h l[k] (List.getElem_mem (by omega)))
      exact Nat.mul_le_mul h1 (Nat.le_of_lt h2)
  intro k hk h100
  have h1 := key k hk
  obtain ⟨N, hN⟩ : ∃ N, N = 9000 := ⟨_, rfl⟩
  have h2 : (10 : Nat) ^ (90 * k) ≤ 10 ^ N := Nat.pow_le_pow_right (by decide) (by omega)
  have h3 : (10 : Nat) ^ N < 10 ^ (N + 1) := Nat.pow_lt_pow_right (by decide) (Nat.lt_succ_self N)
  have h4 := pow_BB (N + 1)
  exact Nat.le_trans (Im.nd_le bb2 (k := N + 1) (Nat.lt_of_lt_of_le (Nat.lt_of_le_of_lt (Nat.le_trans h1 h2) h3) h4)) (by omega)
end Go.Proofs.YthdoadkdofgenaaGreatDoor
