/- The total of columns: the error of the first row that has one; the program's total, Total; the reference's Total. -/
import Derived.Test.YtojgfpnecdngfaaMtS
namespace Go.Proofs.Ytojgfpnecdngfaa
open Go Go.RowKit Go.Shelf

open Classical in
/-- The error of the first t rows. -/
noncomputable def ttE (n : Nat) (col : Nat → Int) (sk : Bool) : Nat → Int
  | 0 => 0
  | t + 1 => if ttE n col sk t ≠ 0 then ttE n col sk t else if sk = true ∧ col t = -1 then 0 else if ¬ (0 ≤ col t ∧ col t < (n : Int)) then 3 else if ∃ j, j < t ∧ col j = col t then 9 else 0
/-- The part of a row in the total. -/
def ttF (f : Nat → Nat → Int) (col : Nat → Int) (sk : Bool) (skip : Int) (i : Nat) : Int := if sk = true ∧ col i = -1 then skip else f i (col i).toNat
section
variable {n : Nat} {col : Nat → Int} {sk : Bool} {t m : Nat}
theorem tt_up (h : ttE n col sk t ≠ 0) : ∀ {m : Nat}, t ≤ m → ttE n col sk m = ttE n col sk t := by
  intro m
  induction m with
  | zero => intro hm; obtain rfl : t = 0 := by omega
            rfl
  | succ m ih =>
    intro hm
    by_cases e : t = m + 1
    · rw [e]
    · have := ih (by omega)
      show (if ttE n col sk m ≠ 0 then ttE n col sk m else _) = _
      rw [if_pos (by rw [this]; exact h), this]
theorem tt_3 (h : ttE n col sk t = 0) (ht : t < m) (hs : ¬ (sk = true ∧ col t = -1)) (hr : ¬ (0 ≤ col t ∧ col t < (n : Int))) : ttE n col sk m = 3 := by
  have e : ttE n col sk (t + 1) = 3 := by
    show (if ttE n col sk t ≠ 0 then ttE n col sk t else _) = _
    rw [if_neg (fun h' => h' h), if_neg hs, if_pos hr]
  rw [tt_up (by rw [e]; decide) (show t + 1 ≤ m from ht), e]
theorem tt_9 (h : ttE n col sk t = 0) (ht : t < m) (hr : 0 ≤ col t ∧ col t < (n : Int)) (hd : ∃ j, j < t ∧ col j = col t) : ttE n col sk m = 9 := by
  have e : ttE n col sk (t + 1) = 9 := by
    show (if ttE n col sk t ≠ 0 then ttE n col sk t else _) = _
    rw [if_neg (fun h' => h' h), if_neg (fun h' => by have := h'.2; omega), if_neg (fun h' => h' hr), if_pos hd]
  rw [tt_up (by rw [e]; decide) (show t + 1 ≤ m from ht), e]
theorem tt_skip (h : ttE n col sk t = 0) (hs : sk = true ∧ col t = -1) : ttE n col sk (t + 1) = 0 := by
  show (if ttE n col sk t ≠ 0 then ttE n col sk t else _) = _
  rw [if_neg (fun h' => h' h), if_pos hs]
theorem tt_ok (h : ttE n col sk t = 0) (hr : 0 ≤ col t ∧ col t < (n : Int)) (hd : ∀ j, j < t → col j ≠ col t) : ttE n col sk (t + 1) = 0 := by
  show (if ttE n col sk t ≠ 0 then ttE n col sk t else _) = _
  rw [if_neg (fun h' => h' h), if_neg (fun h' => by have := h'.2; omega), if_neg (fun h' => h' hr), if_neg (fun ⟨j, hj, he⟩ => hd j hj he)]
theorem tt_in : ∀ {t : Nat}, ttE n col sk t = 0 → ∀ i, i < t → (sk = true ∧ col i = -1) ∨ (0 ≤ col i ∧ col i < (n : Int)) := by
  intro t
  induction t with
  | zero => exact fun _ i hi => absurd hi (Nat.not_lt_zero i)
  | succ t ih =>
    intro h i hi
    have h0 : ttE n col sk t = 0 := by
      by_cases e : ttE n col sk t = 0
      · exact e
      · have := tt_up e (show t ≤ t + 1 by omega)
        rw [h] at this
        exact this.symm
    by_cases e : i = t
    · subst e
      by_cases hs : sk = true ∧ col i = -1
      · exact .inl hs
      · by_cases hr : 0 ≤ col i ∧ col i < (n : Int)
        · exact .inr hr
        · have := tt_3 h0 (show i < i + 1 by omega) hs hr
          rw [h] at this
          cases this
    · exact ih h0 i (by omega)
end
theorem tt_bd {m n t : Nat} {f : Nat → Nat → Int} {col : Nat → Int} {sk : Bool} {skip : Int} (htm : t ≤ m) (hf : ∀ i, i < m → ∀ k, k < n → -1000000000 ≤ f i k ∧ f i k ≤ 1000000000) (hsk : -1000000000 ≤ skip ∧ skip ≤ 1000000000) (h : ttE n col sk t = 0) :
    -(1000000000000 * (t : Int)) ≤ Mt.sm (ttF f col sk skip) t ∧ Mt.sm (ttF f col sk skip) t ≤ 1000000000000 * (t : Int) :=
  sm_bd (r := ttF f col sk skip) fun i hi => decide_eq_true (by
    unfold ttF
    by_cases hs : sk = true ∧ col i = -1
    · rw [if_pos hs]; omega
    · rw [if_neg hs]
      have h1 := (tt_in h i hi).resolve_left hs
      have := hf i (by omega) (col i).toNat (by omega)
      omega)
/-- What a total is. -/
noncomputable def ttR (m n nc : Nat) (f : Nat → Nat → Int) (col : Nat → Int) (sk : Bool) (skip : Int) (v e : Int) : Prop :=
  (nc ≠ m ∧ v = 0 ∧ e = 5) ∨ (nc = m ∧ ttE n col sk m ≠ 0 ∧ v = 0 ∧ e = ttE n col sk m) ∨ (nc = m ∧ ttE n col sk m = 0 ∧ v = Mt.sm (ttF f col sk skip) m ∧ e = 0)
theorem ttR_one {m n nc : Nat} {f : Nat → Nat → Int} {col : Nat → Int} {sk : Bool} {skip v e v' e' : Int} (h : ttR m n nc f col sk skip v e) (h' : ttR m n nc f col sk skip v' e') : v' = v ∧ e' = e := by
  rcases h with ⟨a, rfl, rfl⟩ | ⟨a, b, rfl, rfl⟩ | ⟨a, b, rfl, rfl⟩
  · rcases h' with ⟨_, rfl, rfl⟩ | ⟨c, _⟩ | ⟨c, _⟩
    · exact ⟨rfl, rfl⟩
    · exact absurd c a
    · exact absurd c a
  · rcases h' with ⟨c, _⟩ | ⟨_, _, rfl, rfl⟩ | ⟨_, c, _⟩
    · exact absurd a c
    · exact ⟨rfl, rfl⟩
    · exact absurd c b
  · rcases h' with ⟨c, _⟩ | ⟨_, c, _⟩ | ⟨_, _, rfl, rfl⟩
    · exact absurd a c
    · exact absurd b c
    · exact ⟨rfl, rfl⟩
def TtPost (w : World) (m n nc : Nat) (f : Nat → Nat → Int) (col : Nat → Int) (sk : Bool) (skip : Int) (e : Ending) (w' : World) : Prop := (∃ v x : Int, e = .returned (.tuple #[.int .i64 v, .int .i64 x]) ∧ ttR m n nc f col sk skip v x) ∧ Below w.heap.size w w'
section
variable {w w' : World} {m n nc t : Nat} {f : Nat → Nat → Int} {col : Nat → Int} {sk : Bool} {skip : Int}
theorem tp_5 (hb : Below w.heap.size w w') (h : nc ≠ m) : TtPost w m n nc f col sk skip (.returned (.tuple #[.int .i64 0, .int .i64 5])) w' := ⟨⟨_, _, rfl, .inl ⟨h, rfl, rfl⟩⟩, hb⟩
theorem tp_3 (hb : Below w.heap.size w w') (hn : nc = m) (h : ttE n col sk t = 0) (ht : t < m) (hs : ¬ (sk = true ∧ col t = -1)) (hr : ¬ (0 ≤ col t ∧ col t < (n : Int))) : TtPost w m n nc f col sk skip (.returned (.tuple #[.int .i64 0, .int .i64 3])) w' :=
  ⟨⟨_, _, rfl, .inr (.inl ⟨hn, by rw [tt_3 h ht hs hr]; decide, rfl, (tt_3 h ht hs hr).symm⟩)⟩, hb⟩
theorem tp_9 (hb : Below w.heap.size w w') (hn : nc = m) (h : ttE n col sk t = 0) (ht : t < m) (hr : 0 ≤ col t ∧ col t < (n : Int)) (hd : ∃ j, j < t ∧ col j = col t) : TtPost w m n nc f col sk skip (.returned (.tuple #[.int .i64 0, .int .i64 9])) w' :=
  ⟨⟨_, _, rfl, .inr (.inl ⟨hn, by rw [tt_9 h ht hr hd]; decide, rfl, (tt_9 h ht hr hd).symm⟩)⟩, hb⟩
theorem tp_0 (hb : Below w.heap.size w w') (hn : nc = m) (h : ttE n col sk m = 0) : TtPost w m n nc f col sk skip (.returned (.tuple #[.int .i64 (Mt.sm (ttF f col sk skip) m), .int .i64 0])) w' :=
  ⟨⟨_, _, rfl, .inr (.inr ⟨hn, h, rfl, rfl⟩)⟩, hb⟩
end

set_option maxRecDepth 100000 in
set_option maxHeartbeats 2000000 in
theorem refTotal_c (B m n nc : Nat) (A C : Option Addr) (cm cc : Nat) (f : Nat → Nat → Int) (col : Nat → Int) (w : World) (hm : m ≤ 1000) (hn : n ≤ 1000) (hnc : nc ≤ 9223372036854775807) (hT : Tb w B A m (fun _ => n) f) (hC : Rd w B C nc col)
    (hf : ∀ i, i < m → ∀ k, k < n → -1000000000 ≤ f i k ∧ f i k ≤ 1000000000) :
    Calls Try.prog 24 #[.slice A m cm, .slice C nc cc, .int .i64 0, .bool false] w (TtPost w m n nc f col false 0) := by
  have HT := Lib.hid hT
  have HC := Lib.hid hC
  have HF := Lib.hid hf
  clear hT hC hf
  go_enter Try.func24, Try.ntmps24
  by_cases hne : nc = m
  case neg =>
    have hb : ((nc : Int) != (m : Int)) = true := by simp; omega
    have HN := Lib.hid hne
    clear hne
    go_wp2_with fail
    go_ret2
    exact tp_5 (Below.refl _ _) HN.out
  subst hne
  have hb : ((nc : Int) != (nc : Int)) = false := by simp
  go_wp2_with fail
  go_loopw [10, 11, 12, 13] (fun s i _ _ wr => ∃ t : Nat, t ≤ nc ∧ i = .int .i64 (t : Int) ∧ s = .int .i64 (Mt.sm (ttF f col false 0) t) ∧ ttE n col false t = 0 ∧ ∃ d, wr = w.drewN d) (fun _ i _ _ _ => nc - (intOf i).toNat)
  case atStart => exact ⟨0, Nat.zero_le _, rfl, rfl, rfl, 0, rfl⟩
  case round =>
    obtain ⟨t, ht, rfl, rfl, hE, d, hwr⟩ := hrel
    subst wr
    have bd := tt_bd (skip := 0) ht HF.out (by omega) hE
    have HE := Lib.hid hE
    clear hE
    obtain ⟨S, hS⟩ : ∃ S, Mt.sm (ttF f col false 0) t = S := ⟨_, rfl⟩
    rw [hS] at bd ⊢
    have HS := Lib.hid hS
    clear hS
    by_cases htm : t < nc
    · have hti : (t : Int) < (nc : Int) := by omega
      have q := wrap_in (q := (t : Int) + 1) (by omega) (by omega)
      obtain ⟨b, rfl, _, c0⟩ := HC.out t htm
      obtain ⟨a, Ai, ci, rfl, _, c1, hRd⟩ := HT.out t htm
      have HR := Lib.hid (show Rd w B Ai n (f t) from hRd)
      have c1' : w.cell? (a.add t) = some (.slice Ai n ci) := c1
      clear hRd c1
      by_cases r1 : col t < 0
      · have HN := Lib.hid (show ¬ (0 ≤ col t ∧ col t < (n : Int)) by omega)
        go_wp2_with fail
        go_ret2
        exact tp_3 (below_drewN (Below.refl _ _) d) rfl HE.out htm (fun h => by cases h.1) HN.out
      by_cases r2 : (n : Int) ≤ col t
      · have HN := Lib.hid (show ¬ (0 ≤ col t ∧ col t < (n : Int)) by omega)
        go_wp2_with fail
        go_ret2
        exact tp_3 (below_drewN (Below.refl _ _) d) rfl HE.out htm (fun h => by cases h.1) HN.out
      obtain ⟨x, hx⟩ : ∃ x : Nat, col t = (x : Int) := ⟨(col t).toNat, by omega⟩
      have HX := Lib.hid hx
      have hxn : x < n := by omega
      have c0' : w.cell? (b.add t) = some (.int .i64 (x : Int)) := by rw [c0, hx]
      have hxi : (x : Int) < (n : Int) := by omega
      have hx0 : ¬ (x : Int) < 0 := by omega
      have hx1 : ¬ (n : Int) ≤ (x : Int) := by omega
      clear r1 r2 hx c0
      obtain ⟨b2, rfl, _, e0⟩ := HR.out x hxn
      have HV := Lib.hid e0
      go_wp2_with fail
      go_loopw [13] (fun i wr => ∃ s : Nat, s ≤ t ∧ i = .int .i64 (s : Int) ∧ (∀ j, j < s → col j ≠ (x : Int)) ∧ wr = w.drewN d) (fun i _ => t - (intOf i).toNat)
      case atStart => exact ⟨0, Nat.zero_le _, rfl, fun j hj => by omega, rfl⟩
      case round =>
        obtain ⟨s, hs, rfl, hall, hwr⟩ := hrel
        subst wr
        have HA := Lib.hid hall
        clear hall
        by_cases hst : s < t
        · have hsi : (s : Int) < (t : Int) := by omega
          have q' := wrap_in (q := (s : Int) + 1) (by omega) (by omega)
          obtain ⟨b', hb', _, d0⟩ := HC.out s (by omega)
          obtain rfl : b = b' := by injection hb'
          clear hb'
          by_cases he : col s = (x : Int)
          · have hbe : (col s == (x : Int)) = true := by simp [he]
            have HD := Lib.hid he
            clear he
            go_wp2_with fail
            go_ret2
            exact tp_9 (below_drewN (Below.refl _ _) d) rfl HE.out htm (by rw [HX.out]; omega) ⟨s, hst, by rw [HD.out, HX.out]⟩
          · have hbe : (col s == (x : Int)) = false := by simp [he]
            have HD := Lib.hid he
            clear he
            go_wp2_with fail
            go_roundw
            case rel => exact ⟨s + 1, hst, rfl, fun j hj => by
              by_cases e : j = s
              · subst e; exact HD.out
              · exact HA.out j (by omega), by first | rfl | trivial⟩
            case measure => simp [intOf]; omega
        · have hsi : ¬ (s : Int) < (t : Int) := by omega
          have fb := HF.out t htm x hxn
          have q2 := wrap_in (q := S + f t x) (by omega) (by omega)
          have HN := Lib.hid (show ttE n col false (t + 1) = 0 from tt_ok HE.out (by rw [HX.out]; omega) (fun j hj => by rw [HX.out]; exact HA.out j (by omega)))
          have HSM := Lib.hid (show Mt.sm (ttF f col false 0) (t + 1) = S + f t x by
            show Mt.sm (ttF f col false 0) t + ttF f col false 0 t = _
            rw [HS.out]
            unfold ttF
            rw [if_neg (fun h => by cases h.1), HX.out, Int.toNat_natCast])
          clear fb bd
          go_wp2_with fail
          try (go_quiet (fail))
          try (go_wp2_with fail)
          go_roundw
          case rel => exact ⟨t + 1, htm, rfl, by rw [HSM.out], HN.out, _, by first | rfl | exact World.drewN_drewN ..⟩
          case measure => simp [intOf]; omega
    · obtain rfl : t = nc := by omega
      have hti : ¬ (t : Int) < (t : Int) := by omega
      clear bd
      go_wp2_with fail
      go_ret2
      rw [← HS.out]
      exact tp_0 (below_drewN (Below.refl _ _) d) rfl HE.out
end Go.Proofs.Ytojgfpnecdngfaa
