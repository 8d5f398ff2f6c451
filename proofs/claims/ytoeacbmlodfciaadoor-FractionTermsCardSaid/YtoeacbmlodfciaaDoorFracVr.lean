/- The reference's Value over lists of terms. -/
import Derived.Test.YtoeacbmlodfciaaDoorFracCf
import Derived.Test.YtoeacbmlodfciaaDoorFracLa
namespace Go.Proofs.YtoeacbmlodfciaaDoor
open Go Go.RowKit Go.Shelf

namespace FracMath
/-- What Value returns: r, where the terms have a right form. -/
def CfForm (X : Nat → Int) (n : Nat) (r : Int × Int × Int) : Prop :=
  (∃ m, 1 ≤ m ∧ m < n ∧ X m < 1 ∧ (∀ i, 1 ≤ i → i < m → 1 ≤ X i) ∧ r = (0, 0, 7)) ∨ ((∀ i, 1 ≤ i → i < n → 1 ≤ X i) ∧ r = cfV X n)
theorem cf_form (X : Nat → Int) (n : Nat) : ∃ r, CfForm X n r := by
  by_cases h : ∀ i, 1 ≤ i → i < n → 1 ≤ X i
  · exact ⟨_, .inr ⟨h, rfl⟩⟩
  · have key : ∀ k, (∀ i, 1 ≤ i → i < k → 1 ≤ X i) ∨ ∃ m, 1 ≤ m ∧ m < k ∧ X m < 1 ∧ ∀ i, 1 ≤ i → i < m → 1 ≤ X i := by
      intro k
      induction k with
      | zero => exact .inl fun i _ h => absurd h (Nat.not_lt_zero _)
      | succ k ih =>
        rcases ih with ih | ⟨m, h1, h2, h3⟩
        · by_cases hk : 1 ≤ k ∧ X k < 1
          · exact .inr ⟨k, hk.1, Nat.lt_succ_self _, hk.2, ih⟩
          · refine .inl fun i h1 h2 => ?_
            by_cases e : i = k
            · subst e; omega
            · exact ih i h1 (by omega)
        · exact .inr ⟨m, h1, by omega, h3⟩
    rcases key n with h2 | ⟨m, h1, h2, h3, h4⟩
    · exact absurd h2 h
    · exact ⟨_, .inl ⟨m, h1, h2, h3, h4, rfl⟩⟩
theorem mul_bound {t p A B : Int} (h1 : -A ≤ t) (h2 : t ≤ A) (h3 : 0 ≤ p) (h4 : p ≤ B) (hA : 0 ≤ A) : -(A * B) ≤ t * p ∧ t * p ≤ A * B := by
  have a1 := Int.mul_le_mul_of_nonneg_right h2 h3
  have a2 := Int.mul_le_mul_of_nonneg_right h1 h3
  have a3 := Int.mul_le_mul_of_nonneg_left h4 hA
  have a4 : -A * p = -(A * p) := Int.neg_mul _ _
  omega
end FracMath

set_option maxHeartbeats 1000000 in
theorem rvalue_empty (sa : Option Addr) (cap : Nat) (w : World) :
    Calls Tryd.prog 25 #[.slice sa 0 cap] w fun e w' => e = .returned (.tuple #[.agg #[.int .i64 0, .int .i64 0], .int .i64 13]) ∧ Below w.heap.size w w' := by
  go_enter Tryd.func25, Tryd.ntmps25
  go_wp2_with fail
  exact bodyPost_ret (v := .tuple #[.agg #[.int .i64 0, .int .i64 0], .int .i64 13]) (by simp [results, Tryd.results25, go_sem]) rfl ⟨rfl, by go_grown⟩
set_option maxHeartbeats 1000000 in
theorem rvalue_long (sa : Option Addr) (n cap : Nat) (hn : 40 < n) (w : World) :
    Calls Tryd.prog 25 #[.slice sa n cap] w fun e w' => e = .returned (.tuple #[.agg #[.int .i64 0, .int .i64 0], .int .i64 4]) ∧ Below w.heap.size w w' := by
  have h1 : ((n : Int) == 0) = false := by rw [beq_eq_false_iff_ne]; omega
  have h2 : (40 : Int) < (n : Int) := by omega
  go_enter Tryd.func25, Tryd.ntmps25
  go_wp2_with fail
  exact bodyPost_ret (v := .tuple #[.agg #[.int .i64 0, .int .i64 0], .int .i64 4]) (by simp [results, Tryd.results25, go_sem]) rfl ⟨rfl, by go_grown⟩

set_option maxHeartbeats 2000000 in
theorem rvalue_form (B off n cap m : Nat) (X : Nat → Int) (w : World) (h0 : 0 < n) (hn : n ≤ 40) (hB : B < w.heap.size) (hx : ∀ k, k < n → w.cell? ⟨B, off + k, none⟩ = some (.int .i64 (X k)))
    (h1 : 1 ≤ m) (h2 : m < n) (h3 : X m < 1) (h4 : ∀ i, 1 ≤ i → i < m → 1 ≤ X i) :
    Calls Tryd.prog 25 #[.slice (some ⟨B, off, none⟩) n cap] w fun e w' => e = .returned (.tuple #[.agg #[.int .i64 0, .int .i64 0], .int .i64 7]) ∧ Below w.heap.size w w' := by
  have hz : ((n : Int) == 0) = false := by rw [beq_eq_false_iff_ne]; omega
  have hl : ¬ (40 : Int) < (n : Int) := by omega
  have hne : w.heap.size ≠ B := by omega
  have HX := Lib.hid hx
  have H4 := Lib.hid h4
  clear hx h4
  go_enter Tryd.func25, Tryd.ntmps25
  go_wp2_with fail
  go_loop [4] (fun i => ∃ k : Nat, 1 ≤ k ∧ k ≤ m ∧ i = .int .i64 (k : Int)) (fun i => n - (intOf i).toNat)
  case atStart => exact ⟨1, Nat.le_refl _, h1, rfl⟩
  case round =>
    obtain ⟨k, hk1, hk2, rfl⟩ := hrel
    have hc := HX.out k (by omega)
    have hc2 : (w.alloc (.cells #[.int .i64 0, .int .i64 0] 27)).cell? ⟨B, off + k, none⟩ = some (.int .i64 (X k)) := (((Below.refl _ w).alloc (Nat.le_refl _) _).cell (p := ⟨B, off + k, none⟩) hB).trans hc
    have hkn : (k : Int) < (n : Int) := by omega
    by_cases e : k < m
    · have hx := H4.out k hk1 e
      generalize X k = x at *
      go_wp2
      go_round
      case rel => exact ⟨k + 1, by omega, by omega, by go_num⟩
      case measure => simp [intOf]; omega
    · obtain rfl : k = m := by omega
      generalize X k = x at *
      go_wp2
      exact bodyPost_ret (v := .tuple #[.agg #[.int .i64 0, .int .i64 0], .int .i64 7]) (by simp [results, Tryd.results25, go_sem]) rfl ⟨rfl, by go_grown⟩

set_option maxRecDepth 100000 in
set_option maxHeartbeats 4000000 in
theorem rvalue_main (B off n cap : Nat) (X : Nat → Int) (w : World) (h0 : 0 < n) (hn : n ≤ 40) (hB : B < w.heap.size) (hx : ∀ k, k < n → w.cell? ⟨B, off + k, none⟩ = some (.int .i64 (X k)))
    (hf : ∀ i, 1 ≤ i → i < n → 1 ≤ X i) (r1 r2 r3 : Int) (hr : FracMath.cfV X n = (r1, r2, r3)) :
    Calls Tryd.prog 25 #[.slice (some ⟨B, off, none⟩) n cap] w fun e w' => e = .returned (.tuple #[.agg #[.int .i64 r1, .int .i64 r2], .int .i64 r3]) ∧ Below w.heap.size w w' := by
  have hz : ((n : Int) == 0) = false := by rw [beq_eq_false_iff_ne]; omega
  have hl : ¬ (40 : Int) < (n : Int) := by omega
  have hne : w.heap.size ≠ B := by omega
  have HX := Lib.hid (fun k hk => (((Below.refl _ w).alloc (Nat.le_refl _) (.cells #[.int .i64 0, .int .i64 0] 27)).cell (p := ⟨B, off + k, none⟩) hB).trans (hx k hk))
  have HF := Lib.hid hf
  have HR := Lib.hid hr
  clear hx hf hr
  go_enter Tryd.func25, Tryd.ntmps25
  go_wp2_with fail
  go_loop [4] (fun i => ∃ k : Nat, 1 ≤ k ∧ k ≤ n ∧ i = .int .i64 (k : Int)) (fun i => n - (intOf i).toNat)
  case atStart => exact ⟨1, Nat.le_refl _, h0, rfl⟩
  case round =>
    obtain ⟨k, hk1, hk2, rfl⟩ := hrel
    by_cases e : k < n
    · have hc2 := HX.out k (by omega)
      have hkn : (k : Int) < (n : Int) := by omega
      have hx := HF.out k hk1 e
      generalize X k = x at *
      go_wp2
      go_round
      case rel => exact ⟨k + 1, by omega, by omega, by go_num⟩
      case measure => simp [intOf]; omega
    · obtain rfl : k = n := by omega
      go_wp2_with fail
      clear hk1 hk2 e
      go_loop [5, 6, 7] (fun p q i => ∃ r : Nat, r ≤ k ∧ i = .int .i64 ((k : Int) - 1 - (r : Int)) ∧ p = .int .i64 (FracMath.cfs X k r).1 ∧ q = .int .i64 (FracMath.cfs X k r).2 ∧ (∀ j, j < r → FracMath.okR (FracMath.cfs X k j).1 (X (k - 1 - j)) = true) ∧ (0 < r → -2000001000000 ≤ (FracMath.cfs X k r).1 ∧ (FracMath.cfs X k r).1 ≤ 2000001000000 ∧ 1 ≤ (FracMath.cfs X k r).2 ∧ (FracMath.cfs X k r).2 ≤ 1000000)) (fun _ _ i => ((intOf i) + 1).toNat)
      case atStart => exact ⟨0, Nat.zero_le _, by simp, rfl, rfl, fun j hj => absurd hj (Nat.not_lt_zero _), fun h => absurd h (by decide)⟩
      case round =>
        obtain ⟨r, hr, rfl, rfl, rfl, ha, hb⟩ := hrel
        have HA := Lib.hid ha
        have HB := Lib.hid hb
        clear ha hb
        by_cases h1 : r < k
        · obtain ⟨j, hj⟩ : ∃ j : Nat, k - 1 - r = j := ⟨_, rfl⟩
          have hji : (k : Int) - 1 - (r : Int) = (j : Int) := by omega
          rw [hji]
          have HJI := Lib.hid hji
          have hjk : (j : Int) < (k : Int) := by omega
          have hc2 := HX.out j (by omega)
          obtain ⟨p1, p2, p3⟩ := FracMath.cf_pos HF.out h1
          have hs := FracMath.cfs_succ X k r
          have hstop : FracMath.okR (FracMath.cfs X k r).1 (X (k - 1 - r)) = false → FracMath.cfV X k = (0, 0, 4) := fun h => FracMath.cf_stopR h1 h
          rw [hj] at hs hstop
          have HS := Lib.hid hs
          have HST := Lib.hid hstop
          have HJ := Lib.hid hj
          clear hs hstop hji hj
          obtain ⟨p, hp⟩ : ∃ p, (FracMath.cfs X k r).1 = p := ⟨_, rfl⟩
          obtain ⟨q, hq⟩ : ∃ q, (FracMath.cfs X k r).2 = q := ⟨_, rfl⟩
          obtain ⟨t, ht⟩ : ∃ t, X j = t := ⟨_, rfl⟩
          rw [hp, hq, ht] at HS
          rw [hp, ht] at HST
          rw [ht] at hc2
          rw [hp, hq] at p3 ⊢
          rw [hp] at p1
          rw [hq] at p2
          have HP := Lib.hid hp
          have HT := Lib.hid ht
          clear hp hq ht
          have fin : ∀ h : FracMath.okR p t = false, (r1, r2, r3) = ((0 : Int), (0 : Int), (4 : Int)) := fun h => by rw [← HR.out]; exact HST.out h
          have FIN := Lib.hid fin
          clear fin
          by_cases c1 : 2000000 < t
          · have k1 : decide ((2000000 : Int) < t) = true := by simpa using c1
            have hfin := FIN.out (by unfold FracMath.okR; simp; omega)
            cases hfin
            go_wp2
            exact bodyPost_ret (v := .tuple #[.agg #[.int .i64 0, .int .i64 0], .int .i64 4]) (by simp [results, Tryd.results25, go_sem]) rfl ⟨rfl, by go_grown⟩
          · have k1 : decide ((2000000 : Int) < t) = false := by simpa using c1
            by_cases c2 : t < -2000000
            · have k2 : decide (t < (-2000000 : Int)) = true := by simpa using c2
              have hfin := FIN.out (by unfold FracMath.okR; simp; omega)
              cases hfin
              go_wp2
              exact bodyPost_ret (v := .tuple #[.agg #[.int .i64 0, .int .i64 0], .int .i64 4]) (by simp [results, Tryd.results25, go_sem]) rfl ⟨rfl, by go_grown⟩
            · have k2 : decide (t < (-2000000 : Int)) = false := by simpa using c2
              by_cases c3 : 1000000 < p
              · have k3 : decide ((1000000 : Int) < p) = true := by simpa using c3
                have hfin := FIN.out (by unfold FracMath.okR; simp; omega)
                cases hfin
                go_wp2
                exact bodyPost_ret (v := .tuple #[.agg #[.int .i64 0, .int .i64 0], .int .i64 4]) (by simp [results, Tryd.results25, go_sem]) rfl ⟨rfl, by go_grown⟩
              · have k3 : decide ((1000000 : Int) < p) = false := by simpa using c3
                have hok : FracMath.okR p t = true := by unfold FracMath.okR; simp; omega
                have HOK := Lib.hid hok
                obtain ⟨m1, m2⟩ := FracMath.mul_bound (t := t) (p := p) (A := 2000000) (B := 1000000) (by omega) (by omega) (by omega) (by omega) (by omega)
                clear hok
                go_wp2
                go_round
                case rel =>
                  refine ⟨r + 1, by omega, by rw [← HJI.out]; congr 1; omega, by rw [HS.out], by rw [HS.out], fun i hi => ?_, fun _ => by rw [HS.out]; simp only; omega⟩
                  by_cases e : i = r
                  · subst e; rw [HJ.out, HP.out, HT.out]; exact HOK.out
                  · exact HA.out i (by omega)
                case measure => simp [intOf]
        · obtain rfl : r = k := by omega
          have hm : ¬ (0 : Int) ≤ (r : Int) - 1 - (r : Int) := by omega
          obtain ⟨b1, b2, b3, b4⟩ := HB.out h0
          have hfin := (FracMath.cf_doneR h0 HF.out HA.out).symm.trans HR.out
          obtain ⟨p, hp⟩ : ∃ p, (FracMath.cfs X r r).1 = p := ⟨_, rfl⟩
          obtain ⟨q, hq⟩ : ∃ q, (FracMath.cfs X r r).2 = q := ⟨_, rfl⟩
          rw [hp] at b1 b2 hfin ⊢
          rw [hq] at b3 b4 hfin ⊢
          have mk := fun W => ref_make_any p q W (by omega) (by omega) (by omega) (by omega)
          rw [hfin] at mk
          have MK := Lib.hid mk
          clear hp hq mk hfin
          go_wp2_with fail
          refine (MK.out _).mono ?_
          rintro e w4 ⟨rfl, hb4⟩
          obtain ⟨r0, r1', rl, rf⟩ := (Two.new w (.int .i64 0) (.int .i64 0) 27).below hb4
          go_wp2
          refine bodyPost_ret (v := .tuple #[.agg #[.int .i64 r1, .int .i64 r2], .int .i64 r3]) (by simp [results, Tryd.results25, go_sem, r0, r1']) rfl ⟨rfl, ?_⟩
          exact ((((Below.refl _ _).alloc (Nat.le_refl _) _).trans (hb4.mono (by go_size))).setCell (by simp) _).setCell (by simp) _
end Go.Proofs.YtoeacbmlodfciaaDoor
