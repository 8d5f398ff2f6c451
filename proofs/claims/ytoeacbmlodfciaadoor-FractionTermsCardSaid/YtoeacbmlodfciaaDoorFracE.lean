/- Contracts of checkAll over a slice of fractions, and of the reference's both: 0 where all are right, else ErrNumber; the slice's cells are given. -/
import Derived.Test.YtoeacbmlodfciaaDoorFracC
namespace Go.Proofs.YtoeacbmlodfciaaDoor
open Go.RowKit

theorem new_cell (w : World) (xs : Array Value) (T : TypeId) {b i : Nat} (hb : b = w.heap.size) {v : Value} (h : xs[i]? = some v) : (w.alloc (.cells xs T)).cell? ⟨b, i, none⟩ = some v := by
  subst hb
  simp [h]

set_option maxHeartbeats 1000000 in
theorem checkAll_upto (B off cap n m : Nat) (X Y : Nat → Int) (w : World) (hm : m ≤ n) (hn : n ≤ 1099511627776) (hB : B < w.heap.size)
    (hx : ∀ k, k < n → w.cell? ⟨B, off + k * 2, none⟩ = some (.int .i64 (X k)) ∧ w.cell? ⟨B, off + k * 2 + 1, none⟩ = some (.int .i64 (Y k)))
    (hr : ∀ k, k < m → FracMath.rightB (X k) (Y k) = true) (hb : m < n → FracMath.rightB (X m) (Y m) = false) (r : Int) (hres : r = if m = n then 0 else 2) :
    Calls Tryd.prog 32 #[.slice (some ⟨B, off, none⟩) n cap] w fun e w' => e = .returned (.int .i64 r) ∧ Below w.heap.size w w' := by
  have HX := Lib.hid hx
  have HR := Lib.hid hr
  have HB := Lib.hid hb
  have HS := Lib.hid hres
  clear hx hr hb hres
  go_enter Tryd.func32, Tryd.ntmps32
  go_wp2
  go_loopw [8] (fun i wr => ∃ k : Nat, k ≤ m ∧ i = .int .i64 (k : Int) ∧ Below w.heap.size w wr) (fun i _ => n - (intOf i).toNat)
  case atStart => exact ⟨0, Nat.zero_le _, rfl, Below.refl _ _⟩
  case round =>
    obtain ⟨k, hk, rfl, hw⟩ := hrel
    by_cases h1 : k < n
    · have hx0 := (hw.cell (p := ⟨B, off + k * 2, none⟩) hB).trans (HX.out k h1).1
      have hx1 := (hw.cell (p := ⟨B, off + k * 2 + 1, none⟩) hB).trans (HX.out k h1).2
      have hsz := hw.size
      by_cases h2 : k < m
      · have ec : chk (X k) (Y k) = 0 := chk_yes (HR.out k h2)
        have c := fun W => check_any (X k) (Y k) W
        rw [ec] at c
        have C := Lib.hid c
        clear c ec
        go_wp2_with fail
        refine (C.out _).mono ?_
        rintro e w1 ⟨rfl, hb1⟩
        have hz1 := hb1.size
        simp at hz1
        go_wp2
        go_roundw
        case rel => exact ⟨k + 1, by omega, by go_num, (hw.alloc (by omega) _).trans (hb1.mono (by simp; omega))⟩
        case measure => simp [intOf]; omega
      · have hkm : k = m := by omega
        have ec : chk (X k) (Y k) = 2 := chk_no (by rw [hkm]; exact HB.out (by omega))
        have er : r = 2 := by rw [HS.out, if_neg (by omega)]
        have HE := Lib.hid er
        have c := fun W => check_any (X k) (Y k) W
        rw [ec] at c
        have C := Lib.hid c
        clear c ec er hkm
        go_wp2_with fail
        refine (C.out _).mono ?_
        rintro e w1 ⟨rfl, hb1⟩
        have hz1 := hb1.size
        simp at hz1
        go_wp2
        go_ret
        exact ⟨ret_int HE.out.symm, (hw.alloc (by omega) _).trans (hb1.mono (by simp; omega))⟩
    · have er : r = 0 := by rw [HS.out, if_pos (by omega)]
      have HE := Lib.hid er
      clear er
      go_wp2
      go_ret
      exact ⟨ret_int HE.out.symm, hw⟩

theorem checkAll_two (B cap : Nat) (a b c d : Int) (w : World) (hB : B < w.heap.size)
    (h0 : w.cell? ⟨B, 0, none⟩ = some (.int .i64 a)) (h1 : w.cell? ⟨B, 1, none⟩ = some (.int .i64 b)) (h2 : w.cell? ⟨B, 2, none⟩ = some (.int .i64 c)) (h3 : w.cell? ⟨B, 3, none⟩ = some (.int .i64 d)) :
    Calls Tryd.prog 32 #[.slice (some ⟨B, 0, none⟩) 2 cap] w fun e w' => e = .returned (.int .i64 (if FracMath.rightB a b && FracMath.rightB c d then 0 else 2)) ∧ Below w.heap.size w w' := by
  have hx : ∀ k, k < 2 → w.cell? ⟨B, 0 + k * 2, none⟩ = some (.int .i64 ((fun k : Nat => if k = 0 then a else c) k)) ∧ w.cell? ⟨B, 0 + k * 2 + 1, none⟩ = some (.int .i64 ((fun k : Nat => if k = 0 then b else d) k)) := by
    intro k hk
    rcases (show k = 0 ∨ k = 1 by omega) with rfl | rfl
    · exact ⟨h0, h1⟩
    · exact ⟨h2, h3⟩
  cases e1 : FracMath.rightB a b
  · exact checkAll_upto B 0 cap 2 0 _ _ w (by omega) (by omega) hB hx (fun k hk => by omega) (fun _ => e1) _ (by simp)
  · cases e2 : FracMath.rightB c d
    · refine checkAll_upto B 0 cap 2 1 _ _ w (by omega) (by omega) hB hx (fun k hk => ?_) (fun _ => e2) _ (by simp)
      obtain rfl : k = 0 := by omega
      exact e1
    · refine checkAll_upto B 0 cap 2 2 _ _ w (by omega) (by omega) hB hx (fun k hk => ?_) (fun h => by omega) _ (by simp)
      rcases (show k = 0 ∨ k = 1 by omega) with rfl | rfl
      · exact e1
      · exact e2

/-- the reference's both, as Check says it of the first fraction that is not right -/
theorem ref_both_any (a b c d : Int) (w : World) :
    Calls Tryd.prog 54 #[.agg #[.int .i64 a, .int .i64 b], .agg #[.int .i64 c, .int .i64 d]] w fun e w' => e = .returned (.int .i64 (if FracMath.rightB a b && FracMath.rightB c d then 0 else 2)) ∧ Below w.heap.size w w' := by
  have c1 := fun W => ref_right_any a b W
  have c2 := fun W => ref_right_any c d W
  cases e1 : FracMath.rightB a b
  · rw [e1] at c1
    have C1 := Lib.hid c1
    clear c1 c2 e1
    go_enter Tryd.func54, Tryd.ntmps54
    go_wp2_with fail
    refine (C1.out _).mono ?_
    rintro e w1 ⟨rfl, hb1⟩
    have hz1 := hb1.size
    simp at hz1
    go_wp2
    go_ret
    exact ⟨rfl, (((Below.refl _ _).alloc (Nat.le_refl _) _).alloc (by simp) _).trans (hb1.mono (by simp; omega))⟩
  · rw [e1] at c1
    have C1 := Lib.hid c1
    cases e2 : FracMath.rightB c d
    all_goals
      rw [e2] at c2
      have C2 := Lib.hid c2
      clear c1 c2 e1 e2
      go_enter Tryd.func54, Tryd.ntmps54
      go_wp2_with fail
      refine (C1.out _).mono ?_
      rintro e w1 ⟨rfl, hb1⟩
      have hz1 := hb1.size
      simp at hz1
      obtain ⟨x0, x1, xl, _⟩ := (Two.new (w.alloc (.cells #[.int .i64 a, .int .i64 b] 27)) (.int .i64 c) (.int .i64 d) 27).below hb1
      simp at x0 x1 xl
      go_wp2_with fail
      refine (C2.out _).mono ?_
      rintro e w2 ⟨rfl, hb2⟩
      go_wp2
      go_ret
      exact ⟨rfl, ((((Below.refl _ _).alloc (Nat.le_refl _) _).alloc (by simp) _).trans (hb1.mono (by simp; omega))).trans (hb2.mono (by omega))⟩
end Go.Proofs.YtoeacbmlodfciaaDoor
