/- divideMagnitudes: the arithmetic of long division; what is laid before the loop. -/
import Derived.Test.YtnchodofgaaeeaaGreatDoorImP3
import Derived.Test.YtnchodofgaaeeaaGreatDoorBkP
import Derived.Laws.CopyOwn
namespace Go.Proofs.YtnchodofgaaeeaaGreatDoor
open Go Go.RowKit Go.Shelf
attribute [local go_sem] Oper.semAt_some wide_fn wide_depth

theorem bb_pos (k : Nat) : 0 < BB ^ k := Nat.pow_pos (by unfold BB; omega)
/-- The number by which both are multiplied. -/
def scl (Y : Nat) : Nat := BB / (dg Y (nd Y - 1) + 1)
theorem scl_facts {Y : Nat} (hY : 0 < Y) : 1 ≤ scl Y ∧ scl Y < 1000000000 ∧ Y * scl Y < BB ^ nd Y ∧ nd (Y * scl Y) = nd Y := by
  have h1 := dg_lt Y (nd Y - 1)
  have h2 : dg Y (nd Y - 1) ≠ 0 := Im.dg_top bb2 hY
  have h3 : nd Y = nd Y - 1 + 1 := by have := Im.nd_pos bb2 hY; unfold nd; omega
  have hs1 : 1 ≤ scl Y := Nat.div_pos (by unfold BB; omega) (by omega)
  have hs2 : scl Y * (dg Y (nd Y - 1) + 1) ≤ BB := Nat.div_mul_le_self _ _
  have hs3 : scl Y < 1000000000 := by
    have : scl Y * 2 ≤ scl Y * (dg Y (nd Y - 1) + 1) := Nat.mul_le_mul_left _ (by omega)
    unfold BB at hs2; omega
  have hlt : Y < (dg Y (nd Y - 1) + 1) * BB ^ (nd Y - 1) := by
    have h4 := div_dgJ Y (nd Y - 1)
    rw [← h3, Nat.div_eq_of_lt (show Y < BB ^ nd Y from Im.lt_pow_nd bb2 Y), Nat.mul_zero, Nat.zero_add] at h4
    exact (Nat.div_lt_iff_lt_mul (bb_pos _)).1 (by omega)
  have hfit : Y * scl Y < BB ^ nd Y := by
    have h5 : Y * scl Y < (dg Y (nd Y - 1) + 1) * BB ^ (nd Y - 1) * scl Y := Nat.mul_lt_mul_of_pos_right hlt hs1
    have h6 : (dg Y (nd Y - 1) + 1) * BB ^ (nd Y - 1) * scl Y = (scl Y * (dg Y (nd Y - 1) + 1)) * BB ^ (nd Y - 1) := by
      rw [Nat.mul_comm _ (scl Y), Nat.mul_assoc]
    have h7 : (scl Y * (dg Y (nd Y - 1) + 1)) * BB ^ (nd Y - 1) ≤ BB * BB ^ (nd Y - 1) := Nat.mul_le_mul_right _ hs2
    rw [← Nat.pow_succ', show (nd Y - 1).succ = nd Y by omega] at h7
    omega
  refine ⟨hs1, hs3, hfit, ?_⟩
  refine Nat.le_antisymm (Im.nd_le bb2 hfit) (Im.nd_mono bb2 (Nat.le_mul_of_pos_right _ hs1))

/-- One step of long division. -/
theorem long_step {U V k : Nat} (hV : 0 < V) : (BB * (U / BB ^ (k + 1) % V) + dg U k) / V = dg (U / V) k ∧ (BB * (U / BB ^ (k + 1) % V) + dg U k) % V = U / BB ^ k % V ∧ BB * (U / BB ^ (k + 1) % V) + dg U k < V * BB := by
  obtain ⟨_, h1, h2⟩ := quot_stepB (X := U) (i := k) hV
  refine ⟨h1, h2, ?_⟩
  have h3 := Nat.mod_lt (U / BB ^ (k + 1)) hV
  have h4 := dg_lt U k
  have h5 : BB * (U / BB ^ (k + 1) % V + 1) ≤ BB * V := Nat.mul_le_mul_left _ h3
  rw [Nat.mul_add, Nat.mul_one, Nat.mul_comm BB V] at h5
  unfold BB at *
  omega
/-- The row of the rest while it is made: the remainder's digits from place k on, below it those of U. -/
def wk (U V k : Nat) : Nat := U / BB ^ k % V * BB ^ k + U % BB ^ k
theorem wk_low {U V k j : Nat} (h : j < k) : dg (wk U V k) j = dg U j := by
  unfold wk dg
  refine Im.dg_mod ?_
  have hd : BB ^ (j + 1) ∣ BB ^ k := Nat.pow_dvd_pow _ h
  rw [Nat.add_mod, Nat.mod_eq_zero_of_dvd (Nat.dvd_trans hd (Nat.dvd_mul_left _ _)), Nat.zero_add, Nat.mod_mod, Nat.mod_mod_of_dvd _ hd]
theorem wk_high (U V k j : Nat) : dg (wk U V k) (k + j) = dg (U / BB ^ k % V) j := by
  unfold wk dg Im.dg
  rw [Nat.pow_add, ← Nat.div_div_eq_div_mul, Nat.add_comm, Nat.add_mul_div_right _ _ (bb_pos k), Nat.div_eq_of_lt (Nat.mod_lt _ (bb_pos k)), Nat.zero_add]
theorem dg_up (R d : Nat) (hd : d < 1000000000) : dg (BB * R + d) 0 = d ∧ ∀ j, dg (BB * R + d) (j + 1) = dg R j := by
  unfold dg Im.dg
  refine ⟨?_, fun j => ?_⟩
  · rw [Nat.pow_zero, Nat.div_one, Nat.mul_add_mod]; exact Nat.mod_eq_of_lt hd
  · rw [Nat.pow_succ', ← Nat.div_div_eq_div_mul, Nat.mul_add_div (by unfold BB; omega), Nat.div_eq_of_lt (show d < BB from hd), Nat.add_zero]
/-- The window of the rest in which a step works. -/
theorem wk_win (U V k j : Nat) : dg (wk U V (k + 1)) (k + j) = dg (BB * (U / BB ^ (k + 1) % V) + dg U k) j := by
  obtain ⟨h1, h2⟩ := dg_up (U / BB ^ (k + 1) % V) (dg U k) (dg_lt U k)
  cases j with
  | zero => rw [h1, Nat.add_zero]; exact wk_low (Nat.lt_succ_self k)
  | succ j => rw [h2, show k + (j + 1) = k + 1 + j by omega, wk_high]
/-- The rest's cells behind a step. -/
theorem wk_next {U V k n j : Nat} (hV : V < BB ^ n) (hVp : 0 < V) : dg (wk U V k) j = if j < k then dg (wk U V (k + 1)) j else if j < k + (n + 1) then dg (U / BB ^ k % V) (j - k) else dg (wk U V (k + 1)) j := by
  by_cases h1 : j < k
  · rw [if_pos h1, wk_low h1, wk_low (by omega)]
  · rw [if_neg h1]
    obtain ⟨i, rfl⟩ : ∃ i, j = k + i := ⟨j - k, by omega⟩
    rw [wk_high, show k + i - k = i by omega]
    by_cases h2 : k + i < k + (n + 1)
    · rw [if_pos h2]
    · rw [if_neg h2]
      have h3 : U / BB ^ k % V < BB ^ i := Nat.lt_of_lt_of_le (Nat.lt_trans (Nat.mod_lt _ hVp) hV) (Nat.pow_le_pow_right (by unfold BB; omega) (by omega))
      have h4 : U / BB ^ (k + 1) % V < BB ^ (i - 1) := Nat.lt_of_lt_of_le (Nat.lt_trans (Nat.mod_lt _ hVp) hV) (Nat.pow_le_pow_right (by unfold BB; omega) (by omega))
      rw [show dg (U / BB ^ k % V) i = 0 from Im.dg_high h3]
      obtain ⟨i', rfl⟩ : ∃ i', i = i' + 1 := ⟨i - 1, by omega⟩
      rw [show k + (i' + 1) = k + 1 + i' by omega, wk_high]
      exact (Im.dg_high h4).symm
/-- The first window: the dividend's upper digits are less than the divisor. -/
theorem wk_start {X Y n m : Nat} (hX : X < BB ^ (n + m)) (hY : BB ^ (n - 1) ≤ Y) (hn : 1 ≤ n) {s : Nat} (hs : 0 < s) : wk (X * s) (Y * s) (m + 1) = X * s := by
  have h1 : X * s / BB ^ (m + 1) < Y * s := by
    rw [Nat.div_lt_iff_lt_mul (bb_pos _)]
    have h2 : X * s < BB ^ (n + m) * s := Nat.mul_lt_mul_of_pos_right hX hs
    have h3 : BB ^ (n - 1) * s ≤ Y * s := Nat.mul_le_mul_right _ hY
    have h4 : BB ^ (n - 1) * s * BB ^ (m + 1) ≤ Y * s * BB ^ (m + 1) := Nat.mul_le_mul_right _ h3
    have h5 : BB ^ (n - 1) * s * BB ^ (m + 1) = BB ^ (n + m) * s := by
      rw [Nat.mul_right_comm, ← Nat.pow_add, show n - 1 + (m + 1) = n + m by omega]
    omega
  unfold wk
  rw [Nat.mod_eq_of_lt h1, Nat.mul_comm (X * s / BB ^ (m + 1))]
  exact Nat.div_add_mod _ _
/-- A step's guess, and what the window holds behind it. -/
theorem step_guess {P V n g : Nat} (hP : P < V * BB) (hV : V < BB ^ (n + 2)) (hg : P / V ≤ g ∧ g ≤ P / V + 1) (hg9 : g ≤ BB - 1) :
    ∃ Z : Nat, Z < BB ^ (n + 3) ∧ (Z + g * V) % BB ^ (n + 3) = P % BB ^ (n + 3) ∧ (cy Z (g * V) (n + 3) = 1 ↔ g = P / V + 1) ∧ (g = P / V → Z = P % V) ∧ (g = P / V + 1 → (P % V) % BB ^ (n + 3) = (Z + V) % BB ^ (n + 3)) := by
  have hVp : 0 < V := by
    rcases Nat.eq_zero_or_pos V with h | h
    · subst h; rw [Nat.zero_mul] at hP; omega
    · exact h
  have hPB : P < BB ^ (n + 3) := by
    have h1 : V * BB ≤ BB ^ (n + 2) * BB := Nat.mul_le_mul_right _ (Nat.le_of_lt hV)
    rw [← Nat.pow_succ] at h1
    exact Nat.lt_of_lt_of_le hP h1
  have hVB : V < BB ^ (n + 3) := Nat.lt_of_lt_of_le hV (Nat.pow_le_pow_right (by unfold BB; omega) (by omega))
  have e := Nat.div_add_mod P V
  have hl := Nat.mod_lt P hVp
  have e2 : V * (P / V) = P / V * V := Nat.mul_comm _ _
  rcases (show g = P / V ∨ g = P / V + 1 by omega) with h | h
  · subst h
    refine ⟨P % V, by omega, by rw [← e2, Nat.add_comm, e], ⟨fun h => ?_, fun h => absurd h (by omega)⟩, fun _ => rfl, fun h => absurd h (by omega)⟩
    exfalso
    unfold cy at h
    rw [Nat.mod_eq_of_lt (show P % V < BB ^ (n + 3) by omega), Nat.mod_eq_of_lt (show P / V * V < BB ^ (n + 3) by omega), Nat.div_eq_of_lt (show P % V + P / V * V < BB ^ (n + 3) by omega)] at h
    cases h
  · have hgV : g * V = P / V * V + V := by rw [h, Nat.add_mul, Nat.one_mul]
    refine ⟨BB ^ (n + 3) + P - g * V, by omega, ?_, ⟨fun _ => h, fun _ => ?_⟩, fun h9 => absurd h9 (by omega), fun _ => ?_⟩
    · rw [show BB ^ (n + 3) + P - g * V + g * V = P + BB ^ (n + 3) by omega, Nat.add_mod_right]
    · have h1 := cy_le (BB ^ (n + 3) + P - g * V) (g * V) (n + 3)
      have h2 : 1 ≤ cy (BB ^ (n + 3) + P - g * V) (g * V) (n + 3) := by
        unfold cy
        by_cases h9 : g * V < BB ^ (n + 3)
        · rw [Nat.mod_eq_of_lt (show BB ^ (n + 3) + P - g * V < BB ^ (n + 3) by omega), Nat.mod_eq_of_lt h9]
          exact Nat.div_pos (by omega) (bb_pos _)
        · exfalso
          apply h9
          have h5 : g * V ≤ (BB - 1) * V := Nat.mul_le_mul_right _ hg9
          have h6 : (BB - 1) * V < BB * BB ^ (n + 2) := Nat.mul_lt_mul'' (by unfold BB; omega) hV
          rw [← Nat.pow_succ'] at h6
          exact Nat.lt_of_le_of_lt h5 h6
      omega
    · rw [show BB ^ (n + 3) + P - g * V + V = P % V + BB ^ (n + 3) by omega, Nat.add_mod_right]
end Go.Proofs.YtnchodofgaaeeaaGreatDoor
