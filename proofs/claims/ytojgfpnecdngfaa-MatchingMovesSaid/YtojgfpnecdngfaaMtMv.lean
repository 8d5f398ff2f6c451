/- What a number added to a row's costs does to the least total; a great cost to skip. -/
import Derived.Test.YtojgfpnecdngfaaMtPm
namespace Go.Proofs.Ytojgfpnecdngfaa.Mt
theorem move_tot {m n kk : Nat} {f g : Nat → Nat → Int} {by_ t1 t2 : Int} {col1 r1 c1 col2 r2 c2 : Nat → Int} (hkk : kk < m) (hg : ∀ i k, i < m → k < n → g i k = f i k + if i = kk then by_ else 0)
    (h1 : Sol m n f col1 r1 c1 t1) (h2 : Sol m n g col2 r2 c2 t2) : t2 = t1 + by_ := by
  have key : ∀ col : Nat → Int, (∀ i, i < m → 0 ≤ col i ∧ col i < n) → sm (fun i => g i (col i).toNat) m = sm (fun i => f i (col i).toNat) m + by_ := fun col hat => by
    have e : sm (fun i => g i (col i).toNat) m = sm (fun i => f i (col i).toNat + if i = kk then (fun _ => by_) i else 0) m := sm_congr fun i hi => hg i _ hi (by have := hat i hi; omega)
    rw [e, sm_add, sm_one (f := fun _ => by_) hkk]
  have a1 := bound_le h1.feas h1.cneg h2.at_ h2.inj
  have a2 := bound_le h2.feas h2.cneg h1.at_ h1.inj
  have k1 := key col1 h1.at_
  have k2 := key col2 h2.at_
  rw [← h1.total] at k1
  rw [← h2.total] at k2
  rw [h1.sum] at a1
  rw [h2.sum] at a2
  omega
theorem free_part {m n i0 : Nat} {col : Nat → Int} (hmn : m ≤ n) (hi0 : i0 < m) (hc0 : col i0 = -1) : ∃ k, k < n ∧ ∀ i, i < m → col i ≠ (k : Int) := by
  by_cases hx : ∃ k, k < n ∧ ∀ i, i < m → col i ≠ (k : Int)
  · exact hx
  · exfalso
    have h0 : ∀ k, k < n → ∃ i, i < m ∧ col i = (k : Int) := fun k h2 => by
      by_cases h3 : ∃ i, i < m ∧ col i = (k : Int)
      · exact h3
      · exact absurd ⟨k, h2, fun i hi e => h3 ⟨i, hi, e⟩⟩ hx
    have hch : ∀ M, M ≤ n → ∃ l : List Nat, l.Nodup ∧ l.length = M ∧ ∀ x, x ∈ l → x < m ∧ ∃ k, k < M ∧ col x = (k : Int) := by
      intro M
      induction M with
      | zero => exact fun _ => ⟨[], List.nodup_nil, rfl, fun x hx => by cases hx⟩
      | succ M ih =>
        intro hM
        obtain ⟨l, h1, h2, h3⟩ := ih (by omega)
        obtain ⟨i, hi, hc⟩ := h0 M (by omega)
        refine ⟨i :: l, List.nodup_cons.2 ⟨fun hm => ?_, h1⟩, by simp [h2], fun x hx => ?_⟩
        · obtain ⟨_, k, hk, hkc⟩ := h3 i hm
          omega
        · rcases List.mem_cons.1 hx with rfl | hx
          · exact ⟨hi, M, by omega, hc⟩
          · obtain ⟨a, k, c, d⟩ := h3 x hx
            exact ⟨a, k, by omega, d⟩
    obtain ⟨l, h1, h2, h3⟩ := hch n (Nat.le_refl _)
    have := length_le_of_nodup m (i0 :: l) (List.nodup_cons.2 ⟨fun hm => by obtain ⟨_, k, _, hk⟩ := h3 i0 hm; omega, h1⟩) (fun x hx => by
      rcases List.mem_cons.1 hx with rfl | hx
      · exact hi0
      · exact (h3 x hx).1)
    simp at this
    omega
theorem skip_tot {m n : Nat} {f : Nat → Nat → Int} {t1 t3 : Int} {col1 r1 c1 col3 r3 c3 : Nat → Int} (hmn : m ≤ n) (hb : ∀ i k, i < m → k < n → f i k ≤ 1000)
    (h1 : Sol m n f col1 r1 c1 t1) (h3 : PSol m n f 100000 col3 r3 c3 t3) : t3 = t1 := by
  have hno : ∀ i, i < m → col3 i ≠ -1 := fun i0 hi0 hc0 => by
    obtain ⟨k, hk, hfree⟩ := free_part hmn hi0 hc0
    have a := pbound_le (col := fun i => if i = i0 then (k : Int) else col3 i) h3.feas h3.cneg h3.rskip (fun i hi => by
      by_cases e : i = i0
      · right; simp only [e, if_pos]; omega
      · simp only [e, if_false]; exact h3.at_ i hi) (fun i j hi hj hn he => by
      by_cases e : i = i0
      · by_cases e' : j = i0
        · omega
        · simp only [e, e', if_true, if_false] at he
          exact absurd he.symm (hfree j hj)
      · by_cases e' : j = i0
        · simp only [e, e', if_true, if_false] at he
          exact absurd he (hfree i hi)
        · simp only [e, e', if_false] at he hn
          exact h3.inj i j hi hj hn he)
    have e : sm (fun i => if (if i = i0 then (k : Int) else col3 i) = -1 then 100000 else f i (if i = i0 then (k : Int) else col3 i).toNat) m
        = sm (fun i => (if col3 i = -1 then 100000 else f i (col3 i).toNat) + if i = i0 then (fun _ => f i0 k - 100000) i else 0) m := sm_congr fun i hi => by
      by_cases e : i = i0
      · subst e
        simp only [if_true, hc0]
        rw [if_neg (by omega), Int.toNat_natCast]
        omega
      · simp only [e, if_false]
        omega
    rw [e, sm_add, sm_one (f := fun _ => f i0 k - 100000) hi0, ← h3.total, h3.sum] at a
    have := hb i0 k hi0 hk
    omega
  have hat3 : ∀ i, i < m → 0 ≤ col3 i ∧ col3 i < n := fun i hi => (h3.at_ i hi).resolve_left (hno i hi)
  have a1 := bound_le h1.feas h1.cneg hat3 (fun i j hi hj he => h3.inj i j hi hj (hno i hi) he)
  have a3 := pbound_le h3.feas h3.cneg h3.rskip (fun i hi => .inr (h1.at_ i hi)) (fun i j hi hj _ he => h1.inj i j hi hj he)
  have e3 : t3 = sm (fun i => f i (col3 i).toNat) m := h3.total.trans (sm_congr fun i hi => if_neg (hno i hi))
  have e1 : sm (fun i => if col1 i = -1 then 100000 else f i (col1 i).toNat) m = t1 := (sm_congr fun i hi => if_neg (by have := h1.at_ i hi; omega)).trans h1.total.symm
  rw [h1.sum, ← e3] at a1
  rw [h3.sum, e1] at a3
  omega
end Go.Proofs.Ytojgfpnecdngfaa.Mt
