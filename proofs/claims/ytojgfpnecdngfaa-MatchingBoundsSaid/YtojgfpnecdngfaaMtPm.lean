/- Partial assignments: what a whole assignment with further columns is worth. -/
import Derived.Test.YtojgfpnecdngfaaMtSum
namespace Go.Proofs.Ytojgfpnecdngfaa.Mt
/-- Rows have columns, or are skipped at a cost, with potentials that prove the total. -/
structure PSol (m n : Nat) (cost : Nat → Nat → Int) (skip : Int) (col r c : Nat → Int) (tot : Int) : Prop where
  at_ : ∀ i, i < m → col i = -1 ∨ (0 ≤ col i ∧ col i < n)
  inj : ∀ i j, i < m → j < m → col i ≠ -1 → col i = col j → i = j
  total : tot = sm (fun i => if col i = -1 then skip else cost i (col i).toNat) m
  feas : ∀ i k, i < m → k < n → r i + c k ≤ cost i k
  cneg : ∀ k, k < n → c k ≤ 0
  rskip : ∀ i, i < m → r i ≤ skip
  sum : sm r m + sm c n = tot
  rb : ∀ i, i < m → -1000000000 ≤ r i ∧ r i ≤ 2000000000 * (m : Int)
  cb : ∀ k, k < n → -(2000000000 * (m : Int)) ≤ c k

theorem free_of {m n : Nat} {col : Nat → Int} (hinj : ∀ i j, i < m → j < m → col i = col j → i = j) : ∃ k, n ≤ k ∧ k < n + m + 1 ∧ ∀ i, i < m → col i ≠ (k : Int) := by
  by_cases hx : ∃ k, n ≤ k ∧ k < n + m + 1 ∧ ∀ i, i < m → col i ≠ (k : Int)
  · exact hx
  · exfalso
    have h0 : ∀ k, n ≤ k → k < n + m + 1 → ∃ i, i < m ∧ col i = (k : Int) := fun k h1 h2 => by
      by_cases h3 : ∃ i, i < m ∧ col i = (k : Int)
      · exact h3
      · exact absurd ⟨k, h1, h2, fun i hi e => h3 ⟨i, hi, e⟩⟩ hx
    have hch : ∀ M, M ≤ m + 1 → ∃ l : List Nat, l.Nodup ∧ l.length = M ∧ ∀ x, x ∈ l → x < m ∧ ∃ k, n ≤ k ∧ k < n + M ∧ col x = (k : Int) := by
      intro M
      induction M with
      | zero => exact fun _ => ⟨[], List.nodup_nil, rfl, fun x hx => by cases hx⟩
      | succ M ih =>
        intro hM
        obtain ⟨l, h1, h2, h3⟩ := ih (by omega)
        obtain ⟨i, hi, hc⟩ := h0 (n + M) (by omega) (by omega)
        refine ⟨i :: l, List.nodup_cons.2 ⟨fun hm => ?_, h1⟩, by simp [h2], fun x hx => ?_⟩
        · obtain ⟨_, k, _, hk, hkc⟩ := h3 i hm
          omega
        · rcases List.mem_cons.1 hx with rfl | hx
          · exact ⟨hi, n + M, by omega, by omega, hc⟩
          · obtain ⟨a, k, b, c, d⟩ := h3 x hx
            exact ⟨a, k, b, by omega, d⟩
    obtain ⟨l, h1, h2, h3⟩ := hch (m + 1) (Nat.le_refl _)
    have := length_le_of_nodup m l h1 (fun x hx => (h3 x hx).1)
    omega
theorem sm_ext {c : Nat → Int} {n : Nat} : ∀ d, (∀ k, n ≤ k → k < n + d → c k = 0) → sm c (n + d) = sm c n
  | 0, _ => rfl
  | d + 1, h => by
    rw [← Nat.add_assoc, sm, sm_ext d (fun k h1 h2 => h k h1 (by omega)), h (n + d) (by omega) (by omega)]; omega

theorem psol {m n N : Nat} {cost wc : Nat → Nat → Int} {skip : Int} {col r c : Nat → Int} {tot : Int} (hN : N = if m = 0 then 0 else n + m + 1) (h0 : m = 0 → n = 0) (hs : Sol m N wc col r c tot)
    (hw : ∀ i, i < m → ∀ k, k < N → wc i k = if k < n then cost i k else skip) : PSol m n cost skip (fun i => if (n : Int) ≤ col i then -1 else col i) r c tot := by
  by_cases hm : m = 0
  · have hn := h0 hm
    subst hm hn
    rw [if_pos rfl] at hN
    subst hN
    exact ⟨fun i hi => by omega, fun i j hi => by omega, hs.total, fun i k hi => by omega, fun k hk => by omega, fun i hi => by omega, hs.sum, fun i hi => by omega, fun k hk => by omega⟩
  rw [if_neg hm] at hN
  subst hN
  obtain ⟨k0, hk1, hk2, hk3⟩ := free_of (n := n) hs.inj
  have hc0 := hs.free k0 hk2 hk3
  have hrs : ∀ i, i < m → r i ≤ skip := fun i hi => by
    have := hs.feas i k0 hi hk2
    rw [hw i hi k0 hk2, if_neg (by omega)] at this
    omega
  have hce : ∀ k, n ≤ k → k < n + (m + 1) → c k = 0 := fun k h1 h2 => by
    by_cases hx : ∃ i, i < m ∧ col i = (k : Int)
    · obtain ⟨i, hi, he⟩ := hx
      have ht := hs.tight i hi
      rw [he, Int.toNat_natCast, hw i hi k (by omega), if_neg (by omega)] at ht
      have := hrs i hi
      have := hs.cneg k (by omega)
      omega
    · exact hs.free k (by omega) (fun i hi e => hx ⟨i, hi, e⟩)
  refine ⟨fun i hi => ?_, fun i j hi hj hne he => ?_, ?_, fun i k hi hk => ?_, fun k hk => hs.cneg k (by omega), hrs, ?_, hs.rb, fun k hk => hs.cb k (by omega)⟩
  · have := hs.at_ i hi
    by_cases h : (n : Int) ≤ col i
    · rw [if_pos h]; exact .inl rfl
    · rw [if_neg h]; right; omega
  · have a1 := hs.at_ i hi
    have a2 := hs.at_ j hj
    by_cases h : (n : Int) ≤ col i
    · rw [if_pos h] at hne; exact absurd rfl hne
    · rw [if_neg h] at he
      by_cases h' : (n : Int) ≤ col j
      · rw [if_pos h'] at he; omega
      · rw [if_neg h'] at he; exact hs.inj i j hi hj he
  · rw [hs.total]
    refine sm_congr fun i hi => ?_
    have a1 := hs.at_ i hi
    rw [hw i hi _ (by omega)]
    by_cases h : (n : Int) ≤ col i
    · rw [if_neg (by omega)]; simp only [if_pos h, if_true]
    · rw [if_pos (by omega)]
      simp only [if_neg h]
      rw [if_neg (by omega)]
  · have := hs.feas i k hi (by omega)
    rw [hw i hi k (by omega), if_pos hk] at this
    exact this
  · rw [← hs.sum, ← sm_ext (c := c) (n := n) (m + 1) hce]
    rfl

/-- No partial assignment has less than the bound. -/
theorem pbound_le {m n : Nat} {cost : Nat → Nat → Int} {skip : Int} {r c col : Nat → Int} (hf : ∀ i k, i < m → k < n → r i + c k ≤ cost i k) (hc : ∀ k, k < n → c k ≤ 0) (hr : ∀ i, i < m → r i ≤ skip)
    (hat : ∀ i, i < m → col i = -1 ∨ (0 ≤ col i ∧ col i < n)) (hinj : ∀ i j, i < m → j < m → col i ≠ -1 → col i = col j → i = j) : sm r m + sm c n ≤ sm (fun i => if col i = -1 then skip else cost i (col i).toNat) m := by
  have h1 : sm (fun i => r i + (if col i = -1 then 0 else c (col i).toNat)) m ≤ sm (fun i => if col i = -1 then skip else cost i (col i).toNat) m := sm_le fun i hi => by
    by_cases h : col i = -1
    · rw [if_pos h, if_pos h]; have := hr i hi; omega
    · rw [if_neg h, if_neg h]; exact hf i _ hi (by have := hat i hi; omega)
  rw [sm_add] at h1
  have h2 : sm c n ≤ sm (fun i => if col i = -1 then 0 else c (col i).toNat) m := by
    have e1 : sm (fun i => if col i = -1 then 0 else c (col i).toNat) m = sm (fun i => sm (fun k => if col i = (k : Int) then c k else 0) n) m :=
      sm_congr fun i hi => by
        by_cases h : col i = -1
        · rw [if_pos h, sm_congr (g := fun _ => 0) (fun k _ => if_neg (by omega)), sm_zero]
        · have := hat i hi
          rw [if_neg h, sm_congr (g := fun k => if k = (col i).toNat then c k else 0) (fun k _ => by
            by_cases e : col i = (k : Int)
            · rw [if_pos e, if_pos (by omega)]
            · rw [if_neg e, if_neg (by omega)])]
          exact (sm_one (f := c) (by omega)).symm
    rw [e1, sm_swap]
    refine sm_le fun k hk => ?_
    by_cases hx : ∃ i, i < m ∧ col i = (k : Int)
    · obtain ⟨i, hi, he⟩ := hx
      rw [sm_congr (g := fun j => if j = i then c k else 0) (fun j hj => by
        by_cases e : j = i
        · subst e; rw [if_pos he, if_pos rfl]
        · rw [if_neg (fun h => e (hinj j i hj hi (by omega) (by omega))), if_neg e]), sm_one (f := fun _ => c k) hi]
      exact Int.le_refl _
    · rw [sm_congr (g := fun _ => 0) (fun i hi => if_neg (fun h => hx ⟨i, hi, h⟩)), sm_zero]
      exact hc k hk
  omega
end Go.Proofs.Ytojgfpnecdngfaa.Mt
