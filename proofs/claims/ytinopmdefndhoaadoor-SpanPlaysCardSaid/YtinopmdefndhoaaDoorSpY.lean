/- Two hands can hold a set in any way at all exactly if a division does: the mathematics of SpanCrosses. -/
import Derived.Test.YtinopmdefndhoaaDoorSpX
namespace Go.Proofs.YtinopmdefndhoaaDoor
open Go Go.RowKit Go.Shelf

theorem inc_ge (l : List Nat) (h : l.Pairwise (· < ·)) : ∀ j (hj : j < l.length), j ≤ l[j] := by
  intro j
  induction j with
  | zero => intro _; exact Nat.zero_le _
  | succ j ih =>
    intro hj
    have h1 := ih (by omega)
    have h2 := List.pairwise_iff_getElem.1 h j (j + 1) (by omega) hj (by omega)
    omega
theorem inc_le (n : Nat) (l : List Nat) (h : l.Pairwise (· < ·)) (hb : ∀ x, x ∈ l → x < n) : ∀ d j (hj : j < l.length), j + d + 1 = l.length → l[j] + d + 1 ≤ n := by
  intro d
  induction d with
  | zero => intro j hj _; have := hb _ (List.getElem_mem hj); omega
  | succ d ih =>
    intro j hj he
    have h1 := ih (j + 1) (by omega) (by omega)
    have h2 := List.pairwise_iff_getElem.1 h j (j + 1) hj (by omega) (by omega)
    omega
theorem inc_mono (l : List Nat) (h : l.Pairwise (· < ·)) (i j : Nat) (hj : j < l.length) (hij : i ≤ j) : l[i]'(by omega) ≤ l[j] := by
  rcases Nat.lt_or_eq_of_le hij with k | rfl
  · exact Nat.le_of_lt (List.pairwise_iff_getElem.1 h i j (by omega) hj k)
  · exact Nat.le_refl _

/-- The places whose bit is b. -/
def selI (k b n : Nat) : List Nat := (List.range n).filter fun i => decide (k / 2 ^ i % 2 = b)
theorem selI_inc (k b n : Nat) : (selI k b n).Pairwise (· < ·) := List.Pairwise.filter _ List.pairwise_lt_range
theorem selI_mem (k b n i : Nat) : i ∈ selI k b n ↔ i < n ∧ k / 2 ^ i % 2 = b := by simp [selI]
theorem selI_length (k n : Nat) : (selI k 1 n).length + (selI k 0 n).length = n := by
  unfold selI
  induction n with
  | zero => rfl
  | succ n ih =>
    rw [List.range_succ, List.filter_append, List.filter_append, List.length_append, List.length_append]
    have : k / 2 ^ n % 2 = 0 ∨ k / 2 ^ n % 2 = 1 := by omega
    rcases this with h | h <;> simp [h] <;> omega
theorem selL_map (F : Nat → Nat) (k b n : Nat) : selL F k b n = (selI k b n).map F := rfl
theorem nth_map (F : Nat → Nat) (l : List Nat) (j : Nat) (hj : j < l.length) : nth (l.map F) j = ((F l[j] : Nat) : Int) := by
  unfold nth
  rw [List.getD_eq_getElem?_getD, List.getElem?_eq_getElem (by simpa using hj)]
  simp
/-- The half that holds the first place: a division of as many notes. -/
theorem div_of_split (F : Nat → Nat) (n : Nat) (a b : Int) (A B : List Nat) (hm : ∀ i j, i ≤ j → j < n → F i ≤ F j) (hn : 0 < n) (hA : A.Pairwise (· < ·)) (hB : B.Pairwise (· < ·))
    (bA : ∀ x, x ∈ A → x < n) (bB : ∀ x, x ∈ B → x < n) (h0 : 0 ∈ A) (hl : n - 1 ∈ A ∨ n - 1 ∈ B) (hs : A.length + B.length = n)
    (kA : holdX (nth (A.map F)) A.length a b = true) (kB : holdX (nth (B.map F)) B.length a b = true) : divB (fun i => ((F i : Nat) : Int)) n a b A.length = true := by
  obtain ⟨z, hz, hz0⟩ := List.getElem_of_mem h0
  have hA0 : A[0]'(by omega) = 0 := by have := inc_mono A hA 0 z hz (by omega); omega
  simp only [holdX, Bool.and_eq_true, Bool.or_eq_true, decide_eq_true_eq] at kA kB
  obtain ⟨kA1, kA2⟩ := kA
  obtain ⟨kB1, kB2⟩ := kB
  have hAl : 0 < A.length := by omega
  have kA3 := kA2.resolve_left (by omega)
  rw [nth_map F A _ (by omega), nth_map F A 0 hAl, hA0] at kA3
  have hlast := inc_ge A hA (A.length - 1) (by omega)
  have hlb := bA _ (List.getElem_mem (show A.length - 1 < A.length by omega))
  have g1 := hm _ _ hlast hlb
  simp only [divB, holdX, Bool.and_eq_true, Bool.or_eq_true, decide_eq_true_eq]
  refine ⟨⟨kA1, .inr (by omega)⟩, by omega, ?_⟩
  by_cases hB0 : B.length = 0
  · exact .inl (by omega)
  refine .inr ?_
  have kB3 := kB2.resolve_left hB0
  rw [nth_map F B _ (by omega), nth_map F B 0 (by omega)] at kB3
  have e1 : A.length + (n - A.length - 1) = n - 1 := by omega
  rw [e1]
  rcases hl with h | h
  · obtain ⟨y, hy, hy1⟩ := List.getElem_of_mem h
    have h5 := inc_mono A hA y (A.length - 1) (by omega) (by omega)
    have g2 := hm _ _ (show n - 1 ≤ A[A.length - 1]'(by omega) by omega) hlb
    have g3 := hm 0 (A.length + 0) (by omega) (by omega)
    omega
  · obtain ⟨y, hy, hy1⟩ := List.getElem_of_mem h
    have h5 := inc_mono B hB y (B.length - 1) (by omega) (by omega)
    have hlb2 := bB _ (List.getElem_mem (show B.length - 1 < B.length by omega))
    have g2 := hm _ _ (show n - 1 ≤ B[B.length - 1]'(by omega) by omega) hlb2
    have h6 := inc_le n B hB bB (B.length - 1) 0 (by omega) (by omega)
    have g3 := hm (B[0]'(by omega)) (A.length + 0) (by omega) (by omega)
    omega
theorem divB_swap_len (F : Nat → Nat) (n : Nat) (a b : Int) (t : Nat) (h : divB (fun i => ((F i : Nat) : Int)) n a b t = true) (ht : t ≤ n) : 0 < (divU (fun i => ((F i : Nat) : Int)) n a b (n + 1)).length := by
  have : t ∈ divU (fun i => ((F i : Nat) : Int)) n a b (n + 1) := List.mem_filter.2 ⟨by simp; omega, h⟩
  exact List.length_pos_of_mem this
theorem bit_pred (t i : Nat) : (2 ^ t - 1) / 2 ^ i % 2 = if i < t then 1 else 0 := by
  have h := Nat.testBit_two_pow_sub_one t i
  rw [Nat.testBit_eq_decide_div_mod_eq] at h
  by_cases k : i < t
  · simp [k] at h; rw [if_pos k]; exact h
  · simp [k] at h; rw [if_neg k]; omega
theorem selI_low (n t : Nat) (ht : t ≤ n) : selI (2 ^ t - 1) 1 n = List.range t ∧ selI (2 ^ t - 1) 0 n = List.range' t (n - t) := by
  unfold selI
  have e : List.range n = List.range t ++ List.range' t (n - t) := by
    have h := (List.range'_append_1 (s := 0) (m := t) (n := n - t)).symm
    rw [Nat.zero_add, show t + (n - t) = n by omega] at h
    rw [List.range_eq_range', List.range_eq_range']
    exact h
  rw [e, List.filter_append, List.filter_append]
  have f1 : ∀ b, (List.range t).filter (fun i => decide ((2 ^ t - 1) / 2 ^ i % 2 = b)) = if b = 1 then List.range t else [] := fun b => by
    by_cases hb : b = 1
    · rw [if_pos hb]
      exact List.filter_eq_self.2 fun i hi => by rw [bit_pred, if_pos (List.mem_range.1 hi)]; simp [hb]
    · rw [if_neg hb]
      exact List.filter_eq_nil_iff.2 fun i hi => by rw [bit_pred, if_pos (List.mem_range.1 hi)]; simp; omega
  have f2 : ∀ b, (List.range' t (n - t)).filter (fun i => decide ((2 ^ t - 1) / 2 ^ i % 2 = b)) = if b = 0 then List.range' t (n - t) else [] := fun b => by
    have hi2 : ∀ i, i ∈ List.range' t (n - t) → ¬ i < t := fun i hi => by have := List.mem_range'_1.1 hi; omega
    by_cases hb : b = 0
    · rw [if_pos hb]
      exact List.filter_eq_self.2 fun i hi => by rw [bit_pred, if_neg (hi2 i hi)]; simp [hb]
    · rw [if_neg hb]
      exact List.filter_eq_nil_iff.2 fun i hi => by rw [bit_pred, if_neg (hi2 i hi)]; simp; omega
  rw [f1, f1, f2, f2]
  simp
theorem holdX_congr (X Y : Nat → Int) (n : Nat) (k wd : Int) (h : ∀ j, j < n → X j = Y j) : holdX X n k wd = holdX Y n k wd := by
  unfold holdX
  by_cases h0 : n = 0
  · subst h0; simp
  · rw [h 0 (by omega), h (n - 1) (by omega)]
/-- P11.2: in any way at all, exactly if there is a division. -/
theorem any_iff_div (F : Nat → Nat) (n : Nat) (a b : Int) (hm : ∀ i j, i ≤ j → j < n → F i ≤ F j) : anyS F n a b (2 ^ n) = decide (0 < (divU (fun i => ((F i : Nat) : Int)) n a b (n + 1)).length) := by
  rw [Bool.eq_iff_iff, decide_eq_true_eq]
  constructor
  · intro h
    obtain ⟨k, hk, hb⟩ := List.any_eq_true.1 h
    simp only [Bool.and_eq_true] at hb
    obtain ⟨k1, k2⟩ := hb
    unfold splA splB at *
    rw [selL_map, List.length_map] at k1 k2
    by_cases hn : n = 0
    · subst hn
      refine divB_swap_len F 0 a b 0 ?_ (by omega)
      have h1 : (0 : Int) ≤ a := by simp [holdX, selI] at k1; exact of_decide_eq_true k1
      simp [divB, holdX, h1]
    · have hs := selI_length k n
      have b0 : k / 2 ^ 0 % 2 = 0 ∨ k / 2 ^ 0 % 2 = 1 := by omega
      have b1 : k / 2 ^ (n - 1) % 2 = 0 ∨ k / 2 ^ (n - 1) % 2 = 1 := by omega
      have m0 : ∀ b, k / 2 ^ 0 % 2 = b → 0 ∈ selI k b n := fun b h => (selI_mem k b n 0).2 ⟨by omega, h⟩
      have m1 : ∀ b, k / 2 ^ (n - 1) % 2 = b → n - 1 ∈ selI k b n := fun b h => (selI_mem k b n (n - 1)).2 ⟨by omega, h⟩
      have bd : ∀ b x, x ∈ selI k b n → x < n := fun b x h => ((selI_mem k b n x).1 h).1
      rcases b0 with b0 | b0
      · exact divB_swap_len F n a b _ (div_of_split F n a b (selI k 0 n) (selI k 1 n) hm (by omega) (selI_inc k 0 n) (selI_inc k 1 n) (bd 0) (bd 1) (m0 0 b0) (b1.imp (m1 0) (m1 1)) (by omega) k2 k1) (by omega)
      · exact divB_swap_len F n a b _ (div_of_split F n a b (selI k 1 n) (selI k 0 n) hm (by omega) (selI_inc k 1 n) (selI_inc k 0 n) (bd 1) (bd 0) (m0 1 b0) (b1.symm.imp (m1 1) (m1 0)) hs k1 k2) (by omega)
  · intro h
    obtain ⟨t, ht⟩ := List.exists_mem_of_length_pos h
    obtain ⟨h1, h2⟩ := List.mem_filter.1 ht
    simp at h1
    simp only [divB, Bool.and_eq_true] at h2
    obtain ⟨s1, s0⟩ := selI_low n t (by omega)
    refine List.any_eq_true.2 ⟨2 ^ t - 1, List.mem_range.2 ?_, ?_⟩
    · have := Nat.pow_le_pow_right (show 0 < 2 by omega) (show t ≤ n by omega)
      have := Nat.pow_pos (n := t) (show 0 < 2 by omega)
      omega
    · simp only [Bool.and_eq_true]
      unfold splA splB
      rw [selL_map, selL_map, s1, s0]
      simp only [List.length_map, List.length_range, List.length_range']
      refine ⟨?_, ?_⟩
      · rw [holdX_congr _ (fun i => ((F i : Nat) : Int)) t a b (fun j hj => by rw [nth_map F _ j (by simpa using hj)]; simp)]
        exact h2.1
      · rw [holdX_congr _ (fun j => ((F (t + j) : Nat) : Int)) (n - t) a b (fun j hj => by rw [nth_map F _ j (by simpa using hj)]; simp)]
        exact h2.2
end Go.Proofs.YtinopmdefndhoaaDoor
