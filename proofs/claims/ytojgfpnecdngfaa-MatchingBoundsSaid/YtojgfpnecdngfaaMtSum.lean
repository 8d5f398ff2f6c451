/- Sums over rows and columns; the result of an assignment of all rows; no assignment has a total that is less than the bound of valid potentials. -/
import Derived.Test.YtojgfpnecdngfaaMtMath
namespace Go.Proofs.Ytojgfpnecdngfaa.Mt
/-- The sum of the first n. -/
def sm (f : Nat → Int) : Nat → Int
  | 0 => 0
  | n + 1 => sm f n + f n
theorem sm_congr {f g : Nat → Int} : ∀ {n : Nat}, (∀ i, i < n → f i = g i) → sm f n = sm g n
  | 0, _ => rfl
  | n + 1, h => by rw [sm, sm, sm_congr fun i hi => h i (by omega), h n (by omega)]
theorem sm_add (f g : Nat → Int) : ∀ n, sm (fun i => f i + g i) n = sm f n + sm g n
  | 0 => rfl
  | n + 1 => by rw [sm, sm, sm, sm_add f g n]; omega
theorem sm_sub (f g : Nat → Int) : ∀ n, sm (fun i => f i - g i) n = sm f n - sm g n
  | 0 => rfl
  | n + 1 => by rw [sm, sm, sm, sm_sub f g n]; omega
theorem sm_zero : ∀ n, sm (fun _ => 0) n = 0
  | 0 => rfl
  | n + 1 => by rw [sm, sm_zero n]; rfl
theorem sm_le {f g : Nat → Int} : ∀ {n : Nat}, (∀ i, i < n → f i ≤ g i) → sm f n ≤ sm g n
  | 0, _ => Int.le_refl _
  | n + 1, h => by
    have h1 := sm_le (n := n) fun i hi => h i (by omega)
    have h2 := h n (by omega)
    rw [sm, sm]; omega
theorem sm_swap (g : Nat → Nat → Int) (n : Nat) : ∀ m, sm (fun i => sm (fun k => g i k) n) m = sm (fun k => sm (fun i => g i k) m) n
  | 0 => by simp only [sm]; rw [sm_zero]
  | m + 1 => by
    simp only [sm]
    rw [sm_swap g n m, ← sm_add]
theorem sm_one {f : Nat → Int} {x : Nat} : ∀ {n : Nat}, x < n → sm (fun i => if i = x then f i else 0) n = f x
  | 0, h => by omega
  | n + 1, h => by
    rw [sm]
    by_cases e : n = x
    · subst e
      rw [if_pos rfl, sm_congr (g := fun _ => 0) fun i hi => if_neg (by omega), sm_zero]; omega
    · rw [if_neg e, sm_one (by omega)]; omega
theorem sm_none {f : Nat → Int} {p : Nat → Bool} {n : Nat} (h : ∀ i, i < n → p i = false) : sm (fun i => if p i = true then f i else 0) n = 0 := by
  rw [sm_congr (g := fun _ => 0) fun i hi => if_neg (by rw [h i hi]; decide), sm_zero]

/-- All rows have columns, with potentials that prove the total. -/
structure Sol (m n : Nat) (cost : Nat → Nat → Int) (col r c : Nat → Int) (tot : Int) : Prop where
  at_ : ∀ i, i < m → 0 ≤ col i ∧ col i < n
  inj : ∀ i j, i < m → j < m → col i = col j → i = j
  total : tot = sm (fun i => cost i (col i).toNat) m
  feas : ∀ i k, i < m → k < n → r i + c k ≤ cost i k
  cneg : ∀ k, k < n → c k ≤ 0
  sum : sm r m + sm c n = tot
  free : ∀ k, k < n → (∀ i, i < m → col i ≠ (k : Int)) → c k = 0
  tight : ∀ i, i < m → r i + c (col i).toNat = cost i (col i).toNat
  rb : ∀ i, i < m → -1000000000 ≤ r i ∧ r i ≤ 2000000000 * (m : Int)
  cb : ∀ k, k < n → -(2000000000 * (m : Int)) ≤ c k

/-- The columns of the rows, when the first k columns are seen, and the total. -/
def coX (o : Nat → Int) : Nat → Nat → Int
  | 0 => fun _ => 0
  | k + 1 => fun i => if o k ≠ -1 ∧ i = (o k).toNat then (k : Int) else coX o k i
def toX (cost : Nat → Nat → Int) (o : Nat → Int) : Nat → Int := sm fun k => if o k ≠ -1 then cost (o k).toNat k else 0
theorem coX_at {o : Nat → Int} {x : Nat} (hx : o x ≠ -1) : ∀ {k : Nat}, x < k → (∀ j, j < k → o j ≠ -1 → j ≠ x → (o j).toNat ≠ (o x).toNat) → coX o k (o x).toNat = (x : Int)
  | 0, h, _ => by omega
  | k + 1, h, hu => by
    show (if o k ≠ -1 ∧ _ then _ else _) = _
    by_cases e : x = k
    · subst e; rw [if_pos ⟨hx, rfl⟩]
    · rw [if_neg (fun h' => hu k (by omega) h'.1 (fun h => e h.symm) h'.2.symm)]
      exact coX_at hx (by omega) fun j hj => hu j (by omega)

theorem sol {cost : Nat → Nat → Int} {m n : Nat} {r c o : Nat → Int} (hI : Inv cost n m r c o) : Sol m n cost (coX o n) r c (toX cost o n) := by
  have hpos : ∀ k, k < n → o k ≠ -1 → 0 ≤ o k ∧ o k < m := fun k hk h => by
    rcases hI.own k hk with h1 | h1
    · exact absurd h1 h
    · exact h1
  have hcol : ∀ k, k < n → o k ≠ -1 → coX o n (o k).toNat = (k : Int) := fun k hk h =>
    coX_at h hk fun j hj hjo hne e => hne (hI.inj j k hj hk (hpos j hj hjo).1 (by have := hpos j hj hjo; have := hpos k hk h; omega))
  have hrow : ∀ i, i < m → ∃ k, k < n ∧ o k = (i : Int) ∧ coX o n i = (k : Int) := fun i hi => by
    obtain ⟨k, hk, hki⟩ := hI.sur i hi
    have := hcol k hk (by omega)
    rw [hki] at this
    exact ⟨k, hk, hki, this⟩
  have key : ∀ g : Nat → Nat → Int, sm (fun k => if o k ≠ -1 then g (o k).toNat k else 0) n = sm (fun i => g i (coX o n i).toNat) m := fun g => by
    have e1 : sm (fun k => if o k ≠ -1 then g (o k).toNat k else 0) n = sm (fun k => sm (fun i => if o k = (i : Int) then g i k else 0) m) n := by
      refine sm_congr fun k hk => ?_
      by_cases ho : o k = -1
      · rw [if_neg (fun h => h ho), sm_congr (g := fun _ => 0) (fun i _ => if_neg (by omega)), sm_zero]
      · have := hpos k hk ho
        rw [if_pos ho, sm_congr (g := fun i => if i = (o k).toNat then g i k else 0) (fun i _ => by
          by_cases e : o k = (i : Int)
          · rw [if_pos e, if_pos (by omega)]
          · rw [if_neg e, if_neg (by omega)])]
        exact (sm_one (f := fun i => g i k) (by omega)).symm
    rw [e1, ← sm_swap]
    refine sm_congr fun i hi => ?_
    obtain ⟨k, hk, hki, hc⟩ := hrow i hi
    rw [sm_congr (g := fun j => if j = k then g i j else 0) (fun j hj => by
      by_cases e : j = k
      · subst e; rw [if_pos hki, if_pos rfl]
      · rw [if_neg (fun h => e (hI.inj j k hj hk (by omega) (by omega))), if_neg e])]
    rw [sm_one (f := fun j => g i j) hk, hc, Int.toNat_natCast]
  have hc : ∀ k, k < n → c k = (if o k ≠ -1 then cost (o k).toNat k else 0) - (if o k ≠ -1 then r (o k).toNat else 0) := fun k hk => by
    by_cases ho : o k = -1
    · rw [if_neg (fun h => h ho), if_neg (fun h => h ho), hI.free k hk ho]; rfl
    · have h1 := hpos k hk ho
      have h2 := hI.tight (o k).toNat k hk (by omega)
      rw [if_pos ho, if_pos ho]; omega
  refine ⟨fun i hi => ?_, fun i j hi hj e => ?_, ?_, hI.feas, hI.cneg, ?_, fun k hk hx => ?_, fun i hi => ?_, hI.rb, hI.cb⟩
  · obtain ⟨k, hk, _, hc⟩ := hrow i hi
    omega
  · obtain ⟨k, hk, hki, h1⟩ := hrow i hi
    obtain ⟨l, hl, hlj, h2⟩ := hrow j hj
    have : k = l := by omega
    subst this
    omega
  · exact key cost
  · have h1 := key (fun i _ => r i)
    rw [sm_congr hc, sm_sub]
    unfold toX
    rw [h1]
    show sm r m + (_ - sm r m) = _
    omega
  · by_cases ho : o k = -1
    · exact hI.free k hk ho
    · have := hpos k hk ho
      exact absurd (hcol k hk ho) (hx (o k).toNat (by omega))
  · obtain ⟨k, hk, hki, h1⟩ := hrow i hi
    rw [h1, Int.toNat_natCast]
    exact hI.tight i k hk hki

/-- No assignment has less than the bound. -/
theorem bound_le {m n : Nat} {cost : Nat → Nat → Int} {r c col : Nat → Int} (hf : ∀ i k, i < m → k < n → r i + c k ≤ cost i k) (hc : ∀ k, k < n → c k ≤ 0)
    (hat : ∀ i, i < m → 0 ≤ col i ∧ col i < n) (hinj : ∀ i j, i < m → j < m → col i = col j → i = j) : sm r m + sm c n ≤ sm (fun i => cost i (col i).toNat) m := by
  have h1 : sm (fun i => r i + c (col i).toNat) m ≤ sm (fun i => cost i (col i).toNat) m := sm_le fun i hi => hf i _ hi (by have := hat i hi; omega)
  rw [sm_add] at h1
  have h2 : sm c n ≤ sm (fun i => c (col i).toNat) m := by
    have e1 : sm (fun i => c (col i).toNat) m = sm (fun i => sm (fun k => if k = (col i).toNat then c k else 0) n) m :=
      sm_congr fun i hi => (sm_one (f := c) (by have := hat i hi; omega)).symm
    rw [e1, sm_swap]
    refine sm_le fun k hk => ?_
    by_cases hx : ∃ i, i < m ∧ k = (col i).toNat
    · obtain ⟨i, hi, he⟩ := hx
      rw [sm_congr (g := fun j => if j = i then c k else 0) (fun j hj => by
        by_cases e : j = i
        · subst e; rw [if_pos he, if_pos rfl]
        · rw [if_neg (fun h => e (hinj j i hj hi (by have := hat i hi; have := hat j hj; omega))), if_neg e]), sm_one (f := fun _ => c k) hi]
      exact Int.le_refl _
    · rw [sm_congr (g := fun _ => 0) (fun i hi => if_neg (fun h => hx ⟨i, hi, h⟩)), sm_zero]
      exact hc k hk
  omega
end Go.Proofs.Ytojgfpnecdngfaa.Mt
