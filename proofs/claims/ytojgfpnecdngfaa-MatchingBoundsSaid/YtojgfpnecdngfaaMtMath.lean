/- Assignments with least costs: ways to the columns, potentials, and how the rows move on: plain mathematics. -/
namespace Go.Proofs.Ytojgfpnecdngfaa.Mt
/-- Each column of a list is behind the row itself, or behind a later one of the list. -/
def Chain (Bf : Nat → Int) : List Nat → Prop
  | [] => True
  | k :: l => (Bf k = -1 ∨ ∃ b, b ∈ l ∧ Bf k = (b : Int)) ∧ Chain Bf l
theorem Chain.tail {Bf : Nat → Int} : ∀ {pre l : List Nat}, Chain Bf (pre ++ l) → Chain Bf l
  | [], _, h => h
  | _ :: pre, _, h => Chain.tail (pre := pre) h.2
theorem Chain.congr {Bf Bf' : Nat → Int} : ∀ {l : List Nat}, (∀ b, b ∈ l → Bf' b = Bf b) → Chain Bf l → Chain Bf' l
  | [], _, _ => trivial
  | k :: l, h, hc => by
    refine ⟨?_, Chain.congr (fun b hb => h b (List.mem_cons_of_mem _ hb)) hc.2⟩
    rw [h k (List.mem_cons_self ..)]
    exact hc.1

/-- The first t rows are assigned, with potentials that prove it. -/
structure Inv (cost : Nat → Nat → Int) (n t : Nat) (r c o : Nat → Int) : Prop where
  own : ∀ k, k < n → o k = -1 ∨ (0 ≤ o k ∧ o k < t)
  inj : ∀ k l, k < n → l < n → 0 ≤ o k → o k = o l → k = l
  sur : ∀ i : Nat, i < t → ∃ k, k < n ∧ o k = (i : Int)
  feas : ∀ i k, i < t → k < n → r i + c k ≤ cost i k
  tight : ∀ i k : Nat, k < n → o k = (i : Int) → r i + c k = cost i k
  cneg : ∀ k, k < n → c k ≤ 0
  free : ∀ k, k < n → o k = -1 → c k = 0
  rb : ∀ i, i < t → -1000000000 ≤ r i ∧ r i ≤ 2000000000 * (t : Int)
  cb : ∀ k, k < n → -(2000000000 * (t : Int)) ≤ c k

/-- Ways to the columns from the row t; those in the list are known. -/
structure Dij (cost : Nat → Nat → Int) (n t : Nat) (r c o : Nat → Int) (Ks : List Nat) (D Bf : Nat → Int) : Prop where
  ks : ∀ b, b ∈ Ks → b < n ∧ 0 ≤ o b
  nd : Ks.Nodup
  via : ∀ k, k < n → (Bf k = -1 ∧ D k = cost t k - c k) ∨ ∃ b, b ∈ Ks ∧ Bf k = (b : Int) ∧ D k = D b + cost (o b).toNat k - r (o b).toNat - c k
  dir : ∀ k, k < n → D k ≤ cost t k - c k
  rel : ∀ b, b ∈ Ks → ∀ k, k < n → D k ≤ D b + cost (o b).toNat k - r (o b).toNat - c k
  ord : ∀ b, b ∈ Ks → ∀ k, k < n → k ∉ Ks → D b ≤ D k
  low : ∀ k, k < n → -1000000000 ≤ D k
  ch : Chain Bf Ks

theorem Dij.start {cost : Nat → Nat → Int} {n t : Nat} {r c o D Bf : Nat → Int} (hI : Inv cost n t r c o) (hc : ∀ k, k < n → -1000000000 ≤ cost t k)
    (hD : ∀ k, k < n → D k = cost t k - c k) (hB : ∀ k, k < n → Bf k = -1) : Dij cost n t r c o [] D Bf where
  ks := fun b hb => by cases hb
  nd := List.nodup_nil
  via := fun k hk => .inl ⟨hB k hk, hD k hk⟩
  dir := fun k hk => by rw [hD k hk]; exact Int.le_refl _
  rel := fun b hb => by cases hb
  ord := fun b hb => by cases hb
  low := fun k hk => by have := hI.cneg k hk; have := hc k hk; rw [hD k hk]; omega
  ch := trivial

theorem length_le_of_nodup : ∀ (n : Nat) (l : List Nat), l.Nodup → (∀ x, x ∈ l → x < n) → l.length ≤ n := by
  intro n
  induction n with
  | zero =>
    intro l _ h
    cases l with
    | nil => exact Nat.le_refl _
    | cons a l => exact absurd (h a (List.mem_cons_self ..)) (by omega)
  | succ n ih =>
    intro l hn h
    have h1 : (l.erase n).length ≤ n := ih (l.erase n) (hn.erase n) (fun x hx => by
      have hm := (hn.mem_erase_iff).1 hx
      have := h x hm.2
      have := hm.1
      omega)
    by_cases hm : n ∈ l
    · rw [List.length_erase_of_mem hm] at h1; omega
    · rw [List.erase_of_not_mem hm] at h1; omega

/-- The next column is known, and the ways go on from its row. -/
theorem Dij.step {cost : Nat → Nat → Int} {n t e : Nat} {r c o : Nat → Int} {Ks : List Nat} {D Bf D' Bf' : Nat → Int} (hI : Inv cost n t r c o) (h : Dij cost n t r c o Ks D Bf)
    (he : e < n) (hk : e ∉ Ks) (ho : o e ≠ -1) (hmin : ∀ k, k < n → k ∉ Ks → D e ≤ D k)
    (hup : ∀ k, k < n → k ∉ e :: Ks → (D' k = D e - r (o e).toNat + cost (o e).toNat k - c k ∧ Bf' k = (e : Int) ∧ D' k < D k) ∨ (D' k = D k ∧ Bf' k = Bf k ∧ D k ≤ D e - r (o e).toNat + cost (o e).toNat k - c k))
    (hst : ∀ k, k ∈ e :: Ks → D' k = D k ∧ Bf' k = Bf k) : Dij cost n t r c o (e :: Ks) D' Bf' := by
  have h0 : 0 ≤ o e ∧ o e < t := by rcases hI.own e he with h | h; exact absurd h ho; exact h
  have hle : ∀ k, k < n → D' k ≤ D k := fun k hkn => by
    by_cases hm : k ∈ e :: Ks
    · rw [(hst k hm).1]; exact Int.le_refl _
    · rcases hup k hkn hm with h | h <;> omega
  have hrc : ∀ b, b ∈ e :: Ks → ∀ k, k < n → r (o b).toNat + c k ≤ cost (o b).toNat k := fun b hb k hkn => by
    have hb' : b < n ∧ 0 ≤ o b := by
      rcases List.mem_cons.1 hb with rfl | hb
      · exact ⟨he, h0.1⟩
      · exact h.ks b hb
    have : o b < t := by rcases hI.own b hb'.1 with h | h <;> omega
    exact hI.feas (o b).toNat k (by omega) hkn
  have hge : ∀ k, k < n → k ∉ Ks → D e ≤ D' k := fun k hkn hm => by
    by_cases hm' : k ∈ e :: Ks
    · have : k = e := by
        rcases List.mem_cons.1 hm' with h | h
        · exact h
        · exact absurd h hm
      subst this
      rw [(hst k hm').1]; exact Int.le_refl _
    · have := hrc e (List.mem_cons_self ..) k hkn
      have := hmin k hkn hm
      rcases hup k hkn hm' with h | h <;> omega
  refine ⟨?_, ?_, ?_, ?_, ?_, ?_, ?_, ?_⟩
  · intro b hb
    rcases List.mem_cons.1 hb with rfl | hb
    · exact ⟨he, h0.1⟩
    · exact h.ks b hb
  · exact List.nodup_cons.2 ⟨hk, h.nd⟩
  · intro k hkn
    by_cases hm : k ∈ e :: Ks
    · rcases h.via k hkn with h1 | ⟨b, hb, h1, h2⟩
      · exact .inl ⟨(hst k hm).2.trans h1.1, (hst k hm).1.trans h1.2⟩
      · exact .inr ⟨b, List.mem_cons_of_mem _ hb, (hst k hm).2.trans h1, by rw [(hst k hm).1, (hst b (List.mem_cons_of_mem _ hb)).1]; exact h2⟩
    · rcases hup k hkn hm with h1 | h1
      · exact .inr ⟨e, List.mem_cons_self .., h1.2.1, by rw [(hst e (List.mem_cons_self ..)).1]; omega⟩
      · rcases h.via k hkn with h2 | ⟨b, hb, h2, h3⟩
        · exact .inl ⟨h1.2.1.trans h2.1, h1.1.trans h2.2⟩
        · exact .inr ⟨b, List.mem_cons_of_mem _ hb, h1.2.1.trans h2, by rw [h1.1, (hst b (List.mem_cons_of_mem _ hb)).1]; exact h3⟩
  · intro k hkn
    exact Int.le_trans (hle k hkn) (h.dir k hkn)
  · intro b hb k hkn
    rcases List.mem_cons.1 hb with rfl | hb'
    · rw [(hst b hb).1]
      have hrcb := hrc b hb k hkn
      by_cases hm : k ∈ b :: Ks
      · rw [(hst k hm).1]
        rcases List.mem_cons.1 hm with rfl | hm
        · omega
        · have := h.ord k hm b he hk
          omega
      · rcases hup k hkn hm with h1 | h1 <;> omega
    · rw [(hst b hb).1]
      exact Int.le_trans (hle k hkn) (h.rel b hb' k hkn)
  · intro b hb k hkn hm
    have hm' : k ∉ Ks := fun h => hm (List.mem_cons_of_mem _ h)
    rw [(hst b hb).1]
    rcases List.mem_cons.1 hb with rfl | hb'
    · exact hge k hkn hm'
    · have := h.ord b hb' e he hk
      have := hge k hkn hm'
      omega
  · intro k hkn
    by_cases hm : k ∈ Ks
    · rw [(hst k (List.mem_cons_of_mem _ hm)).1]; exact h.low k hkn
    · have := hge k hkn hm
      have := h.low e he
      omega
  · refine ⟨?_, ?_⟩
    · rw [(hst e (List.mem_cons_self ..)).2]
      rcases h.via e he with h1 | ⟨b, hb, h1, _⟩
      · exact .inl h1.1
      · exact .inr ⟨b, hb, h1⟩
    · exact h.ch.congr fun b hb => (hst b (List.mem_cons_of_mem _ hb)).2

/-- What the potentials become, where the shortest way to a free column is found. -/
structure Raised (n t e : Nat) (r c o : Nat → Int) (Ks : List Nat) (D r' c' : Nat → Int) : Prop where
  row : r' t = D e
  own : ∀ b, b ∈ Ks → r' (o b).toNat = r (o b).toNat + (D e - D b)
  oth : ∀ i : Nat, i < t → (∀ b, b ∈ Ks → o b ≠ (i : Int)) → r' i = r i
  kn : ∀ k, k ∈ Ks → c' k = c k - (D e - D k)
  un : ∀ k, k < n → k ∉ Ks → c' k = c k

/-- All rows up to t but for the column e, which is still to be assigned. -/
structure Flip (cost : Nat → Nat → Int) (n t : Nat) (r c o0 Bf : Nat → Int) (LL : List Nat) (e : Nat) (o : Nat → Int) : Prop where
  suf : ∃ pre l, LL = pre ++ e :: l ∧ ∀ b, b ∈ l → o b = o0 b
  own : ∀ k, k < n → k ≠ e → o k = -1 ∨ (0 ≤ o k ∧ o k < t)
  inj : ∀ k l, k < n → l < n → k ≠ e → l ≠ e → 0 ≤ o k → o k = o l → k = l
  sur : ∀ i : Nat, i < t → ∃ k, k < n ∧ k ≠ e ∧ o k = (i : Int)
  tight : ∀ i k : Nat, k < n → k ≠ e → o k = (i : Int) → r i + c k = cost i k
  free : ∀ k, k < n → k ≠ e → o k = -1 → c k = 0
  lt : e < n

/-- What stands when the potentials are raised: all but the assignment of the row t. -/
structure Ready (cost : Nat → Nat → Int) (n t : Nat) (r c o Bf : Nat → Int) (LL : List Nat) : Prop where
  nd : LL.Nodup
  ll : ∀ b, b ∈ LL → b < n
  ch : Chain Bf LL
  pt : ∀ x, x ∈ LL → (Bf x = -1 → r t + c x = cost t x) ∧ ∀ b : Nat, b ∈ LL → Bf x = (b : Int) → ∀ i : Nat, o b = (i : Int) → r i + c x = cost i x
  feas : ∀ i k, i < t + 1 → k < n → r i + c k ≤ cost i k
  cneg : ∀ k, k < n → c k ≤ 0
  rb : ∀ i, i < t + 1 → -1000000000 ≤ r i ∧ r i ≤ 2000000000 * ((t : Int) + 1)
  cb : ∀ k, k < n → -(2000000000 * ((t : Int) + 1)) ≤ c k
  pos : ∀ b, b ∈ LL.tail → 0 ≤ o b

theorem ready {cost : Nat → Nat → Int} {n t e : Nat} {r c o r' c' : Nat → Int} {Ks : List Nat} {D Bf : Nat → Int} (hI : Inv cost n t r c o) (h : Dij cost n t r c o Ks D Bf)
    (he : e < n) (hk : e ∉ Ks) (ho : o e = -1) (hmin : ∀ k, k < n → k ∉ Ks → D e ≤ D k) (hR : Raised n t e r c o Ks D r' c') (hc : cost t e ≤ 1000000000) :
    Ready cost n t r' c' o Bf (e :: Ks) ∧ Flip cost n t r' c' o Bf (e :: Ks) e o := by
  have hL : D e ≤ 1000000000 := by have := h.dir e he; have := hI.free e he ho; omega
  have hLo := h.low e he
  have hDb : ∀ b, b ∈ Ks → D b ≤ D e ∧ -1000000000 ≤ D b := fun b hb => ⟨h.ord b hb e he hk, h.low b (h.ks b hb).1⟩
  have hob : ∀ b, b ∈ Ks → ∃ i : Nat, i < t ∧ o b = (i : Int) := fun b hb => by
    obtain ⟨h1, h2⟩ := h.ks b hb
    rcases hI.own b h1 with h3 | h3
    · omega
    · exact ⟨(o b).toNat, by omega, by omega⟩
  have hcl : ∀ k, k < n → c' k ≤ c k ∧ c k - 2000000000 ≤ c' k := fun k hkn => by
    by_cases hm : k ∈ Ks
    · rw [hR.kn k hm]; have := hDb k hm; omega
    · rw [hR.un k hkn hm]; omega
  have hrow : ∀ i, i < t → (∃ b, b ∈ Ks ∧ o b = (i : Int) ∧ r' i = r i + (D e - D b)) ∨ ((∀ b, b ∈ Ks → o b ≠ (i : Int)) ∧ r' i = r i) := fun i hi => by
    by_cases hx : ∃ b, b ∈ Ks ∧ o b = (i : Int)
    · obtain ⟨b, hb, hx⟩ := hx
      have := hR.own b hb
      rw [hx] at this
      exact .inl ⟨b, hb, hx, this⟩
    · have hx' : ∀ b, b ∈ Ks → o b ≠ (i : Int) := fun b hb hx' => hx ⟨b, hb, hx'⟩
      exact .inr ⟨hx', hR.oth i hi hx'⟩
  have tight' : ∀ i k : Nat, k < n → k ≠ e → o k = (i : Int) → r' i + c' k = cost i k := fun i k hkn hke hok => by
    have hit : i < t := by rcases hI.own k hkn with h | h <;> omega
    have ht := hI.tight i k hkn hok
    rcases hrow i hit with ⟨b, hb, h1, h2⟩ | ⟨h1, h2⟩
    · have : k = b := hI.inj k b hkn (h.ks b hb).1 (by omega) (by omega)
      subst this
      rw [h2, hR.kn k hb]; omega
    · have hm : k ∉ Ks := fun hm => h1 k hm hok
      rw [h2, hR.un k hkn hm]; exact ht
  refine ⟨⟨List.nodup_cons.2 ⟨hk, h.nd⟩, ?_, ⟨?_, h.ch⟩, ?_, ?_, ?_, ?_, ?_, ?_⟩, ⟨⟨[], Ks, rfl, fun _ _ => rfl⟩, fun k hkn _ => hI.own k hkn, fun k l hkn hl _ _ => hI.inj k l hkn hl, ?_, tight', ?_, he⟩⟩
  · intro b hb
    rcases List.mem_cons.1 hb with rfl | hb
    · exact he
    · exact (h.ks b hb).1
  · rcases h.via e he with h1 | ⟨b, hb, h1, _⟩
    · exact .inl h1.1
    · exact .inr ⟨b, hb, h1⟩
  · intro x hx
    have hxn : x < n := by
      rcases List.mem_cons.1 hx with rfl | hx
      · exact he
      · exact (h.ks x hx).1
    have hcx : c' x = c x - (D e - D x) := by
      rcases List.mem_cons.1 hx with rfl | hx
      · rw [hR.un x he hk]; omega
      · exact hR.kn x hx
    refine ⟨fun hb => ?_, fun b hb hbx i hi => ?_⟩
    · rcases h.via x hxn with h1 | ⟨b, _, h1, _⟩
      · rw [hR.row, hcx]; omega
      · omega
    · rcases h.via x hxn with h1 | ⟨b', hb', h1, h2⟩
      · omega
      · have : b' = b := by omega
        subst this
        have h3 := hR.own b' hb'
        rw [hi] at h3 h2
        have h4 : ((i : Int)).toNat = i := by omega
        rw [h4] at h3 h2
        rw [h3, hcx]; omega
  · intro i k hi hkn
    have hk' := hcl k hkn
    by_cases hit : i = t
    · subst hit
      rw [hR.row]
      have hd := h.dir k hkn
      by_cases hm : k ∈ Ks
      · rw [hR.kn k hm]; omega
      · have := hmin k hkn hm
        rw [hR.un k hkn hm]; omega
    · have hf := hI.feas i k (by omega) hkn
      rcases hrow i (by omega) with ⟨b, hb, h1, h2⟩ | ⟨h1, h2⟩
      · have h3 := h.rel b hb k hkn
        rw [h1] at h3
        have h4 : ((i : Int)).toNat = i := by omega
        rw [h4] at h3
        rw [h2]
        by_cases hm : k ∈ Ks
        · rw [hR.kn k hm]; omega
        · have := hmin k hkn hm
          rw [hR.un k hkn hm]; omega
      · rw [h2]; omega
  · intro k hkn
    have := hI.cneg k hkn
    have := hcl k hkn
    omega
  · intro i hi
    by_cases hit : i = t
    · subst hit
      rw [hR.row]; omega
    · have hb := hI.rb i (by omega)
      rcases hrow i (by omega) with ⟨b, hb', h1, h2⟩ | ⟨h1, h2⟩
      · have := hDb b hb'
        rw [h2]; omega
      · rw [h2]; omega
  · intro k hkn
    have := hI.cb k hkn
    have := hcl k hkn
    omega
  · intro b hb
    exact (h.ks b hb).2
  · intro i hi
    obtain ⟨k, hkn, hki⟩ := hI.sur i hi
    exact ⟨k, hkn, fun h => by subst h; omega, hki⟩
  · intro k hkn hke hok
    have hm : k ∉ Ks := fun hm => by have := (h.ks k hm).2; omega
    rw [hR.un k hkn hm]
    exact hI.free k hkn hok

/-- The row's own column is assigned. -/
theorem Flip.last {cost : Nat → Nat → Int} {n t e : Nat} {r c o0 Bf : Nat → Int} {LL : List Nat} {o o' : Nat → Int} (hr : Ready cost n t r c o0 Bf LL) (h : Flip cost n t r c o0 Bf LL e o)
    (hB : Bf e = -1) (he : o' e = (t : Int)) (ho : ∀ k, k < n → k ≠ e → o' k = o k) : Inv cost n (t + 1) r c o' := by
  obtain ⟨pre, l, hl, _⟩ := h.suf
  have hm : e ∈ LL := by rw [hl]; simp
  refine ⟨?_, ?_, ?_, ?_, ?_, hr.cneg, ?_, fun i hi => by have := hr.rb i hi; push_cast; exact this, fun k hk => by have := hr.cb k hk; push_cast; exact this⟩
  · intro k hk
    by_cases hke : k = e
    · subst hke; right; rw [he]; omega
    · rw [ho k hk hke]
      rcases h.own k hk hke with h1 | h1
      · exact .inl h1
      · right; omega
  · intro k j hk hj h0 hkj
    by_cases hke : k = e <;> by_cases hje : j = e
    · omega
    · subst hke
      rw [he, ho j hj hje] at hkj
      rcases h.own j hj hje with h1 | h1 <;> omega
    · subst hje
      rw [he, ho k hk hke] at hkj
      rcases h.own k hk hke with h1 | h1 <;> omega
    · rw [ho k hk hke] at hkj h0
      rw [ho j hj hje] at hkj
      exact h.inj k j hk hj hke hje h0 hkj
  · intro i hi
    by_cases hit : i = t
    · subst hit; exact ⟨e, h.lt, he⟩
    · obtain ⟨k, hk, hke, hki⟩ := h.sur i (by omega)
      exact ⟨k, hk, by rw [ho k hk hke]; exact hki⟩
  · intro i k hi hk
    exact hr.feas i k hi hk
  · intro i k hk hki
    by_cases hke : k = e
    · subst hke
      rw [he] at hki
      have : i = t := by omega
      subst this
      exact (hr.pt k hm).1 hB
    · rw [ho k hk hke] at hki
      exact h.tight i k hk hke hki
  · intro k hk hki
    by_cases hke : k = e
    · subst hke; rw [he] at hki; omega
    · rw [ho k hk hke] at hki
      exact h.free k hk hke hki

/-- The row of the column before moves on to this one. -/
theorem Flip.next {cost : Nat → Nat → Int} {n t e : Nat} {r c o0 Bf : Nat → Int} {LL : List Nat} {o o' : Nat → Int} (hr : Ready cost n t r c o0 Bf LL) (h : Flip cost n t r c o0 Bf LL e o)
    (hB : Bf e ≠ -1) (he : ∀ b : Nat, Bf e = (b : Int) → o' e = o b) (ho : ∀ k, k < n → k ≠ e → o' k = o k) :
    ∃ b : Nat, Bf e = (b : Int) ∧ b < n ∧ b ≠ e ∧ Flip cost n t r c o0 Bf LL b o' ∧ ∃ pre l, LL = pre ++ e :: l ∧ ∃ pre' l', LL = pre' ++ b :: l' ∧ l'.length < l.length := by
  obtain ⟨pre, l, hl, hlo⟩ := h.suf
  have hm : e ∈ LL := by rw [hl]; simp
  have hch : Chain Bf (e :: l) := by have := hr.ch; rw [hl] at this; exact this.tail
  obtain ⟨b, hb, hbe⟩ : ∃ b, b ∈ l ∧ Bf e = (b : Int) := by rcases hch.1 with h1 | h1; exact absurd h1 hB; exact h1
  have hnd : (e :: l).Nodup := by have := hr.nd; rw [hl] at this; exact (List.nodup_append.1 this).2.1
  have hel : e ∉ l := (List.nodup_cons.1 hnd).1
  have hbe' : b ≠ e := fun h => by subst h; exact hel hb
  have hbL : b ∈ LL := by rw [hl]; simp [hb]
  have hbn : b < n := hr.ll b hbL
  have hee := he b hbe
  obtain ⟨l1, l2, hl12⟩ := List.append_of_mem hb
  have hob : o b = o0 b := hlo b hb
  have h0b : 0 ≤ o0 b := hr.pos b (by
    cases pre with
    | nil => rw [hl]; exact hb
    | cons p pre => rw [hl]; simp [hb])
  have hbo := h.own b hbn hbe'
  have hel1 : ∀ x, x ∈ l → x ≠ e := fun x hx h => by subst h; exact hel hx
  have hnl : b ∉ l2 := by
    have := (List.nodup_cons.1 hnd).2
    rw [hl12] at this
    exact (List.nodup_cons.1 (List.nodup_append.1 this).2.1).1
  refine ⟨b, hbe, hbn, hbe', ⟨⟨pre ++ e :: l1, l2, by rw [hl, hl12]; simp, ?_⟩, ?_, ?_, ?_, ?_, ?_, hbn⟩, pre, l, hl, pre ++ e :: l1, l2, by rw [hl, hl12]; simp, by rw [hl12]; simp; omega⟩
  · intro x hx
    have hxl : x ∈ l := by rw [hl12]; simp [hx]
    have hxn : x < n := hr.ll x (by rw [hl]; simp [hxl])
    rw [ho x hxn (hel1 x hxl)]
    exact hlo x hxl
  · intro k hk hkb
    by_cases hke : k = e
    · subst hke; rw [hee]; exact hbo
    · rw [ho k hk hke]; exact h.own k hk hke
  · intro k j hk hj hkb hjb h0 hkj
    by_cases hke : k = e <;> by_cases hje : j = e
    · omega
    · subst hke
      rw [hee, ho j hj hje] at hkj
      exact absurd (h.inj b j hbn hj hbe' hje (by omega) hkj) (fun h => hjb h.symm)
    · subst hje
      rw [hee, ho k hk hke] at hkj
      exact absurd (h.inj b k hbn hk hbe' hke (by omega) hkj.symm) (fun h => hkb h.symm)
    · rw [ho k hk hke] at hkj h0
      rw [ho j hj hje] at hkj
      exact h.inj k j hk hj hke hje h0 hkj
  · intro i hi
    obtain ⟨k, hk, hke, hki⟩ := h.sur i hi
    by_cases hkb : k = b
    · subst hkb
      exact ⟨e, h.lt, fun h => hbe' h.symm, by rw [hee]; exact hki⟩
    · exact ⟨k, hk, hkb, by rw [ho k hk hke]; exact hki⟩
  · intro i k hk hkb hki
    by_cases hke : k = e
    · subst hke
      rw [hee, hob] at hki
      exact (hr.pt k hm).2 b hbL hbe i hki
    · rw [ho k hk hke] at hki
      exact h.tight i k hk hke hki
  · intro k hk hkb hki
    by_cases hke : k = e
    · subst hke; rw [hee, hob] at hki; omega
    · rw [ho k hk hke] at hki
      exact h.free k hk hke hki
end Go.Proofs.Ytojgfpnecdngfaa.Mt
