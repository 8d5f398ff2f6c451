/- What the walks of extend and raise leave is what the mathematics asks. -/
import Derived.Test.YtojgfpnecdngfaaMtE
import Derived.Test.YtojgfpnecdngfaaMtSl
namespace Go.Proofs.Ytojgfpnecdngfaa
open Go Go.RowKit

theorem filter_ltM {α : Type} {f f' : α → Bool} {e : α} : ∀ {l : List α}, (∀ j, f' j = true → f j = true) → f e = true → f' e = false → e ∈ l → (l.filter f').length < (l.filter f).length := by
  intro l
  induction l with
  | nil => intro _ _ _ h; cases h
  | cons x l ih =>
    intro h1 h2 h3 h4
    have hle : ∀ l : List α, (l.filter f').length ≤ (l.filter f).length := by
      intro l
      induction l with
      | nil => exact Nat.le_refl _
      | cons y l ih =>
        by_cases hy : f' y = true
        · rw [List.filter_cons_of_pos hy, List.filter_cons_of_pos (h1 y hy)]; simpa using ih
        · rw [List.filter_cons_of_neg hy]
          by_cases hy2 : f y = true
          · rw [List.filter_cons_of_pos hy2]; simp; omega
          · rw [List.filter_cons_of_neg hy2]; exact ih
    rcases List.mem_cons.1 h4 with rfl | h4
    · rw [List.filter_cons_of_neg (by rw [h3]; decide), List.filter_cons_of_pos h2]
      have := hle l
      simp; omega
    · have := ih h1 h2 h3 h4
      by_cases hy : f' x = true
      · rw [List.filter_cons_of_pos hy, List.filter_cons_of_pos (h1 x hy)]; simpa using this
      · rw [List.filter_cons_of_neg hy]
        by_cases hy2 : f x = true
        · rw [List.filter_cons_of_pos hy2]; simp; omega
        · rw [List.filter_cons_of_neg hy2]; exact this

/-- How many cells of a row of bools are false. -/
def unk (g n : Nat) (W : World) : Nat := ((List.range n).filter fun j => match W.cell? ⟨g, j, none⟩ with | some (.bool false) => true | _ => false).length
theorem unk_eq {W : World} {g n : Nat} {kn : Nat → Bool} (h : BR W g n kn) : unk g n W = ((List.range n).filter fun j => !kn j).length := by
  unfold unk
  congr 1
  apply List.filter_congr
  intro j hj
  rw [h.cell (List.mem_range.1 hj)]
  cases kn j <;> rfl
theorem unk_lt {W W' : World} {g n e : Nat} {Ks : List Nat} (h : BR W g n (fun j => decide (j ∈ Ks))) (h' : BR W' g n (fun j => decide (j ∈ e :: Ks))) (he : e < n) (hk : e ∉ Ks) : unk g n W' < unk g n W := by
  rw [unk_eq h, unk_eq h']
  refine filter_ltM (e := e) (fun j hj => ?_) (by simp [hk]) (by simp) (List.mem_range.2 he)
  simp only [Bool.not_eq_true', decide_eq_false_iff_not] at hj ⊢
  exact fun h => hj (List.mem_cons_of_mem _ h)

theorem ex_step {cost : Nat → Nat → Int} {n t e : Nat} {r c o d b : Nat → Int} {Ks : List Nat} {kn : Nat → Bool} {st : Int} (hI : Mt.Inv cost n t r c o) (h : Mt.Dij cost n t r c o Ks d b)
    (he : e < n) (hk : e ∉ Ks) (ho : o e ≠ -1) (hmin : ∀ k, k < n → k ∉ Ks → d e ≤ d k) (hkn : ∀ k, k < n → kn k = decide (k ∈ e :: Ks)) (hst : st = - r (o e).toNat + d e) :
    Mt.Dij cost n t r c o (e :: Ks) (exD kn (fun k => st + cost (o e).toNat k - c k) d n) (exB kn (fun k => st + cost (o e).toNat k - c k) d b (e : Int) n) := by
  have hn : ∀ k, k ∈ e :: Ks → k < n := fun k hk => by
    rcases List.mem_cons.1 hk with rfl | h1
    · exact he
    · exact (h.ks k h1).1
  refine Mt.Dij.step hI h he hk ho hmin (fun k hkn' hm => ?_) (fun k hm => ?_)
  · have hf : kn k = false := by rw [hkn k hkn']; exact decide_eq_false hm
    by_cases hlt : st + cost (o e).toNat k - c k < d k
    · refine .inl ?_
      unfold exD exB
      rw [if_pos ⟨hkn', hf, hlt⟩, if_pos ⟨hkn', hf, hlt⟩]
      exact ⟨by show st + cost (o e).toNat k - c k = _; omega, rfl, hlt⟩
    · refine .inr ?_
      unfold exD exB
      rw [if_neg (fun h => hlt h.2.2), if_neg (fun h => hlt h.2.2)]
      exact ⟨rfl, rfl, by omega⟩
  · have ht : kn k = true := by rw [hkn k (hn k hm)]; exact decide_eq_true hm
    unfold exD exB
    rw [if_neg (fun h => by rw [ht] at h; exact absurd h.2.1 (by decide)), if_neg (fun h => by rw [ht] at h; exact absurd h.2.1 (by decide))]
    exact ⟨rfl, rfl⟩

theorem ex_start {cost : Nat → Nat → Int} {n t : Nat} {r c o d b : Nat → Int} {kn : Nat → Bool} {st : Int} (hI : Mt.Inv cost n t r c o) (hc : ∀ k, k < n → -1000000000 ≤ cost t k ∧ cost t k ≤ 1000000000)
    (hd : ∀ k, k < n → d k = 9223372036854775807) (hkn : ∀ k, k < n → kn k = false) (hst : st = 0) (ht : t ≤ 1000) :
    Mt.Dij cost n t r c o [] (exD kn (fun k => st + cost t k - c k) d n) (exB kn (fun k => st + cost t k - c k) d b (-1) n) := by
  have hlt : ∀ k, k < n → st + cost t k - c k < d k := fun k hk => by
    rw [hd k hk]
    have := hc k hk
    have := hI.cb k hk
    omega
  refine Mt.Dij.start hI (fun k hk => (hc k hk).1) (fun k hk => ?_) (fun k hk => ?_)
  · unfold exD; rw [if_pos ⟨hk, hkn k hk, hlt k hk⟩]; show st + cost t k - c k = _; omega
  · unfold exB; rw [if_pos ⟨hk, hkn k hk, hlt k hk⟩]

theorem raR_off {row : Nat} {kn : Nat → Bool} {o d : Nat → Int} {L : Int} {r : Nat → Int} {i : Nat} : ∀ {K : Nat}, (∀ k, k < K → kn k = true → (o k).toNat ≠ i) → raR row kn o d L r K i = raR row kn o d L r 0 i
  | 0, _ => rfl
  | K + 1, h => by
    show (if kn K = true ∧ i = (o K).toNat then _ else _) = _
    rw [if_neg (fun h' => h K (by omega) h'.1 h'.2.symm)]
    exact raR_off fun k hk => h k (by omega)
theorem raR_on {row : Nat} {kn : Nat → Bool} {o d : Nat → Int} {L : Int} {r : Nat → Int} {b : Nat} (hb : kn b = true) : ∀ {K : Nat}, b < K → (∀ k, k < K → kn k = true → k ≠ b → (o k).toNat ≠ (o b).toNat) →
    raR row kn o d L r K (o b).toNat = raR row kn o d L r 0 (o b).toNat + (L - d b)
  | 0, h, _ => by omega
  | K + 1, h, hu => by
    by_cases e : b = K
    · subst e
      show (if kn b = true ∧ (o b).toNat = (o b).toNat then _ else _) = _
      rw [if_pos ⟨hb, rfl⟩, raR_off fun k hk hkn => hu k (by omega) hkn (by omega)]
    · show (if kn K = true ∧ (o b).toNat = (o K).toNat then _ else _) = _
      rw [if_neg (fun h' => hu K (by omega) h'.1 (fun h => e h.symm) h'.2.symm)]
      exact raR_on hb (by omega) fun k hk => hu k (by omega)

theorem ra_uniq {cost : Nat → Nat → Int} {n t : Nat} {r c o : Nat → Int} (hI : Mt.Inv cost n t r c o) {k b : Nat} (hk : k < n) (hb : b < n) (h0 : 0 ≤ o k) (h1 : 0 ≤ o b) (h : k ≠ b) : (o k).toNat ≠ (o b).toNat :=
  fun e => h (hI.inj k b hk hb h0 (by omega))
theorem raised {cost : Nat → Nat → Int} {n t e : Nat} {r c o d b : Nat → Int} {Ks : List Nat} {kn : Nat → Bool} (hI : Mt.Inv cost n t r c o) (h : Mt.Dij cost n t r c o Ks d b)
    (hkn : ∀ k, k < n → kn k = decide (k ∈ Ks)) (hr : r t = 0) : Mt.Raised n t e r c o Ks d (raR t kn o d (d e) r n) (raC kn d (d e) c n) := by
  have hK : ∀ k, k < n → kn k = true → k ∈ Ks := fun k hk h => by rw [hkn k hk] at h; exact of_decide_eq_true h
  have hm : ∀ k, k ∈ Ks → kn k = true := fun k hk => by rw [hkn k (h.ks k hk).1]; exact decide_eq_true hk
  have hot : ∀ k, k < n → kn k = true → o k < t ∧ 0 ≤ o k := fun k hk hkk => by
    have h0 := (h.ks k (hK k hk hkk)).2
    rcases hI.own k hk with h1 | h1 <;> omega
  refine ⟨?_, fun x hx => ?_, fun i hi hx => ?_, fun k hk => ?_, fun k hk hx => ?_⟩
  · rw [raR_off (fun k hk hkk => by have := hot k hk hkk; omega)]
    show (if t = t then r t + d e else r t) = _
    rw [if_pos rfl, hr]; omega
  · have hxn := (h.ks x hx).1
    rw [raR_on (hm x hx) hxn (fun k hk hkk hne => ra_uniq hI hk hxn (hot k hk hkk).2 (h.ks x hx).2 hne)]
    show (if (o x).toNat = t then _ else _) + _ = _
    rw [if_neg (by have := hot x hxn (hm x hx); omega)]
  · rw [raR_off (fun k hk hkk => fun e' => hx k (hK k hk hkk) (by have := hot k hk hkk; omega))]
    show (if i = t then _ else _) = _
    rw [if_neg (by omega)]
  · unfold raC; rw [if_pos ⟨(h.ks k hk).1, hm k hk⟩]
  · unfold raC; rw [if_neg (fun h' => hx (hK k hk h'.2))]
theorem raR_at {cost : Nat → Nat → Int} {n t : Nat} {r c o d b : Nat → Int} {Ks : List Nat} {kn : Nat → Bool} {L : Int} (hI : Mt.Inv cost n t r c o) (h : Mt.Dij cost n t r c o Ks d b)
    (hkn : ∀ k, k < n → kn k = decide (k ∈ Ks)) {k : Nat} (hk : k < n) (hkk : kn k = true) : raR t kn o d L r k (o k).toNat = r (o k).toNat := by
  have hK : ∀ k, k < n → kn k = true → k ∈ Ks := fun k hk h => by rw [hkn k hk] at h; exact of_decide_eq_true h
  have h0 := (h.ks k (hK k hk hkk)).2
  rw [raR_off (fun j hj hjk => ra_uniq hI (by omega) hk (h.ks j (hK j (by omega) hjk)).2 h0 (by omega))]
  show (if (o k).toNat = t then _ else _) = _
  rw [if_neg (by rcases hI.own k hk with h1 | h1 <;> omega)]
/-- Rows beyond the assigned ones are as they were. -/
theorem raR_beyond {cost : Nat → Nat → Int} {n t : Nat} {r c o d b : Nat → Int} {Ks : List Nat} {kn : Nat → Bool} {L : Int} (hI : Mt.Inv cost n t r c o) (h : Mt.Dij cost n t r c o Ks d b)
    (hkn : ∀ k, k < n → kn k = decide (k ∈ Ks)) {i : Nat} (hi : t < i) : raR t kn o d L r n i = r i := by
  rw [raR_off (fun k hk hkk => by
    rw [hkn k hk] at hkk
    have h0 := (h.ks k (of_decide_eq_true hkk)).2
    rcases hI.own k hk with h1 | h1 <;> omega)]
  show (if i = t then _ else _) = _
  rw [if_neg (by omega)]

theorem nodup_mapM {α β : Type} {f : α → β} : ∀ {l : List α}, (∀ x, x ∈ l → ∀ y, y ∈ l → f x = f y → x = y) → l.Nodup → (l.map f).Nodup
  | [], _, _ => List.nodup_nil
  | x :: l, h, hn => by
    rw [List.map_cons, List.nodup_cons]
    refine ⟨fun hm => ?_, nodup_mapM (fun a ha b hb => h a (List.mem_cons_of_mem _ ha) b (List.mem_cons_of_mem _ hb)) (List.nodup_cons.1 hn).2⟩
    obtain ⟨y, hy, he⟩ := List.mem_map.1 hm
    have := h y (List.mem_cons_of_mem _ hy) x (List.mem_cons_self ..) he
    subst this
    exact (List.nodup_cons.1 hn).1 hy
/-- Some column has no row yet. -/
theorem free_col {cost : Nat → Nat → Int} {n t : Nat} {r c o : Nat → Int} (hI : Mt.Inv cost n t r c o) (h : t < n) : ∃ k, k < n ∧ o k = -1 := by
  by_cases hx : ∃ k, k < n ∧ o k = -1
  · exact hx
  · exfalso
    have h0 : ∀ k, k < n → 0 ≤ o k ∧ o k < t := fun k hk => by
      rcases hI.own k hk with h1 | h1
      · exact absurd ⟨k, hk, h1⟩ hx
      · exact h1
    have hl := Mt.length_le_of_nodup t ((List.range n).map fun k => (o k).toNat) (nodup_mapM (fun x hx y hy e => by
      have hx := h0 x (List.mem_range.1 hx)
      have hy' := h0 y (List.mem_range.1 hy)
      exact hI.inj x y (List.mem_range.1 ‹x ∈ List.range n›) (List.mem_range.1 hy) hx.1 (by omega)) List.nodup_range) (fun x hx => by
      obtain ⟨k, hk, rfl⟩ := List.mem_map.1 hx
      have := h0 k (List.mem_range.1 hk)
      omega)
    simp at hl
    omega
/-- The measure of the second loop: how much of the chain is left. -/
def left2 (LL : List Nat) (v : Int) : Nat := if v < 0 then 0 else LL.length - LL.idxOf v.toNat
theorem idx_at {pre l : List Nat} {e : Nat} (hnd : (pre ++ e :: l).Nodup) : (pre ++ e :: l).idxOf e = pre.length := by
  rw [List.idxOf_append]
  have : e ∉ pre := fun h => (List.nodup_append.1 hnd).2.2 e h e (List.mem_cons_self ..) rfl
  rw [if_neg this]
  simp
theorem left2_lt {LL : List Nat} {e b : Nat} (hnd : LL.Nodup) {pre l pre' l' : List Nat} (h1 : LL = pre ++ e :: l) (h2 : LL = pre' ++ b :: l') (hl : l'.length < l.length) : left2 LL (b : Int) < left2 LL (e : Int) := by
  unfold left2
  rw [if_neg (by omega), if_neg (by omega), Int.toNat_natCast, Int.toNat_natCast]
  have e1 : LL.idxOf e = pre.length := by rw [h1] at hnd ⊢; exact idx_at hnd
  have e2 : LL.idxOf b = pre'.length := by rw [h2] at hnd ⊢; exact idx_at hnd
  have s1 : LL.length = pre.length + (l.length + 1) := by rw [h1]; simp
  have s2 : LL.length = pre'.length + (l'.length + 1) := by rw [h2]; simp
  omega
theorem left2_pos {LL : List Nat} {e : Nat} (h : e ∈ LL) : left2 LL (-1) < left2 LL (e : Int) := by
  unfold left2
  rw [if_pos (by omega), if_neg (by omega), Int.toNat_natCast]
  have := List.idxOf_lt_length_of_mem h
  omega
end Go.Proofs.Ytojgfpnecdngfaa
