/- The statements' walks over the package itself: divisions, crossed hands. -/
import Derived.Test.YtinopmdefndhoaaDoorSpKn
import Derived.Test.YtinopmdefndhoaaDoorSpV
import Derived.Test.YtinopmdefndhoaaDoorSpY
import Derived.Test.YtinopmdefndhoaaDoorSpM
namespace Go.Proofs.YtinopmdefndhoaaDoor
open Go Go.RowKit Go.Shelf

theorem nth_nat (L : List Nat) (j : Nat) : (nth L j).toNat = L.getD j 0 := by unfold nth; simp
theorem ofW_take (L : List Nat) (t : Nat) (ht : t ≤ L.length) : ofW (nth L) 0 t = ofN (L.take t) := by
  unfold ofW
  congr 1
  refine List.ext_getElem (by simp; omega) fun k h1 h2 => ?_
  simp only [List.getElem_map, List.getElem_range, nth_nat, List.getElem_take]
  rw [List.getD_eq_getElem?_getD, List.getElem?_eq_getElem (by simp at h1; omega)]
  simp
theorem ofW_drop (L : List Nat) (t : Nat) : ofW (nth L) t (L.length - t) = ofN (L.drop t) := by
  unfold ofW
  congr 1
  refine List.ext_getElem (by simp) fun k h1 h2 => ?_
  simp only [List.getElem_map, List.getElem_range, nth_nat, List.getElem_drop]
  rw [List.getD_eq_getElem?_getD, List.getElem?_eq_getElem (by simp at h1; omega)]
  simp
theorem divU_mem (X : Nat → Int) (n : Nat) (a b : Int) (t : Nat) (h : t ∈ divU X n a b (n + 1)) : t ≤ n := by
  have := List.mem_range'_1.1 (List.mem_filter.1 h).1
  omega

theorem divides_law (a b c d : Int) (lo hi : Nat) (hl : lo < 18446744073709551616) (hh : hi < 18446744073709551616) (w : World) (G : Gl w) :
    Calls Tryd.prog 6 #[.agg #[.int .i64 a, .int .i64 b, .int .i64 c, .int .i64 d], .agg #[.int .u64 lo, .int .u64 hi]] w fun e w' => e = .returned (.bool true) ∧ Below w.heap.size w w' := by
  refine divides_walk a b c d lo hi hl hh w G known_all (Ns.notes lo hi).length (divU (nth (Ns.notes lo hi)) (Ns.notes lo hi).length a b ((Ns.notes lo hi).length + 1)).length (nth (Ns.notes lo hi))
    (fun i => (divU (nth (Ns.notes lo hi)) (Ns.notes lo hi).length a b ((Ns.notes lo hi).length + 1)).getD i 0) rfl rfl rfl (fun _ => rfl) (fun hx W g => ?_) (fun hx hm W g => ?_) (fun hx hm W g => ?_)
  · refine (all_ok a b c d lo hi hl hh hx W g).mono ?_
    rintro e w' ⟨⟨v, rfl, base, hrow, hnil⟩, hb⟩
    refine ⟨⟨v, rfl, ?_⟩, hb⟩
    have hle : ∀ i, i < (divU (nth (Ns.notes lo hi)) (Ns.notes lo hi).length a b ((Ns.notes lo hi).length + 1)).length → (divU (nth (Ns.notes lo hi)) (Ns.notes lo hi).length a b ((Ns.notes lo hi).length + 1)).getD i 0 ≤ (Ns.notes lo hi).length := fun i hi => by
      rw [List.getD_eq_getElem?_getD, List.getElem?_eq_getElem hi]
      exact divU_mem _ _ _ _ _ (List.getElem_mem hi)
    rcases prs_of hrow hnil with h | ⟨g, cap, h1, h2, h3, h4⟩
    · exact .inl h
    · refine .inr ⟨g, cap, h1, h2, h3, fun i hi => ?_⟩
      have h := h4 i hi
      simp only []
      rw [ofW_take _ _ (hle i hi), ofW_drop]
      exact h
  · rcases hT : divU (nth (Ns.notes lo hi)) (Ns.notes lo hi).length a b ((Ns.notes lo hi).length + 1) with _ | ⟨t, T⟩
    · rw [hT] at hm; exact absurd rfl hm
    · have ht : t ≤ (Ns.notes lo hi).length := divU_mem _ _ _ _ _ (by rw [hT]; simp)
      simp only [List.getD_cons_zero]
      rw [ofW_take _ _ ht, ofW_drop]
      exact two_ok a b c d lo hi _ _ _ _ true hx W g (fun X gx => first_cons a b c d lo hi (chk_b hx) hl hh t T hT X gx)
  · have hT : divU (nth (Ns.notes lo hi)) (Ns.notes lo hi).length a b ((Ns.notes lo hi).length + 1) = [] := List.length_eq_zero_iff.1 hm
    exact two_ok a b c d lo hi 0 0 0 0 false hx W g (fun X gx => first_nil a b c d lo hi (chk_b hx) hl hh hT X gx)

theorem nth_mono2 (lo hi : Nat) : ∀ i j, i ≤ j → j < (Ns.notes lo hi).length → nth (Ns.notes lo hi) i ≤ nth (Ns.notes lo hi) j := by
  intro i j hij hj
  have h := notes_inc lo hi
  unfold nth
  rw [List.getD_eq_getElem?_getD, List.getD_eq_getElem?_getD, List.getElem?_eq_getElem hj, List.getElem?_eq_getElem (by omega : i < _)]
  simp only [Option.getD_some]
  rcases Nat.lt_or_ge i j with k | k
  · have := List.pairwise_iff_getElem.1 h i j (by omega) hj k
    omega
  · have : i = j := by omega
    subst this
    omega

/-- Two, whatever it finds. -/
theorem two_any (a b c d : Int) (lo hi : Nat) (hl : lo < 18446744073709551616) (hh : hi < 18446744073709551616) (hx : chk a b c d = 0) : ∃ x1 x2 y1 y2 : Nat, ∀ W, Gl W →
    Calls Tryd.prog 17 #[.agg #[.int .i64 a, .int .i64 b, .int .i64 c, .int .i64 d], .agg #[.int .u64 lo, .int .u64 hi]] W fun e w' => e = .returned (.tuple #[.agg #[.int .u64 x1, .int .u64 x2], .agg #[.int .u64 y1, .int .u64 y2], .bool (fndU (nth (Ns.notes lo hi)) (Ns.notes lo hi).length a b), .int .i64 0]) ∧ Below W.heap.size W w' := by
  obtain ⟨x1, x2, y1, y2, h⟩ := first_b a b c d lo hi (chk_b hx) hl hh
  exact ⟨x1, x2, y1, y2, fun W g => two_ok a b c d lo hi x1 x2 y1 y2 _ hx W g h⟩

theorem crosses_law (a b c d : Int) (pb pq : Nat) (hpb : pb < 256) (hpq : pq < 65536) (w : World) (G : Gl w) :
    Calls Tryd.prog 7 #[.agg #[.int .i64 a, .int .i64 b, .int .i64 c, .int .i64 d], .agg #[.int .u8 pb, .int .u16 pq]] w fun e w' => e = .returned (.bool true) ∧ Below w.heap.size w w' := by
  have h128 : ∀ x, x ∈ mkL pb pq 16 → x < 128 := fun x hx => by
    unfold mkL at hx
    obtain ⟨i, hi, rfl⟩ := List.mem_map.1 hx
    have := (List.mem_filter.1 hi).2
    simp at this
    omega
  obtain ⟨hl, hh⟩ := ofN_lt _ h128
  have hX : nth (Ns.notes (ofN (mkL pb pq 16)).1 (ofN (mkL pb pq 16)).2) = fun i => (((Ns.notes (ofN (mkL pb pq 16)).1 (ofN (mkL pb pq 16)).2).getD i 0 : Nat) : Int) := rfl
  refine crosses_walk a b c d pb pq _ _ hl hh w G known_all _ (fun i => (Ns.notes (ofN (mkL pb pq 16)).1 (ofN (mkL pb pq 16)).2).getD i 0) (fndU (nth (Ns.notes (ofN (mkL pb pq 16)).1 (ofN (mkL pb pq 16)).2)) (Ns.notes (ofN (mkL pb pq 16)).1 (ofN (mkL pb pq 16)).2).length a b) rfl hX (fun W => make_any pb pq hpb hpq W) (fun hx _ => ⟨?_, fun W g => ?_⟩)
  · rw [any_iff_div _ _ a b (fun i j hij hj => by
      have := nth_mono2 _ _ i j hij hj
      unfold nth at this
      omega)]
    rfl
  · obtain ⟨x1, x2, y1, y2, h⟩ := two_any a b c d _ _ hl hh hx
    exact (h W g).mono fun e w' ⟨k1, k2⟩ => ⟨⟨x1, x2, y1, y2, k1⟩, k2⟩
end Go.Proofs.YtinopmdefndhoaaDoor
