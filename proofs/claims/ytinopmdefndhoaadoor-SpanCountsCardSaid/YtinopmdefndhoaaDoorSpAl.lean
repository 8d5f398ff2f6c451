/- The statements' walks over the package itself: errors, hands, the least span, counts. -/
import Derived.Test.YtinopmdefndhoaaDoorSpKn
namespace Go.Proofs.YtinopmdefndhoaaDoor
open Go Go.RowKit Go.Shelf

theorem hands_law (a b c d : Int) (lo hi : Nat) (hl : lo < 18446744073709551616) (hh : hi < 18446744073709551616) (w : World) (G : Gl w) :
    Calls Tryd.prog 4 #[.agg #[.int .i64 a, .int .i64 b, .int .i64 c, .int .i64 d], .agg #[.int .u64 lo, .int .u64 hi]] w fun e w' => e = .returned (.bool true) ∧ Below w.heap.size w w' :=
  hands_walk a b c d lo hi hl hh w G known_all (fun hx W g => one_ok a b c d lo hi hl hh hx W g)

theorem errors_law (a b c d : Int) (lo hi : Nat) (w : World) (G : Gl w) :
    Calls Tryd.prog 3 #[.agg #[.int .i64 a, .int .i64 b, .int .i64 c, .int .i64 d], .agg #[.int .u64 lo, .int .u64 hi]] w fun e w' => e = .returned (.bool true) ∧ Below w.heap.size w w' :=
  errors_walk a b c d lo hi w G known_all (fun W _ => check_c a b c d W) (fun hx W _ => one_bad a b c d lo hi hx W) (fun hx _ W _ => feet_bad a b c d _ hx W) (fun hx W _ => two_bad a b c d lo hi hx W) (fun hx W _ => all_bad a b c d lo hi hx W)
    (fun hx W _ => least_bad a b c d lo hi hx W) (fun hx W _ => poss_bad a b c d _ _ hx W) (fun hx W _ => count_bad a b c d 0 0 hx W)

theorem nth_mono (lo hi : Nat) : ∀ i j, i ≤ j → j < (Ns.notes lo hi).length → nth (Ns.notes lo hi) i ≤ nth (Ns.notes lo hi) j := by
  intro i j hij hj
  have h := notes_inc lo hi
  unfold nth
  rw [List.getD_eq_getElem?_getD, List.getD_eq_getElem?_getD, List.getElem?_eq_getElem hj, List.getElem?_eq_getElem (by omega : i < _)]
  simp only [Option.getD_some]
  rcases Nat.lt_or_ge i j with k | k
  · have := List.pairwise_iff_getElem.1 h i j (by omega) hj k
    omega
  · have : i = j := by omega
    subst this
    omega

theorem least_law (a b c d : Int) (lo hi : Nat) (hl : lo < 18446744073709551616) (hh : hi < 18446744073709551616) (w : World) (G : Gl w) :
    Calls Tryd.prog 8 #[.agg #[.int .i64 a, .int .i64 b, .int .i64 c, .int .i64 d], .agg #[.int .u64 lo, .int .u64 hi]] w fun e w' => e = .returned (.bool true) ∧ Below w.heap.size w w' := by
  obtain ⟨k0, k1⟩ := lsF_is (nth (Ns.notes lo hi)) (Ns.notes lo hi).length a (notes_bd lo hi).2 (nth_mono lo hi)
  refine least_walk a b c d lo hi hl hh w G known_all _ _ (fun hx => ⟨k1, fun W g => ?_⟩)
  have h := least_ok a b c d lo hi hl hh hx W g
  rw [Int.toNat_of_nonneg k0]
  exact h

theorem counts_law (a b c d l h : Int) (w : World) (G : Gl w) :
    Calls Tryd.prog 10 #[.agg #[.int .i64 a, .int .i64 b, .int .i64 c, .int .i64 d], .agg #[.int .i64 l, .int .i64 h]] w fun e w' => e = .returned (.bool true) ∧ Below w.heap.size w w' := by
  have ha : chk a b c d = 0 → 0 ≤ a := fun hx => by
    unfold chk at hx
    split at hx
    · rename_i h'; exact h'.1
    · cases hx
  refine counts_walk a b c d l h w G known_all (fun hx hq W _ => count_comp a b c d l h hx hq W) (fun hx hq h16 W _ => count_lim a b c d l h hx hq h16 W) (fun hx hq h8 h16 => ?_) (fun hx hq h8 W g => ?_)
  · refine ⟨cntP a b (2 ^ ((h - l).toNat + 1)), cntP_pos a b (ha hx) (chk_b hx) _ (Nat.two_pow_pos _), Nat.le_trans (cntP_le a b _) ?_, fun W g => count_ok a b c d l h hx hq h16 W g⟩
    exact Nat.le_trans (Nat.pow_le_pow_right (by decide) (show (h - l).toNat + 1 ≤ 16 by omega)) (by decide)
  · have q := compE_ok hq
    rw [cnt_is a b l.toNat (h - l).toNat _ (by omega) (Nat.le_refl _)]
    exact count_ok a b c d l h hx hq (by omega) W g
end Go.Proofs.YtinopmdefndhoaaDoor
