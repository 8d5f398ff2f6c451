/- What is left of a set without its least or its greatest note, and what a move by one note makes of it: whether two hands can hold it. -/
import Derived.Test.YtinopmdefndhoaaDoorSpAm
namespace Go.Proofs.YtinopmdefndhoaaDoor
open Go Go.RowKit Go.Shelf

/-- Whether two hands can hold a set. -/
def fnS (lo hi : Nat) (a b : Int) : Bool := fndU (nth (Ns.notes lo hi)) (Ns.notes lo hi).length a b

theorem single_set (q : Nat) : ofN [q] = (Ns.sLo q, Ns.sHi q) := by simp [ofN]

theorem grow_tail (lo hi : Nat) (a b : Int) (hl : lo < 18446744073709551616) (hh : hi < 18446744073709551616) (h0 : ¬ (lo = 0 ∧ hi = 0)) (h : fnS lo hi a b = true) :
    fnS (Ns.wo lo (Ns.sLo (Ns.least lo hi))) (Ns.wo hi (Ns.sHi (Ns.least lo hi))) a b = true := by
  unfold fnS at h ⊢
  have hm := nth_mono2 lo hi
  rw [Ns.notes_cons lo hi hl hh h0] at h hm
  rw [List.length_cons] at h hm
  exact fnd_tail _ _ _ a b hm (fun j _ => rfl) h

theorem init_notes (lo hi : Nat) (hl : lo < 18446744073709551616) (hh : hi < 18446744073709551616) (h0 : ¬ (lo = 0 ∧ hi = 0)) (pre : List Nat) (hp : Ns.notes lo hi = pre ++ [Ns.greatest lo hi]) :
    Ns.notes (Ns.wo lo (Ns.sLo (Ns.greatest lo hi))) (Ns.wo hi (Ns.sHi (Ns.greatest lo hi))) = pre := by
  obtain ⟨g1, g2, g3⟩ := Ns.greatest_spec lo hi hl hh h0
  have hinc := notes_inc lo hi
  rw [hp] at hinc
  refine inc_ext _ _ (notes_inc _ _) (List.pairwise_append.1 hinc).1 fun m => ?_
  have hmem : m ∈ pre ++ [Ns.greatest lo hi] ↔ m < 128 ∧ Ns.has lo hi m = true := by rw [← hp, Ns.mem_notes]
  rw [Ns.mem_notes]
  constructor
  · rintro ⟨h1, h2⟩
    rw [Ns.has_wo lo hi _ _ m hl hh (Ns.sLo_lt _) (Ns.sHi_lt _ g1), Ns.has_single _ m g1 h1, Bool.and_eq_true, Bool.not_eq_true', decide_eq_false_iff_not] at h2
    have := hmem.2 ⟨h1, h2.1⟩
    rcases List.mem_append.1 this with k | k
    · exact k
    · simp at k; exact absurd k.symm h2.2
  · intro k
    have k2 := hmem.1 (List.mem_append.2 (.inl k))
    refine ⟨k2.1, ?_⟩
    rw [Ns.has_wo lo hi _ _ m hl hh (Ns.sLo_lt _) (Ns.sHi_lt _ g1), Ns.has_single _ m g1 k2.1, Bool.and_eq_true, Bool.not_eq_true', decide_eq_false_iff_not]
    refine ⟨k2.2, fun e => ?_⟩
    have := (List.pairwise_append.1 hinc).2.2 m k (Ns.greatest lo hi) (by simp)
    omega

theorem grow_init (lo hi : Nat) (a b : Int) (hl : lo < 18446744073709551616) (hh : hi < 18446744073709551616) (h0 : ¬ (lo = 0 ∧ hi = 0)) (h : fnS lo hi a b = true) :
    fnS (Ns.wo lo (Ns.sLo (Ns.greatest lo hi))) (Ns.wo hi (Ns.sHi (Ns.greatest lo hi))) a b = true := by
  obtain ⟨pre, hp⟩ := Ns.notes_snoc lo hi hl hh h0
  have hm := nth_mono2 lo hi
  unfold fnS at h ⊢
  rw [init_notes lo hi hl hh h0 pre hp]
  rw [hp] at h hm
  rw [List.length_append, List.length_singleton] at h hm
  refine fnd_init _ _ _ a b hm (fun j hj => ?_) h
  unfold nth
  rw [List.getD_eq_getElem?_getD, List.getD_eq_getElem?_getD, List.getElem?_append_left hj]

theorem grow_more (lo hi : Nat) (a b a' b' : Int) (ha : a ≤ a') (hb : b ≤ b') (h : fnS lo hi a b = true) : fnS lo hi a' b' = true := fnd_more _ _ a b a' b' ha hb h

theorem up_notes (lo hi : Nat) (hl : lo < 18446744073709551616) (hh : hi < 18446744073709551616) (hg : ∀ m, m ∈ Ns.notes lo hi → m < 127) :
    Ns.notes (Ns.shLo lo hi 1) (Ns.shHi lo hi 1) = (Ns.notes lo hi).map (1 + ·) := by
  have e1 : Ns.shLo lo hi 1 = Ns.upLo lo 1 := by unfold Ns.shLo; rw [if_neg (by omega), if_neg (by omega)]; rfl
  have e2 : Ns.shHi lo hi 1 = Ns.upHi lo hi 1 := by unfold Ns.shHi; rw [if_neg (by omega), if_neg (by omega)]; rfl
  rw [e1, e2]
  refine inc_ext _ _ (notes_inc _ _) ?_ fun m => ?_
  · rw [List.pairwise_map]
    exact (notes_inc lo hi).imp (fun h => by omega)
  · rw [Ns.mem_notes, List.mem_map]
    constructor
    · rintro ⟨h1, h2⟩
      rw [Ns.has_up lo hi 1 m hl (by omega) h1, Bool.and_eq_true, decide_eq_true_eq] at h2
      exact ⟨m - 1, Ns.mem_notes.2 ⟨by omega, h2.2⟩, by omega⟩
    · rintro ⟨k, hk, rfl⟩
      have k1 := hg k hk
      have k2 := (Ns.mem_notes.1 hk).2
      refine ⟨by omega, ?_⟩
      rw [Ns.has_up lo hi 1 (1 + k) hl (by omega) (by omega), Bool.and_eq_true, decide_eq_true_eq]
      exact ⟨by omega, by rw [Nat.add_sub_cancel_left]; exact k2⟩

theorem grow_up (lo hi : Nat) (a b : Int) (hl : lo < 18446744073709551616) (hh : hi < 18446744073709551616) (h0 : ¬ (lo = 0 ∧ hi = 0)) (hg : Ns.greatest lo hi ≠ 127) :
    fnS (Ns.shLo lo hi 1) (Ns.shHi lo hi 1) a b = fnS lo hi a b := by
  obtain ⟨g1, _, _⟩ := Ns.greatest_spec lo hi hl hh h0
  obtain ⟨pre, hp⟩ := Ns.notes_snoc lo hi hl hh h0
  have hinc := notes_inc lo hi
  have hlt : ∀ m, m ∈ Ns.notes lo hi → m < 127 := fun m hm => by
    rw [hp] at hm hinc
    rcases List.mem_append.1 hm with k | k
    · have := (List.pairwise_append.1 hinc).2.2 m k (Ns.greatest lo hi) (by simp)
      omega
    · simp at k; omega
  unfold fnS
  rw [up_notes lo hi hl hh hlt, List.length_map]
  refine fnd_up _ _ _ a b 1 fun j hj => ?_
  unfold nth
  rw [List.getD_eq_getElem?_getD, List.getD_eq_getElem?_getD, List.getElem?_map, List.getElem?_eq_getElem hj]
  simp
  omega

theorem two_s (a b c d : Int) (lo hi : Nat) (hl : lo < 18446744073709551616) (hh : hi < 18446744073709551616) (hx : chk a b c d = 0) : ∃ x1 x2 y1 y2 : Nat, ∀ W, Gl W →
    Calls Tryd.prog 17 #[.agg #[.int .i64 a, .int .i64 b, .int .i64 c, .int .i64 d], .agg #[.int .u64 lo, .int .u64 hi]] W fun e w' => e = .returned (.tuple #[.agg #[.int .u64 x1, .int .u64 x2], .agg #[.int .u64 y1, .int .u64 y2], .bool (fnS lo hi a b), .int .i64 0]) ∧ Below W.heap.size W w' :=
  two_any a b c d lo hi hl hh hx

theorem of_one (q B : Nat) (w : World) (hq : q < 128) (hB : w.heap[B]? = some (.cells #[.int .i64 (q : Nat)] 3)) :
    Calls Tryd.prog 33 #[.slice (some ⟨B, 0, none⟩) 1 1] w fun e w' => e = .returned (.tuple #[.agg #[.int .u64 (Ns.sLo q : Nat), .int .u64 (Ns.sHi q : Nat)], .int .i64 0]) ∧ Below w.heap.size w w' := by
  have h := of_upto B 0 1 1 1 (fun _ => (q : Nat)) w (Nat.le_refl _) (by omega) (Array.getElem?_eq_some_iff.1 hB).1 (fun k hk => by
    have : k = 0 := by omega
    subst this
    simp [World.cell?, hB]) (fun k _ => by simp [validB]; omega) (fun h => by omega)
  simp only [if_true] at h
  have e : ofN ((List.range 1).map fun _ => ((q : Nat) : Int).toNat) = (Ns.sLo q, Ns.sHi q) := by rw [← single_set]; simp [List.range_succ]
  rw [e] at h
  exact h
end Go.Proofs.YtinopmdefndhoaaDoor
