/- A range over a function whose body goes on at every element, where the iterator keeps its place in a struct of its own (cells of type t): what the loop's body leaves alone, what the iterator leaves alone, and the statement's law. -/
import Derived.Test.YtibdnfcbgcbdeaaDoorProg
import Derived.RangeFuncNested
import Derived.RangeFuncBound
import Derived.RangeFuncCalls
import Derived.RangeFuncLeaves
import Derived.Shelf.Abstract
import Derived.Shelf.RegionOpen
import Derived.WalkKit
import Derived.OwnWalkIn
import Derived.TacticsInMore
import Derived.LoopNIn
import Derived.LoopIn
namespace Go.Proofs.YtibdnfcbgcbdeaaDoor
open Go Go.RowKit Go.Shelf

/-- A round: what is no cells lies as it lay, and so do the cells of type t. -/
structure Round (t : TypeId) (A B : World) : Prop where
  size : A.heap.size ≤ B.heap.size
  same : ∀ (k : Nat) (o : Obj), A.heap[k]? = some o → (o.isCells = false ∨ ∃ c, o = .cells c t) → B.heap[k]? = some o

/-- The iterator's own step: below b all is as it was; cells of other types lie as they lay. -/
structure Step (b : Nat) (t : TypeId) (A B : World) : Prop where
  below : Below b A B
  same : ∀ (k : Nat) (c : Array Value) (u : TypeId) (f : Nat × Nat), A.heap[k]? = some (.cells c u f) → u ≠ t → B.heap[k]? = some (.cells c u f)

theorem Round.refl (t : TypeId) (A : World) : Round t A A := ⟨Nat.le_refl _, fun _ _ h _ => h⟩
theorem Round.trans {t : TypeId} {A B C : World} (h : Round t A B) (k : Round t B C) : Round t A C :=
  ⟨Nat.le_trans h.size k.size, fun i o hi ho => k.same i o (h.same i o hi ho) ho⟩
theorem Step.refl (b : Nat) (t : TypeId) (A : World) : Step b t A A := ⟨Below.refl _ _, fun _ _ _ _ h _ => h⟩
theorem Step.trans {b : Nat} {t : TypeId} {A B C : World} (h : Step b t A B) (k : Step b t B C) : Step b t A C :=
  ⟨h.below.trans k.below, fun i c u f hi hu => k.same i c u f (h.same i c u f hi hu) hu⟩
theorem Step.mono {b b' : Nat} {t : TypeId} {A B : World} (h : Step b t A B) (hb : b' ≤ b) : Step b' t A B := ⟨h.below.mono hb, h.same⟩

theorem heap_below {B : Nat} {A C : World} (h : Below B A C) {k : Nat} {o : Obj} (hk : k < B) (ho : A.heap[k]? = some o) : C.heap[k]? = some o := (h.block k hk).trans ho
/-- What a call leaves that makes memory of its own alone. -/
theorem Round.of_below {t : TypeId} {A B : World} (h : Below A.heap.size A B) : Round t A B :=
  ⟨h.size, fun k _ ho _ => (h.block k (Array.getElem?_eq_some_iff.1 ho).1).trans ho⟩
theorem Step.of_below {b : Nat} {t : TypeId} {A B : World} (hb : b ≤ A.heap.size) (h : Below A.heap.size A B) : Step b t A B :=
  ⟨h.mono hb, fun k _ _ _ ho _ => (h.block k (Array.getElem?_eq_some_iff.1 ho).1).trans ho⟩

theorem putObj_other (W : World) (l : Nat) (o : Obj) {k : Nat} (h : k ≠ l) : (W.putObj l o).heap[k]? = W.heap[k]? := World.putObj_heap_other h
theorem below_putObj (W : World) (l : Nat) (o : Obj) {B : Nat} (h : B ≤ l) : Below B W (W.putObj l o) :=
  ⟨rfl, rfl, rfl, by simp [World.putObj], fun k hk => World.putObj_heap_other (by omega)⟩
/-- A turn of what is no cells. -/
theorem Step.putObj {b : Nat} {t : TypeId} (W : World) {l : Nat} (o o' : Obj) (hb : b ≤ l) (hl : W.heap[l]? = some o) (ho : o.isCells = false) : Step b t W (W.putObj l o') :=
  ⟨below_putObj W l o' hb, fun k c u f hk _ => by
    by_cases e : k = l
    · subst e; rw [hl] at hk; cases hk; simp [Obj.isCells] at ho
    · exact (World.putObj_heap_other e).trans hk⟩

/-- What an iterator's contract says to its caller: whatever J the caller keeps between rounds, so it abides the iterator's steps: the elements of xs come, in order. -/
def Gives (F : Fence) (n : Nat) (P : Program) (g : Nat) (lb : Array Value) (enc : Nat → Value) (t : TypeId) (xs : List Nat) (n₀ : Nat) (w : World) : Prop :=
  ∀ (l : Nat) (J : List Nat → World → Prop) (W : World), Below w.heap.size w W →
    (∀ s A B, J s A → Step W.heap.size t A B → J s B) →
    (∀ pre x A, J pre A → (∃ post, xs = pre ++ x :: post) → YieldAt F (n - 1) P l #[enc x] A fun e B => e = .returned (.bool true) ∧ J (pre ++ [x]) B ∧ Round t A B ∧ Below n₀ A B) →
    J [] W →
    CallsIn F n P g (#[.func (.yield l) #[] #[]] ++ lb) W fun e W' => (∃ v, e = .returned v) ∧ J xs W'

/-- What is asked where a round's body ends: it has gone to its end. -/
def goesOn (t : TypeId) (n₀ : Nat) (I : List Nat → World → Prop) (xs : List Nat) (A : World) : Exit → Act → World → Prop
  | .normal, _, B => Round t A B ∧ Below n₀ A B ∧ I xs B
  | _, _, _ => False

variable {F : Fence} {n : Nat} {P : Program}

theorem range_all {g : Operand} {ps : Array Tmp} {assign body : Code} {Q : Exit → Act → World → Prop} {a : Act} {w : World}
    (hro : F.round = none) (h1 : 1 ≤ n) {gf : Nat} {lb : Array Value} (hg : a.eval g = .func (.func gf) #[] lb) (hFg : F.fn gf) (eg : ∀ args w, (callFunc gf args).run P w = .ok (.enter gf args) w)
    {enc : Nat → Value} {t : TypeId} {xs : List Nat} {n₀ : Nat} (hn0 : n₀ ≤ w.heap.size) (hseq : Gives F (n - 1) P gf lb enc t xs n₀ w) (hps : ps.size = 1)
    (I : List Nat → World → Prop) (hI : ∀ s A B, I s A → Step w.heap.size t A B → I s B) (h0 : I [] w) (a₁ : Nat → Act)
    (hassign : ∀ (l : Nat) (x : Nat) (W : World) (K : Act → World → Prop), K (a₁ x) W →
      assign.wpIn (F.inRound l) (n - 1 - 1) P (Exit.then K (fun _ _ _ => False)) { tmps := (ps.zip #[enc x]).foldl (fun t (p, v) => t.setIfInBounds p v) a.tmps, defers := [] } W)
    (hbody : ∀ (l : Nat) (pre : List Nat) (x : Nat) (W : World), I pre W → (∃ post, xs = pre ++ x :: post) → body.wpIn (F.inRound l) (n - 1 - 1) P (goesOn t n₀ I (pre ++ [x]) W) (a₁ x) W)
    (hdone : ∀ (D : Nat) (W : World), w.heap.size ≤ D → I xs W → W.heap[D]? = some (.deferred (some [])) → Q .normal { a with defers := { target := .collected D, args := #[] } :: a.defers } W) :
    (Code.rangeFunc g ps assign body).wpIn F n P Q a w := by
  refine wpIn_rangeFunc fun fn hfn => ?_
  rw [hro]
  obtain ⟨rec, hrec⟩ : ∃ rec : LoopState → Loop, rec = fun st => { state := st, pending := none, fn, tmps := a.tmps, params := ps, assign, body, defers := w.heap.size } := ⟨_, rfl⟩
  obtain ⟨V, hV⟩ : ∃ V, (w.alloc (.deferred (some []))).alloc (.loop (rec .ready)) = V := ⟨_, rfl⟩
  have hL : V.heap[w.heap.size + 1]? = some (.loop (rec .ready)) := by
    rw [← hV]; have := World.alloc_heap_new (w.alloc (.deferred (some []))) (.loop (rec .ready)); rwa [World.size_alloc] at this
  have hK : V.heap[w.heap.size]? = some (.deferred (some [])) := by
    rw [← hV]; exact (Below.heap_alloc _ _ _ (by simp)).trans (World.alloc_heap_new w _)
  have hwV : Below w.heap.size w V := by rw [← hV]; exact ((Below.refl _ w).alloc (Nat.le_refl _) _).alloc (by simp) _
  have hszV : V.heap.size = w.heap.size + 2 := by rw [← hV]; simp
  refine ⟨w.heap.size + 1, [{ target := .collected w.heap.size, args := #[] }], V, { target := .fn (.func gf) lb, args := #[.func (.yield (w.heap.size + 1)) #[] #[]] }, V, gf,
    #[.func (.yield (w.heap.size + 1)) #[] #[]] ++ lb, V, ?_, ?_, ?_, ?_, fun _ => h1, ?_⟩
  · rw [← hV, hrec]; exact run_enterLoop_outer _ _ _ _ _
  · simp only [resolve, hg]
    simp [go_sem]
  · intro f' hf'; simp [Target.leads] at hf'; subst hf'; exact hFg
  · simp [invoke, go_sem, eg]
  · refine (hseq (w.heap.size + 1) (fun pre W => I pre W ∧ W.heap[w.heap.size + 1]? = some (.loop (rec .ready)) ∧ W.heap[w.heap.size]? = some (.deferred (some []))) V hwV
      (fun s A B hs st => ⟨hI s A B hs.1 (st.mono (by omega)), heap_below st.below (by omega) hs.2.1, heap_below st.below (by omega) hs.2.2⟩)
      ?_ ⟨hI [] w V h0 (Step.of_below (Nat.le_refl _) hwV), hL, hK⟩).mono ?_
    · rintro pre x W ⟨hi, hl, hk⟩ hx
      have hlt : w.heap.size + 1 < W.heap.size := (Array.getElem?_eq_some_iff.1 hl).1
      have hy := run_yield (P := P) (args := #[enc x]) hl (by rw [hrec]; exact hps.symm)
      rw [hrec] at hy
      refine ⟨fn, _, assign, body, hy, roundIn_of_wpIn hfn (hassign _ x W _ ⟨_, run_beginRound hl (by rw [hrec]), ?_⟩)⟩
      refine wpIn_mono (hbody _ pre x _ (hI pre W _ hi (Step.putObj W _ _ (by omega) hl rfl)) hx) ?_
      rintro e a3 W3 hp
      cases e with
      | normal =>
        obtain ⟨hr3, hb3, hi3⟩ := hp
        have hl3 := hr3.same _ _ (World.putObj_heap_same (o := .loop { rec .ready with state := .busy }) hlt) (.inl rfl)
        have hk3 := hr3.same w.heap.size _ ((World.putObj_heap_other (by omega)).trans hk) (.inl rfl)
        have he := run_endRound (P := P) none hl3
        have hsame : ({ ({ rec .ready with state := .busy } : Loop) with state := (if (none : Option Code).isNone then .ready else .done), pending := none } : Loop) = rec .ready := by rw [hrec]; rfl
        rw [hsame] at he
        refine ⟨_, _, he, rfl, ⟨hI _ _ _ hi3 (Step.putObj W3 _ _ (by omega) hl3 rfl), World.putObj_heap_same (Array.getElem?_eq_some_iff.1 hl3).1, (World.putObj_heap_other (by omega)).trans hk3⟩, ⟨?_, fun k o hko hno => ?_⟩, ?_⟩
        · have := hr3.size; simp [World.putObj] at this ⊢; exact this
        · by_cases e : k = w.heap.size + 1
          · subst e
            rw [hl] at hko
            cases hko
            exact World.putObj_heap_same (Array.getElem?_eq_some_iff.1 hl3).1
          · exact (World.putObj_heap_other e).trans (hr3.same k o ((World.putObj_heap_other e).trans hko) hno)
        · exact ((below_putObj W _ _ (by omega)).trans hb3).trans (below_putObj W3 _ _ (by omega))
      | ret => exact hp.elim
      | exit id => exact hp.elim
      | goto t => exact hp.elim
      | panic ch => exact hp.elim
      | outgrown => exact hp.elim
    · rintro e W2 ⟨⟨v, rfl⟩, hi, hl, hk⟩
      have he := run_endLoop (P := P) hl (by rw [hrec]; simp)
      rw [hrec] at he
      exact ⟨none, _, he, hdone _ _ (Nat.le_refl _) (hI xs W2 _ hi (Step.putObj W2 _ _ (by omega) hl rfl)) ((World.putObj_heap_other (by omega)).trans hk)⟩
end Go.Proofs.YtibdnfcbgcbdeaaDoor
