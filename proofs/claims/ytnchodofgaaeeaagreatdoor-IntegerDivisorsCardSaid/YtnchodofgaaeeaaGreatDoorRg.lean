/- A range over a function whose iterator writes no cells: what the loop's body leaves alone (all blocks but those of S), what the iterator leaves alone (all cells), and the statement's law, where a round's body may leave the loop. -/
import Derived.Test.YtnchodofgaaeeaaGreatDoorProg
import Derived.RangeFuncNested
import Derived.RangeFuncBound
import Derived.RangeFuncCalls
import Derived.RangeFuncLeaves
import Derived.Shelf.Abstract
import Derived.Shelf.RegionOpen
import Derived.WalkKit
import Derived.OwnWalkIn
import Derived.TacticsInMore
import Derived.LoopNIn
import Derived.LoopIn
namespace Go.Proofs.YtnchodofgaaeeaaGreatDoor.Rg
open Go Go.RowKit Go.Shelf

/-- A round: whatever block is not one of S, and no cells, lies as it lay. -/
structure Round (S : Nat → Prop) (A B : World) : Prop where
  size : A.heap.size ≤ B.heap.size
  same : ∀ (k : Nat) (o : Obj), A.heap[k]? = some o → ¬ S k → o.isCells = false → B.heap[k]? = some o

/-- The iterator's own step: below b all is as it was; cells lie as they lay. -/
structure Step (b : Nat) (A B : World) : Prop where
  below : Below b A B
  same : ∀ (k : Nat) (c : Array Value) (u : TypeId) (f : Nat × Nat), A.heap[k]? = some (.cells c u f) → B.heap[k]? = some (.cells c u f)

theorem Round.refl (S : Nat → Prop) (A : World) : Round S A A := ⟨Nat.le_refl _, fun _ _ h _ _ => h⟩
theorem Round.trans {S : Nat → Prop} {A B C : World} (h : Round S A B) (k : Round S B C) : Round S A C :=
  ⟨Nat.le_trans h.size k.size, fun i o hi ho hc => k.same i o (h.same i o hi ho hc) ho hc⟩
theorem Step.refl (b : Nat) (A : World) : Step b A A := ⟨Below.refl _ _, fun _ _ _ _ h => h⟩
theorem Step.trans {b : Nat} {A B C : World} (h : Step b A B) (k : Step b B C) : Step b A C :=
  ⟨h.below.trans k.below, fun i c u f hi => k.same i c u f (h.same i c u f hi)⟩
theorem Step.mono {b b' : Nat} {A B : World} (h : Step b A B) (hb : b' ≤ b) : Step b' A B := ⟨h.below.mono hb, h.same⟩

theorem heap_below {B : Nat} {A C : World} (h : Below B A C) {k : Nat} {o : Obj} (hk : k < B) (ho : A.heap[k]? = some o) : C.heap[k]? = some o := (h.block k hk).trans ho
/-- What a call leaves that makes memory of its own alone. -/
theorem Round.of_below {S : Nat → Prop} {A B : World} (h : Below A.heap.size A B) : Round S A B :=
  ⟨h.size, fun k _ ho _ _ => (h.block k (Array.getElem?_eq_some_iff.1 ho).1).trans ho⟩
theorem Round.set {S : Nat → Prop} {A B : World} (h : Round S A B) {p : Addr} (hp : S p.block) (v : Value) : Round S A (B.setCell p v) :=
  ⟨by have := h.size; simpa [World.setCell] using this, fun k o hk hS hc => (Below.heap_setCell B p v k (fun e => hS (e ▸ hp))).trans (h.same k o hk hS hc)⟩
theorem Step.of_below {b : Nat} {A B : World} (hb : b ≤ A.heap.size) (h : Below A.heap.size A B) : Step b A B :=
  ⟨h.mono hb, fun k _ _ _ ho => (h.block k (Array.getElem?_eq_some_iff.1 ho).1).trans ho⟩

theorem below_putObj (W : World) (l : Nat) (o : Obj) {B : Nat} (h : B ≤ l) : Below B W (W.putObj l o) :=
  ⟨rfl, rfl, rfl, by simp [World.putObj], fun k hk => World.putObj_heap_other (by omega)⟩
/-- A turn of what is no cells. -/
theorem Step.putObj {b : Nat} (W : World) {l : Nat} (o o' : Obj) (hb : b ≤ l) (hl : W.heap[l]? = some o) (ho : o.isCells = false) : Step b W (W.putObj l o') :=
  ⟨below_putObj W l o' hb, fun k c u f hk => by
    by_cases e : k = l
    · subst e; rw [hl] at hk; cases hk; simp [Obj.isCells] at ho
    · exact (World.putObj_heap_other e).trans hk⟩

theorem Round.appended {S : Nat → Prop} {W w1 : World} {n₀ B : Nat} {e : TypeId} {size : Nat} {v v' : Value} {k : Nat} {xs : List Value} {tmp : Obj}
    (hB : S B) (hS : ∀ i, n₀ ≤ i → S i) (hrow : W.ownsRow n₀ e size v k xs) (hgrow : (W.alloc tmp).grownBy w1 v.ownBlock) : Round S W (w1.setCell ⟨B, 0, none⟩ v') where
  size := by
    have := hgrow.size
    simp [World.setCell] at this ⊢
    omega
  same := fun i o hi hn _ => by
    have hil := (Array.getElem?_eq_some_iff.1 hi).1
    have h1 : (W.alloc tmp).heap[i]? = some o := (Below.heap_alloc _ _ _ hil).trans hi
    have hr : some i ≠ v.ownBlock := fun ei => by
      rcases hrow.2 with ⟨rfl, _⟩ | ⟨g, cap, cur, rfl, hg, _⟩
      · cases ei
      · simp [Value.ownBlock] at ei
        subst ei
        exact hn (hS _ hg)
    exact (Below.heap_setCell w1 ⟨B, 0, none⟩ v' i (fun e => hn (e ▸ hB))).trans ((hgrow.block i (by simp; omega) hr).trans h1)
theorem Step.boxed {A B : World} {b k : Nat} {u : TypeId} {v : Value} (h : Boxed A k u v) (st : Step b A B) : Boxed B k u v := st.same k _ u _ h
theorem Step.owns {A B : World} {b base k size : Nat} {e : TypeId} {v : Value} {xs : List Value} (h : A.ownsRow base e size v k xs) (st : Step b A B) : B.ownsRow base e size v k xs :=
  ⟨h.1, h.2.imp id fun ⟨g, cap, cur, h1, h2, h3, h4⟩ => ⟨g, cap, cur, h1, h2, st.same g _ _ _ h3, h4⟩⟩

/-- What an iterator's contract says to its caller: whatever J the caller keeps between rounds, so it abides the iterator's steps: the elements of xs come, in order, until a round says 'no more'. -/
def Gives {α : Type} (F : Fence) (n : Nat) (P : Program) (g : Nat) (lb : Array Value) (encs : α → Array Value) (xs : List α) (w : World) (Kp : World → Prop) : Prop :=
  ∀ (l : Nat) (J Jx : List α → World → Prop) (W : World), Below w.heap.size w W →
    (∀ s A B, J s A → Step W.heap.size A B → J s B) → (∀ s A B, Jx s A → Step W.heap.size A B → Jx s B) → (∀ s A, J s A → Kp A) →
    (∀ pre x A, J pre A → (∃ post, xs = pre ++ x :: post) → YieldAt F (n - 1) P l (encs x) A fun e B => (e = .returned (.bool true) ∧ J (pre ++ [x]) B) ∨ (e = .returned (.bool false) ∧ Jx (pre ++ [x]) B)) →
    J [] W →
    CallsIn F n P g (#[.func (.yield l) #[] #[]] ++ lb) W fun e W' => (∃ v, e = .returned v) ∧ (J xs W' ∨ ∃ pre, (∃ post, xs = pre ++ post) ∧ Jx pre W')

/-- What is asked where a round's body ends. -/
def ends {α : Type} (S : Nat → Prop) (I : List α → World → Prop) (Ix : Code → List α → World → Prop) (xs : List α) (A : World) : Exit → Act → World → Prop
  | .normal, _, B => Round S A B ∧ I xs B
  | .ret, _, B => Round S A B ∧ Ix .ret xs B
  | .exit id, _, B => Round S A B ∧ Ix (.exit id) xs B
  | _, _, _ => False

variable {F : Fence} {n : Nat} {P : Program}

theorem range_all {α : Type} {g : Operand} {ps : Array Tmp} {assign body : Code} {Q : Exit → Act → World → Prop} {a : Act} {w : World}
    (hro : F.round = none) (h1 : 1 ≤ n) {gf : Nat} {lb : Array Value} (hg : a.eval g = .func (.func gf) #[] lb) (hFg : F.fn gf) (eg : ∀ args w, (callFunc gf args).run P w = .ok (.enter gf args) w)
    {encs : α → Array Value} {xs : List α} {Kp : World → Prop} (hseq : Gives F (n - 1) P gf lb encs xs w Kp) (hps : ∀ x, (encs x).size = ps.size)
    (S : Nat → Prop) (hS0 : ¬ S w.heap.size) (hS1 : ¬ S (w.heap.size + 1))
    (I : List α → World → Prop) (Ix : Code → List α → World → Prop) (hI : ∀ s A B, I s A → Step w.heap.size A B → I s B) (hIx : ∀ c s A B, Ix c s A → Step w.heap.size A B → Ix c s B) (hK : ∀ s A, I s A → Kp A) (h0 : I [] w) (a₁ : α → Act)
    (hassign : ∀ (l : Nat) (x : α) (W : World) (K : Act → World → Prop), K (a₁ x) W →
      assign.wpIn (F.inRound l) (n - 1 - 1) P (Exit.then K (fun _ _ _ => False)) { tmps := (ps.zip (encs x)).foldl (fun t (p, v) => t.setIfInBounds p v) a.tmps, defers := [] } W)
    (hbody : ∀ (l : Nat) (pre : List α) (x : α) (W : World), I pre W → (∃ post, xs = pre ++ x :: post) → w.heap.size + 2 ≤ W.heap.size → body.wpIn (F.inRound l) (n - 1 - 1) P (ends S I Ix (pre ++ [x]) W) (a₁ x) W)
    (hdone : ∀ (D : Nat) (W : World), w.heap.size ≤ D → I xs W → W.heap[D]? = some (.deferred (some [])) → Q .normal { a with defers := { target := .collected D, args := #[] } :: a.defers } W)
    (hstop : ∀ (D : Nat) (c : Code) (pre : List α) (W : World), w.heap.size ≤ D → (∃ post, xs = pre ++ post) → Ix c pre W → W.heap[D]? = some (.deferred (some [])) → c.wpIn F n P Q { a with defers := { target := .collected D, args := #[] } :: a.defers } W) :
    (Code.rangeFunc g ps assign body).wpIn F n P Q a w := by
  refine wpIn_rangeFunc fun fn hfn => ?_
  rw [hro]
  obtain ⟨rec, hrec⟩ : ∃ rec : LoopState → Option Code → Loop, rec = fun st pe => { state := st, pending := pe, fn, tmps := a.tmps, params := ps, assign, body, defers := w.heap.size } := ⟨_, rfl⟩
  obtain ⟨V, hV⟩ : ∃ V, (w.alloc (.deferred (some []))).alloc (.loop (rec .ready none)) = V := ⟨_, rfl⟩
  have hL : V.heap[w.heap.size + 1]? = some (.loop (rec .ready none)) := by
    rw [← hV]; have := World.alloc_heap_new (w.alloc (.deferred (some []))) (.loop (rec .ready none)); rwa [World.size_alloc] at this
  have hKd : V.heap[w.heap.size]? = some (.deferred (some [])) := by
    rw [← hV]; exact (Below.heap_alloc _ _ _ (by simp)).trans (World.alloc_heap_new w _)
  have hwV : Below w.heap.size w V := by rw [← hV]; exact ((Below.refl _ w).alloc (Nat.le_refl _) _).alloc (by simp) _
  have hszV : V.heap.size = w.heap.size + 2 := by rw [← hV]; simp
  refine ⟨w.heap.size + 1, [{ target := .collected w.heap.size, args := #[] }], V, { target := .fn (.func gf) lb, args := #[.func (.yield (w.heap.size + 1)) #[] #[]] }, V, gf,
    #[.func (.yield (w.heap.size + 1)) #[] #[]] ++ lb, V, ?_, ?_, ?_, ?_, fun _ => h1, ?_⟩
  · rw [← hV, hrec]; exact run_enterLoop_outer _ _ _ _ _
  · simp only [resolve, hg]
    simp [go_sem]
  · intro f' hf'; simp [Target.leads] at hf'; subst hf'; exact hFg
  · simp [invoke, go_sem, eg]
  · refine (hseq (w.heap.size + 1) (fun pre W => I pre W ∧ W.heap[w.heap.size + 1]? = some (.loop (rec .ready none)) ∧ W.heap[w.heap.size]? = some (.deferred (some [])))
      (fun pre W => ∃ c, Ix c pre W ∧ W.heap[w.heap.size + 1]? = some (.loop (rec .done (some c))) ∧ W.heap[w.heap.size]? = some (.deferred (some []))) V hwV
      (fun s A B hs st => ⟨hI s A B hs.1 (st.mono (by omega)), heap_below st.below (by omega) hs.2.1, heap_below st.below (by omega) hs.2.2⟩)
      (fun s A B hs st => by
        obtain ⟨c, hc, hl, hk⟩ := hs
        exact ⟨c, hIx c s A B hc (st.mono (by omega)), heap_below st.below (by omega) hl, heap_below st.below (by omega) hk⟩)
      (fun s A hs => hK s A hs.1)
      ?_ ⟨hI [] w V h0 (Step.of_below (Nat.le_refl _) hwV), hL, hKd⟩).mono ?_
    · rintro pre x W ⟨hi, hl, hk⟩ hx
      have hlt : w.heap.size + 1 < W.heap.size := (Array.getElem?_eq_some_iff.1 hl).1
      have hy := run_yield (P := P) (args := encs x) hl (by rw [hrec]; exact hps x)
      rw [hrec] at hy
      refine ⟨fn, _, assign, body, hy, roundIn_of_wpIn hfn (hassign _ x W _ ⟨_, run_beginRound hl (by rw [hrec]), ?_⟩)⟩
      refine wpIn_mono (hbody _ pre x _ (hI pre W _ hi (Step.putObj W _ _ (by omega) hl rfl)) hx (by simp; omega)) ?_
      have fin : ∀ (jump : Option Code) (W3 : World), Round S (W.putObj (w.heap.size + 1) (.loop { rec .ready none with state := .busy })) W3 →
          (Instr.endRound (w.heap.size + 1) jump).run P W3 = .ok (.bool jump.isNone) (W3.putObj (w.heap.size + 1) (.loop (rec (if jump.isNone then .ready else .done) jump))) ∧
          W3.heap[w.heap.size + 1]? = some (.loop { rec .ready none with state := .busy }) ∧
          (W3.putObj (w.heap.size + 1) (.loop (rec (if jump.isNone then .ready else .done) jump))).heap[w.heap.size + 1]? = some (.loop (rec (if jump.isNone then .ready else .done) jump)) ∧
          (W3.putObj (w.heap.size + 1) (.loop (rec (if jump.isNone then .ready else .done) jump))).heap[w.heap.size]? = some (.deferred (some [])) := fun jump W3 hr3 => by
        have hl3 := hr3.same _ _ (World.putObj_heap_same (o := .loop { rec .ready none with state := .busy }) hlt) hS1 rfl
        have hk3 := hr3.same w.heap.size _ ((World.putObj_heap_other (by omega)).trans hk) hS0 rfl
        have he := run_endRound (P := P) jump hl3
        rw [hrec] at he ⊢
        exact ⟨he, by rw [hrec] at hl3; exact hl3, World.putObj_heap_same (Array.getElem?_eq_some_iff.1 hl3).1, (World.putObj_heap_other (by omega)).trans hk3⟩
      rintro e a3 W3 hp
      cases e with
      | normal =>
        obtain ⟨hr3, hi3⟩ := hp
        obtain ⟨he, hl3, hl4, hk4⟩ := fin none W3 hr3
        exact ⟨_, _, he, .inl ⟨rfl, hI _ _ _ hi3 (Step.putObj W3 _ _ (by omega) hl3 rfl), hl4, hk4⟩⟩
      | ret =>
        obtain ⟨hr3, hi3⟩ := hp
        obtain ⟨he, hl3, hl4, hk4⟩ := fin (some .ret) W3 hr3
        exact ⟨_, _, he, .inr ⟨rfl, .ret, hIx _ _ _ _ hi3 (Step.putObj W3 _ _ (by omega) hl3 rfl), hl4, hk4⟩⟩
      | exit id =>
        obtain ⟨hr3, hi3⟩ := hp
        obtain ⟨he, hl3, hl4, hk4⟩ := fin (some (.exit id)) W3 hr3
        exact ⟨_, _, he, .inr ⟨rfl, .exit id, hIx _ _ _ _ hi3 (Step.putObj W3 _ _ (by omega) hl3 rfl), hl4, hk4⟩⟩
      | goto t => exact hp.elim
      | panic ch => exact hp.elim
      | outgrown => exact hp.elim
    · rintro e W2 ⟨⟨v, rfl⟩, (⟨hi, hl, hk⟩ | ⟨pre, hpre, c, hi, hl, hk⟩)⟩
      · have he := run_endLoop (P := P) hl (by rw [hrec]; simp)
        rw [hrec] at he
        exact ⟨none, _, he, hdone _ _ (Nat.le_refl _) (hI xs W2 _ hi (Step.putObj W2 _ _ (by omega) hl rfl)) ((World.putObj_heap_other (by omega)).trans hk)⟩
      · have he := run_endLoop (P := P) hl (by rw [hrec]; simp)
        rw [hrec] at he
        exact ⟨some c, _, he, hstop _ c pre _ (Nat.le_refl _) hpre (hIx c pre W2 _ hi (Step.putObj W2 _ _ (by omega) hl rfl)) ((World.putObj_heap_other (by omega)).trans hk)⟩
end Go.Proofs.YtnchodofgaaeeaaGreatDoor.Rg
