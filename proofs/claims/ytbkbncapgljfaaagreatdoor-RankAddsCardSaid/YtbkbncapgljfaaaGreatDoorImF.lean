/- A range over a function whose iterator writes no cells: what the loop's body leaves alone (all blocks but those of S), what the iterator leaves alone (all cells), and the statement's law, where a round's body may leave the loop. -/
import Derived.Test.YtbkbncapgljfaaaGreatDoorProg
import Derived.RangeFuncNested
import Derived.RangeFuncBound
import Derived.RangeFuncCalls
import Derived.RangeFuncLeaves
import Derived.Shelf.Abstract
import Derived.Shelf.RegionOpen
import Derived.WalkKit
import Derived.OwnWalkIn
import Derived.TacticsInMore
import Derived.LoopNIn
import Derived.LoopIn
import Derived.Lib.Hide
import Derived.Test.YtbkbncapgljfaaaGreatDoorImB
import Derived.Test.YtbkbncapgljfaaaGreatDoorImShelf
import Derived.Lib.SmallJoins
import Derived.Lib.AtoiErrMem
import Derived.Lib.AtoiAll
import Derived.Lib.AppendIntMem
import Derived.Maps.AppendAt
import Derived.Lib.Walk
import Derived.BigCall
import Derived.BigGuard
namespace Go.Proofs.YtbkbncapgljfaaaGreatDoor.Rg
open Go Go.RowKit Go.Shelf

/-- A round: whatever block is not one of S, and no cells, lies as it lay. -/
structure Round (S : Nat → Prop) (A B : World) : Prop where
  size : A.heap.size ≤ B.heap.size
  same : ∀ (k : Nat) (o : Obj), A.heap[k]? = some o → ¬ S k → o.isCells = false → B.heap[k]? = some o

/-- The iterator's own step: below b all is as it was; cells lie as they lay. -/
structure Step (b : Nat) (A B : World) : Prop where
  below : Below b A B
  same : ∀ (k : Nat) (c : Array Value) (u : TypeId) (f : Nat × Nat), A.heap[k]? = some (.cells c u f) → B.heap[k]? = some (.cells c u f)

theorem Round.refl (S : Nat → Prop) (A : World) : Round S A A := ⟨Nat.le_refl _, fun _ _ h _ _ => h⟩
theorem Round.trans {S : Nat → Prop} {A B C : World} (h : Round S A B) (k : Round S B C) : Round S A C :=
  ⟨Nat.le_trans h.size k.size, fun i o hi ho hc => k.same i o (h.same i o hi ho hc) ho hc⟩
theorem Step.refl (b : Nat) (A : World) : Step b A A := ⟨Below.refl _ _, fun _ _ _ _ h => h⟩
theorem Step.trans {b : Nat} {A B C : World} (h : Step b A B) (k : Step b B C) : Step b A C :=
  ⟨h.below.trans k.below, fun i c u f hi => k.same i c u f (h.same i c u f hi)⟩
theorem Step.mono {b b' : Nat} {A B : World} (h : Step b A B) (hb : b' ≤ b) : Step b' A B := ⟨h.below.mono hb, h.same⟩

theorem heap_below {B : Nat} {A C : World} (h : Below B A C) {k : Nat} {o : Obj} (hk : k < B) (ho : A.heap[k]? = some o) : C.heap[k]? = some o := (h.block k hk).trans ho
/-- What a call leaves that makes memory of its own alone. -/
theorem Round.of_below {S : Nat → Prop} {A B : World} (h : Below A.heap.size A B) : Round S A B :=
  ⟨h.size, fun k _ ho _ _ => (h.block k (Array.getElem?_eq_some_iff.1 ho).1).trans ho⟩
theorem Round.set {S : Nat → Prop} {A B : World} (h : Round S A B) {p : Addr} (hp : S p.block) (v : Value) : Round S A (B.setCell p v) :=
  ⟨by have := h.size; simpa [World.setCell] using this, fun k o hk hS hc => (Below.heap_setCell B p v k (fun e => hS (e ▸ hp))).trans (h.same k o hk hS hc)⟩
theorem Step.of_below {b : Nat} {A B : World} (hb : b ≤ A.heap.size) (h : Below A.heap.size A B) : Step b A B :=
  ⟨h.mono hb, fun k _ _ _ ho => (h.block k (Array.getElem?_eq_some_iff.1 ho).1).trans ho⟩

theorem below_putObj (W : World) (l : Nat) (o : Obj) {B : Nat} (h : B ≤ l) : Below B W (W.putObj l o) :=
  ⟨rfl, rfl, rfl, by simp [World.putObj], fun k hk => World.putObj_heap_other (by omega)⟩
/-- A turn of what is no cells. -/
theorem Step.putObj {b : Nat} (W : World) {l : Nat} (o o' : Obj) (hb : b ≤ l) (hl : W.heap[l]? = some o) (ho : o.isCells = false) : Step b W (W.putObj l o') :=
  ⟨below_putObj W l o' hb, fun k c u f hk => by
    by_cases e : k = l
    · subst e; rw [hl] at hk; cases hk; simp [Obj.isCells] at ho
    · exact (World.putObj_heap_other e).trans hk⟩

theorem Round.appended {S : Nat → Prop} {W w1 : World} {n₀ B : Nat} {e : TypeId} {size : Nat} {v v' : Value} {k : Nat} {xs : List Value} {tmp : Obj}
    (hB : S B) (hS : ∀ i, n₀ ≤ i → S i) (hrow : W.ownsRow n₀ e size v k xs) (hgrow : (W.alloc tmp).grownBy w1 v.ownBlock) : Round S W (w1.setCell ⟨B, 0, none⟩ v') where
  size := by
    have := hgrow.size
    simp [World.setCell] at this ⊢
    omega
  same := fun i o hi hn _ => by
    have hil := (Array.getElem?_eq_some_iff.1 hi).1
    have h1 : (W.alloc tmp).heap[i]? = some o := (Below.heap_alloc _ _ _ hil).trans hi
    have hr : some i ≠ v.ownBlock := fun ei => by
      rcases hrow.2 with ⟨rfl, _⟩ | ⟨g, cap, cur, rfl, hg, _⟩
      · cases ei
      · simp [Value.ownBlock] at ei
        subst ei
        exact hn (hS _ hg)
    exact (Below.heap_setCell w1 ⟨B, 0, none⟩ v' i (fun e => hn (e ▸ hB))).trans ((hgrow.block i (by simp; omega) hr).trans h1)
theorem Step.boxed {A B : World} {b k : Nat} {u : TypeId} {v : Value} (h : Boxed A k u v) (st : Step b A B) : Boxed B k u v := st.same k _ u _ h
theorem Step.owns {A B : World} {b base k size : Nat} {e : TypeId} {v : Value} {xs : List Value} (h : A.ownsRow base e size v k xs) (st : Step b A B) : B.ownsRow base e size v k xs :=
  ⟨h.1, h.2.imp id fun ⟨g, cap, cur, h1, h2, h3, h4⟩ => ⟨g, cap, cur, h1, h2, st.same g _ _ _ h3, h4⟩⟩

/-- What an iterator's contract says to its caller: whatever J the caller keeps between rounds, so it abides the iterator's steps: the elements of xs come, in order, until a round says 'no more'. -/
def Gives {α : Type} (F : Fence) (n : Nat) (P : Program) (g : Nat) (lb : Array Value) (encs : α → Array Value) (xs : List α) (w : World) (Kp : World → Prop) : Prop :=
  ∀ (l : Nat) (J Jx : List α → World → Prop) (W : World), Below w.heap.size w W →
    (∀ s A B, J s A → Step W.heap.size A B → J s B) → (∀ s A B, Jx s A → Step W.heap.size A B → Jx s B) → (∀ s A, J s A → Kp A) →
    (∀ pre x A, J pre A → (∃ post, xs = pre ++ x :: post) → YieldAt F (n - 1) P l (encs x) A fun e B => (e = .returned (.bool true) ∧ J (pre ++ [x]) B) ∨ (e = .returned (.bool false) ∧ Jx (pre ++ [x]) B)) →
    J [] W →
    CallsIn F n P g (#[.func (.yield l) #[] #[]] ++ lb) W fun e W' => (∃ v, e = .returned v) ∧ (J xs W' ∨ ∃ pre, (∃ post, xs = pre ++ post) ∧ Jx pre W')

/-- What is asked where a round's body ends. -/
def ends {α : Type} (S : Nat → Prop) (I : List α → World → Prop) (Ix : Code → List α → World → Prop) (xs : List α) (A : World) : Exit → Act → World → Prop
  | .normal, _, B => Round S A B ∧ I xs B
  | .ret, _, B => Round S A B ∧ Ix .ret xs B
  | .exit id, _, B => Round S A B ∧ Ix (.exit id) xs B
  | _, _, _ => False

variable {F : Fence} {n : Nat} {P : Program}

theorem range_all {α : Type} {g : Operand} {ps : Array Tmp} {assign body : Code} {Q : Exit → Act → World → Prop} {a : Act} {w : World}
    (hro : F.round = none) (h1 : 1 ≤ n) {gf : Nat} {lb : Array Value} (hg : a.eval g = .func (.func gf) #[] lb) (hFg : F.fn gf) (eg : ∀ args w, (callFunc gf args).run P w = .ok (.enter gf args) w)
    {encs : α → Array Value} {xs : List α} {Kp : World → Prop} (hseq : Gives F (n - 1) P gf lb encs xs w Kp) (hps : ∀ x, (encs x).size = ps.size)
    (S : Nat → Prop) (hS0 : ¬ S w.heap.size) (hS1 : ¬ S (w.heap.size + 1))
    (I : List α → World → Prop) (Ix : Code → List α → World → Prop) (hI : ∀ s A B, I s A → Step w.heap.size A B → I s B) (hIx : ∀ c s A B, Ix c s A → Step w.heap.size A B → Ix c s B) (hK : ∀ s A, I s A → Kp A) (h0 : I [] w) (a₁ : α → Act)
    (hassign : ∀ (l : Nat) (x : α) (W : World) (K : Act → World → Prop), K (a₁ x) W →
      assign.wpIn (F.inRound l) (n - 1 - 1) P (Exit.then K (fun _ _ _ => False)) { tmps := (ps.zip (encs x)).foldl (fun t (p, v) => t.setIfInBounds p v) a.tmps, defers := [] } W)
    (hbody : ∀ (l : Nat) (pre : List α) (x : α) (W : World), I pre W → (∃ post, xs = pre ++ x :: post) → w.heap.size + 2 ≤ W.heap.size → body.wpIn (F.inRound l) (n - 1 - 1) P (ends S I Ix (pre ++ [x]) W) (a₁ x) W)
    (hdone : ∀ (D : Nat) (W : World), w.heap.size ≤ D → I xs W → W.heap[D]? = some (.deferred (some [])) → Q .normal { a with defers := { target := .collected D, args := #[] } :: a.defers } W)
    (hstop : ∀ (D : Nat) (c : Code) (pre : List α) (W : World), w.heap.size ≤ D → (∃ post, xs = pre ++ post) → Ix c pre W → W.heap[D]? = some (.deferred (some [])) → c.wpIn F n P Q { a with defers := { target := .collected D, args := #[] } :: a.defers } W) :
    (Code.rangeFunc g ps assign body).wpIn F n P Q a w := by
  refine wpIn_rangeFunc fun fn hfn => ?_
  rw [hro]
  obtain ⟨rec, hrec⟩ : ∃ rec : LoopState → Option Code → Loop, rec = fun st pe => { state := st, pending := pe, fn, tmps := a.tmps, params := ps, assign, body, defers := w.heap.size } := ⟨_, rfl⟩
  obtain ⟨V, hV⟩ : ∃ V, (w.alloc (.deferred (some []))).alloc (.loop (rec .ready none)) = V := ⟨_, rfl⟩
  have hL : V.heap[w.heap.size + 1]? = some (.loop (rec .ready none)) := by
    rw [← hV]; have := World.alloc_heap_new (w.alloc (.deferred (some []))) (.loop (rec .ready none)); rwa [World.size_alloc] at this
  have hKd : V.heap[w.heap.size]? = some (.deferred (some [])) := by
    rw [← hV]; exact (Below.heap_alloc _ _ _ (by simp)).trans (World.alloc_heap_new w _)
  have hwV : Below w.heap.size w V := by rw [← hV]; exact ((Below.refl _ w).alloc (Nat.le_refl _) _).alloc (by simp) _
  have hszV : V.heap.size = w.heap.size + 2 := by rw [← hV]; simp
  refine ⟨w.heap.size + 1, [{ target := .collected w.heap.size, args := #[] }], V, { target := .fn (.func gf) lb, args := #[.func (.yield (w.heap.size + 1)) #[] #[]] }, V, gf,
    #[.func (.yield (w.heap.size + 1)) #[] #[]] ++ lb, V, ?_, ?_, ?_, ?_, fun _ => h1, ?_⟩
  · rw [← hV, hrec]; exact run_enterLoop_outer _ _ _ _ _
  · simp only [resolve, hg]
    simp [go_sem]
  · intro f' hf'; simp [Target.leads] at hf'; subst hf'; exact hFg
  · simp [invoke, go_sem, eg]
  · refine (hseq (w.heap.size + 1) (fun pre W => I pre W ∧ W.heap[w.heap.size + 1]? = some (.loop (rec .ready none)) ∧ W.heap[w.heap.size]? = some (.deferred (some [])))
      (fun pre W => ∃ c, Ix c pre W ∧ W.heap[w.heap.size + 1]? = some (.loop (rec .done (some c))) ∧ W.heap[w.heap.size]? = some (.deferred (some []))) V hwV
      (fun s A B hs st => ⟨hI s A B hs.1 (st.mono (by omega)), heap_below st.below (by omega) hs.2.1, heap_below st.below (by omega) hs.2.2⟩)
      (fun s A B hs st => by
        obtain ⟨c, hc, hl, hk⟩ := hs
        exact ⟨c, hIx c s A B hc (st.mono (by omega)), heap_below st.below (by omega) hl, heap_below st.below (by omega) hk⟩)
      (fun s A hs => hK s A hs.1)
      ?_ ⟨hI [] w V h0 (Step.of_below (Nat.le_refl _) hwV), hL, hKd⟩).mono ?_
    · rintro pre x W ⟨hi, hl, hk⟩ hx
      have hlt : w.heap.size + 1 < W.heap.size := (Array.getElem?_eq_some_iff.1 hl).1
      have hy := run_yield (P := P) (args := encs x) hl (by rw [hrec]; exact hps x)
      rw [hrec] at hy
      refine ⟨fn, _, assign, body, hy, roundIn_of_wpIn hfn (hassign _ x W _ ⟨_, run_beginRound hl (by rw [hrec]), ?_⟩)⟩
      refine wpIn_mono (hbody _ pre x _ (hI pre W _ hi (Step.putObj W _ _ (by omega) hl rfl)) hx (by simp; omega)) ?_
      have fin : ∀ (jump : Option Code) (W3 : World), Round S (W.putObj (w.heap.size + 1) (.loop { rec .ready none with state := .busy })) W3 →
          (Instr.endRound (w.heap.size + 1) jump).run P W3 = .ok (.bool jump.isNone) (W3.putObj (w.heap.size + 1) (.loop (rec (if jump.isNone then .ready else .done) jump))) ∧
          W3.heap[w.heap.size + 1]? = some (.loop { rec .ready none with state := .busy }) ∧
          (W3.putObj (w.heap.size + 1) (.loop (rec (if jump.isNone then .ready else .done) jump))).heap[w.heap.size + 1]? = some (.loop (rec (if jump.isNone then .ready else .done) jump)) ∧
          (W3.putObj (w.heap.size + 1) (.loop (rec (if jump.isNone then .ready else .done) jump))).heap[w.heap.size]? = some (.deferred (some [])) := fun jump W3 hr3 => by
        have hl3 := hr3.same _ _ (World.putObj_heap_same (o := .loop { rec .ready none with state := .busy }) hlt) hS1 rfl
        have hk3 := hr3.same w.heap.size _ ((World.putObj_heap_other (by omega)).trans hk) hS0 rfl
        have he := run_endRound (P := P) jump hl3
        rw [hrec] at he ⊢
        exact ⟨he, by rw [hrec] at hl3; exact hl3, World.putObj_heap_same (Array.getElem?_eq_some_iff.1 hl3).1, (World.putObj_heap_other (by omega)).trans hk3⟩
      rintro e a3 W3 hp
      cases e with
      | normal =>
        obtain ⟨hr3, hi3⟩ := hp
        obtain ⟨he, hl3, hl4, hk4⟩ := fin none W3 hr3
        exact ⟨_, _, he, .inl ⟨rfl, hI _ _ _ hi3 (Step.putObj W3 _ _ (by omega) hl3 rfl), hl4, hk4⟩⟩
      | ret =>
        obtain ⟨hr3, hi3⟩ := hp
        obtain ⟨he, hl3, hl4, hk4⟩ := fin (some .ret) W3 hr3
        exact ⟨_, _, he, .inr ⟨rfl, .ret, hIx _ _ _ _ hi3 (Step.putObj W3 _ _ (by omega) hl3 rfl), hl4, hk4⟩⟩
      | exit id =>
        obtain ⟨hr3, hi3⟩ := hp
        obtain ⟨he, hl3, hl4, hk4⟩ := fin (some (.exit id)) W3 hr3
        exact ⟨_, _, he, .inr ⟨rfl, .exit id, hIx _ _ _ _ hi3 (Step.putObj W3 _ _ (by omega) hl3 rfl), hl4, hk4⟩⟩
      | goto t => exact hp.elim
      | panic ch => exact hp.elim
      | outgrown => exact hp.elim
    · rintro e W2 ⟨⟨v, rfl⟩, (⟨hi, hl, hk⟩ | ⟨pre, hpre, c, hi, hl, hk⟩)⟩
      · have he := run_endLoop (P := P) hl (by rw [hrec]; simp)
        rw [hrec] at he
        exact ⟨none, _, he, hdone _ _ (Nat.le_refl _) (hI xs W2 _ hi (Step.putObj W2 _ _ (by omega) hl rfl)) ((World.putObj_heap_other (by omega)).trans hk)⟩
      · have he := run_endLoop (P := P) hl (by rw [hrec]; simp)
        rw [hrec] at he
        exact ⟨some c, _, he, hstop _ c pre _ (Nat.le_refl _) hpre (hIx c pre W2 _ hi (Step.putObj W2 _ _ (by omega) hl rfl)) ((World.putObj_heap_other (by omega)).trans hk)⟩
end Go.Proofs.YtbkbncapgljfaaaGreatDoor.Rg
/- slices.Backward over a slice that nothing writes meanwhile: its elements come from the last to the first, to any loop. -/
namespace Go.Proofs.YtbkbncapgljfaaaGreatDoor
open Go Go.RowKit Go.Shelf
attribute [local go_sem] Oper.semAt_some

/-- A call in the wide fence. -/
theorem wide_call {P : Program} {n : Nat} {f : FuncId} {args : Array Value} {w : World} {R : Ending → World → Prop} (h : Calls P f args w R) :
    Fence.wide.fn f ∧ (Fence.wide.depth.isSome = true → 1 ≤ n) ∧ CallsIn Fence.wide (n - 1) P f args w R :=
  ⟨trivial, (fun h => by simp [Fence.wide] at h), callsIn_wide.2 h⟩
theorem wide_fn (f : FuncId) : Fence.wide.fn f = True := by simp [Fence.wide]
theorem wide_depth : Fence.wide.depth = none := rfl
attribute [local go_sem] wide_fn wide_depth

/-- The last r of n elements, from the last on. -/
def downL (X : Nat → Int) (n r : Nat) : List (Nat × Int) := (List.range r).map fun j => (n - 1 - j, X (n - 1 - j))
theorem downL_succ (X : Nat → Int) (n r : Nat) : downL X n (r + 1) = downL X n r ++ [(n - 1 - r, X (n - 1 - r))] := by simp [downL, List.range_succ]
theorem downL_length (X : Nat → Int) (n r : Nat) : (downL X n r).length = r := by simp [downL]
theorem downL_split (X : Nat → Int) (n r : Nat) (h : r < n) : ∃ post, downL X n n = downL X n r ++ (n - 1 - r, X (n - 1 - r)) :: post := by
  obtain ⟨k, hk⟩ : ∃ k, n = r + 1 + k := ⟨n - r - 1, by omega⟩
  refine ⟨(List.range k).map fun j => (n - 1 - (r + 1 + j), X (n - 1 - (r + 1 + j))), ?_⟩
  have : List.range n = List.range r ++ r :: (List.range k).map (fun j => r + 1 + j) := by
    rw [hk, List.range_add, List.range_succ, List.append_assoc, List.singleton_append]
  unfold downL
  rw [this]
  simp
/-- What comes at the place of a prefix. -/
theorem downL_at (X : Nat → Int) (n : Nat) {pre : List (Nat × Int)} {x : Nat × Int} (h : ∃ post, downL X n n = pre ++ x :: post) : pre.length < n ∧ pre = downL X n pre.length ∧ x = (n - 1 - pre.length, X (n - 1 - pre.length)) := by
  obtain ⟨post, h⟩ := h
  have hl := congrArg List.length h
  rw [downL_length] at hl
  simp at hl
  obtain ⟨post2, h2⟩ := downL_split X n pre.length (by omega)
  rw [h] at h2
  have := List.append_inj h2 (by rw [downL_length])
  obtain ⟨h3, h4⟩ := this
  cases h4
  exact ⟨by omega, h3, rfl⟩
theorem downL_pre (X : Nat → Int) (n : Nat) {pre : List (Nat × Int)} (h : ∃ post, downL X n n = pre ++ post) : pre.length ≤ n ∧ pre = downL X n pre.length := by
  obtain ⟨post, h⟩ := h
  have hl := congrArg List.length h
  rw [downL_length, List.length_append] at hl
  rcases post with _ | ⟨x, post⟩
  · rw [List.append_nil] at h
    simp at hl
    exact ⟨by omega, by rw [← hl]; exact h.symm⟩
  · have := downL_at X n ⟨post, h⟩
    exact ⟨by omega, this.2.1⟩

/-- What the iterator reads between two rounds. -/
def BkK (Bs : Nat) (sa : Option Addr) (B off n cap : Nat) (X : Nat → Int) (A : World) : Prop :=
  A.cell? ⟨Bs, 0, none⟩ = some (.slice sa n cap) ∧ (0 < n → sa = some ⟨B, off, none⟩) ∧ ∀ k, k < n → A.cell? ⟨B, off + k, none⟩ = some (.int .u64 (X k))

theorem backward_any (sa : Option Addr) (n cap : Nat) (w : World) :
    Calls Tryz.prog 81 #[.slice sa n cap] w fun e w' => e = .returned (.func (.func 97) #[] #[.pointer (some ⟨w.heap.size, 0, none⟩)]) ∧ w' = w.alloc (.cells #[.slice sa n cap] 95) := by
  go_enter Tryz.func81, Tryz.ntmps81
  go_wp2
  go_ret
  exact ⟨rfl, rfl⟩

set_option maxRecDepth 100000 in
set_option maxHeartbeats 2000000 in
theorem backward_gives (Bs : Nat) (sa : Option Addr) (B off n cap : Nat) (X : Nat → Int) (hn : n ≤ 1099511627776) (d : Nat) (w : World) :
    Rg.Gives Fence.wide d Tryz.prog 97 #[.pointer (some ⟨Bs, 0, none⟩)] (fun x : Nat × Int => #[.int .i64 (x.1 : Nat), .int .u64 x.2]) (downL X n n) w (BkK Bs sa B off n cap X) := by
  intro l J Jx W hbW hJ hJx hK hY h0
  show CallsIn Fence.wide d Tryz.prog 97 #[.func (.yield l) #[] #[], .pointer (some ⟨Bs, 0, none⟩)] W _
  have c0 := (hK _ _ h0).1
  have hnw : IntKind.i64.wrap ((n : Int) - 1) = (n : Int) - 1 := by rw [IntKind.wrap_i64]; omega
  have hnn : (n : Int) ≤ 1099511627776 := by omega
  refine callsIn_of_wp Tryz.func97 rfl trivial ?_ rfl
  simp only [Tryz.ntmps97, List.size_toArray, List.length_cons, List.length_nil, Nat.reduceAdd, Nat.reduceSub, Array.replicate_succ, Array.replicate_zero, List.push_toArray, List.append_toArray, List.nil_append, List.cons_append]
  gi_wp2
  gi_loopw [3] (fun i wr => ∃ r : Nat, r ≤ n ∧ i = .int .i64 ((n : Int) - 1 - (r : Int)) ∧ J (downL X n r) wr) (fun i _ => ((intOf i) + 1).toNat)
  case atStart => exact ⟨0, Nat.zero_le _, by simp, h0⟩
  case round =>
    obtain ⟨r, hr, rfl, hJs⟩ := hrel
    clear c0 hnw
    by_cases h1 : r < n
    · obtain ⟨k, hk⟩ : ∃ k : Nat, n - 1 - r = k := ⟨_, rfl⟩
      have hki : (n : Int) - 1 - (r : Int) = (k : Int) := by omega
      obtain ⟨c0, c1, c2⟩ := hK _ _ hJs
      obtain rfl := c1 (by omega)
      have hx := c2 k (by omega)
      have hkn : (k : Int) < (n : Int) := by omega
      obtain ⟨fn, tmps, assign, body, hy, hR⟩ := hY (downL X n r) (n - 1 - r, X (n - 1 - r)) wr hJs (downL_split X n r h1)
      have hS := Lib.hid (downL_succ X n r)
      rw [hk] at hy hR hS
      dsimp only at hy
      rw [hki]
      have HKI := Lib.hid hki
      generalize X k = x at *
      clear c1 c2 hk hki
      gi_wp2_with fail
      refine hR.mono ?_
      rintro e W3 (⟨rfl, hJ3⟩ | ⟨rfl, hJx3⟩)
      · gi_wp2
        go_roundw
        case rel => exact ⟨r + 1, by omega, by rw [← HKI.out]; congr 1; omega, by rw [hS.out]; exact hJ3⟩
        case measure => simp [intOf]
      · gi_wp2
        refine bodyPost_ret (results_none rfl _ _ _) rfl ?_
        obtain ⟨post, hp⟩ := downL_split X n r h1
        exact ⟨⟨_, rfl⟩, .inr ⟨_, ⟨post, by rw [hp, ← hS.out, downL_succ]; simp⟩, hJx3⟩⟩
    · obtain rfl : r = n := by omega
      have hm : ¬ (0 : Int) ≤ (r : Int) - 1 - (r : Int) := by omega
      gi_wp2
      go_end0
      exact ⟨⟨_, rfl⟩, .inl hJs⟩
end Go.Proofs.YtbkbncapgljfaaaGreatDoor
/- Contracts of the functions that look at an integer's text: digits, digit, decimal, canonical. -/
namespace Go.Proofs.YtbkbncapgljfaaaGreatDoor
open Go Go.RowKit Go.Shelf

theorem ret_bool {a b : Bool} (h : a = b) : Ending.returned (.bool a) = .returned (.bool b) := by rw [h]
theorem ret_int {k : IntKind} {a b : Int} (h : a = b) : Ending.returned (.int k a) = .returned (.int k b) := by rw [h]
theorem ret_str {a b : ByteArray} (h : a = b) : Ending.returned (.string a) = .returned (.string b) := by rw [h]
theorem ext_bytes {s t : ByteArray} (h : s.data.toList = t.data.toList) : s = t := by
  cases s; cases t; congr 1; exact Array.toList_inj.1 h
theorem bytes_ext {s : ByteArray} {l : List UInt8} (h : s.data.toList = l) : s = ⟨l.toArray⟩ := ext_bytes (by rw [h])
theorem size_list (s : ByteArray) : s.data.toList.length = s.size := Array.length_toList
theorem size_mk (l : List UInt8) : (ByteArray.mk l.toArray).size = l.length := by rw [← size_list]
theorem extract_take (s : ByteArray) (k : Nat) : s.extract 0 k = ⟨(s.data.toList.take k).toArray⟩ := bytes_ext (by rw [Lib.extract_data]; simp)
theorem getElem_list (s : ByteArray) (k : Nat) (_h : k < s.size) (h' : k < s.data.toList.length) : s.data.toList[k] = s[k] := by simp; rfl
theorem all_false {l : List UInt8} {k : Nat} (h : k < l.length) (hd : Im.isD l[k] = false) : l.all Im.isD = false := by
  cases hl : l.all Im.isD with
  | false => rfl
  | true => rw [List.all_eq_true.1 hl _ (List.getElem_mem h)] at hd; cases hd
theorem take_all {l : List UInt8} {k : Nat} (h : k < l.length) (ha : (l.take k).all Im.isD = true) (hd : Im.isD l[k] = true) : (l.take (k + 1)).all Im.isD = true := by
  rw [List.take_succ_eq_append_getElem h, List.all_append, ha]; simp [hd]

theorem trim_dgs (l : List UInt8) : Lib.trimPrefix l [45] = Im.dgs l := by
  cases l with
  | nil => rfl
  | cons c r =>
    unfold Im.dgs Lib.trimPrefix Lib.hasPrefix
    by_cases h : c = 45
    · subst h; simp
    · simp [h, Ne.symm h]

theorem digits_any (s : ByteArray) (w : World) :
    Calls Tryz.prog 63 #[.string s] w fun e w' => e = .returned (.string ⟨(Im.dgs s.data.toList).toArray⟩) ∧ w' = w := by
  have t := fun W => Tryz.strings_TrimPrefix s ⟨#[45]⟩ W
  have e : Lib.trimPrefix s.data.toList (ByteArray.mk #[45]).data.toList = Im.dgs s.data.toList := trim_dgs _
  rw [e] at t
  have T := Lib.hid t
  clear t e
  go_enter Tryz.func63, Tryz.ntmps63
  go_wp2_with fail
  refine (T.out _).mono ?_
  rintro e w' ⟨rfl, rfl⟩
  go_wp2
  go_ret
  exact ⟨rfl, rfl⟩

theorem digit_any (b : UInt8) (w : World) :
    Calls Tryz.prog 109 #[.int .u8 (b.toNat : Int)] w fun e w' => e = .returned (.bool (Im.isD b)) ∧ w' = w := by
  by_cases c1 : 48 ≤ b.toNat
  · have c2 : (48 : Int) ≤ (b.toNat : Int) := by omega
    have h : Im.isD b = decide ((b.toNat : Int) ≤ 57) := by unfold Im.isD; rw [show decide (48 ≤ b.toNat) = true by simpa using c1, Bool.true_and]; congr 1; apply propext; omega
    rw [h]
    go_enter Tryz.func109, Tryz.ntmps109
    go_wp2
    go_ret
    exact ⟨rfl, rfl⟩
  · have c2 : ¬ (48 : Int) ≤ (b.toNat : Int) := by omega
    have h : Im.isD b = false := by unfold Im.isD; rw [show decide (48 ≤ b.toNat) = false by simpa using c1, Bool.false_and]
    rw [h]
    go_enter Tryz.func109, Tryz.ntmps109
    go_wp2
    go_ret
    exact ⟨rfl, rfl⟩

set_option maxHeartbeats 1000000 in
theorem decimal_any (s : ByteArray) (hs : s.size ≤ 1048576) (w : World) :
    Calls Tryz.prog 95 #[.string s] w fun e w' => e = .returned (.bool (s.data.toList.all Im.isD)) ∧ w' = w := by
  have hsl := size_list s
  have HSL := Lib.hid hsl
  have D := Lib.hid (fun b W => digit_any b W)
  obtain ⟨R, hR⟩ : ∃ R, s.data.toList.all Im.isD = R := ⟨_, rfl⟩
  have HR := Lib.hid hR
  rw [hR]
  clear hR hsl
  go_enter Tryz.func95, Tryz.ntmps95
  go_wp2_with fail
  go_loop [6] (fun i => ∃ k : Nat, k ≤ s.size ∧ i = .int .i64 (k : Int) ∧ (s.data.toList.take k).all Im.isD = true) (fun i => s.size - (intOf i).toNat)
  case atStart => exact ⟨0, Nat.zero_le _, rfl, rfl⟩
  case round =>
    obtain ⟨k, hk, rfl, ha⟩ := hrel
    have HA := Lib.hid ha
    clear ha
    by_cases h1 : k < s.size
    · have hkl : k < s.data.toList.length := by rw [HSL.out]; exact h1
      have hg := getElem_list s k h1 hkl
      have HG := Lib.hid hg
      clear hg
      cases c1 : Im.isD s[k] with
      | false =>
        have hr : R = false := by rw [← HR.out]; exact all_false hkl (by rw [HG.out]; exact c1)
        subst hr
        have d := fun W => D.out s[k] W
        rw [c1] at d
        have DD := Lib.hid d
        clear d c1
        go_wp2_with fail
        refine (DD.out _).mono ?_
        rintro e w' ⟨rfl, rfl⟩
        go_wp2
        go_ret
        exact ⟨rfl, rfl⟩
      | true =>
        have hn := take_all hkl HA.out (by rw [HG.out]; exact c1)
        have HN := Lib.hid hn
        have d := fun W => D.out s[k] W
        rw [c1] at d
        have DD := Lib.hid d
        clear hn d c1
        go_wp2_with fail
        refine (DD.out _).mono ?_
        rintro e w' ⟨rfl, rfl⟩
        go_wp2
        go_round
        case rel => exact ⟨k + 1, by omega, by go_num, HN.out⟩
        case measure => simp [intOf]; omega
    · obtain rfl : k = s.size := by omega
      have ha := HA.out
      rw [List.take_of_length_le (by rw [HSL.out]; exact Nat.le_refl _)] at ha
      have hr : true = R := by rw [← HR.out, ha]
      subst hr
      clear ha
      go_wp2
      go_ret
      exact ⟨rfl, rfl⟩

theorem toList_eq (s : ByteArray) : s.toList = s.data.toList := Lib.toList_data s

set_option maxHeartbeats 1000000 in
theorem canonical_any (s : ByteArray) (hs : s.size ≤ 1048576) (w : World) :
    Calls Tryz.prog 76 #[.string s] w fun e w' => e = .returned (.bool (Im.canonI s.data.toList)) ∧ w' = w := by
  have t := fun W => digits_any s W
  have D := Lib.hid (fun s hs W => decimal_any s hs W)
  have hlen : (Im.dgs s.data.toList).length ≤ s.size := by
    unfold Im.dgs
    split
    · rw [List.length_tail, size_list]; omega
    · rw [size_list]; omega
  by_cases h0 : s.data.toList = [48]
  · have T := Lib.hid t
    have hr : Im.canonI s.data.toList = true := by rw [h0]; rfl
    rw [hr]
    rw [← toList_eq] at h0
    clear t hr hlen
    go_enter Tryz.func76, Tryz.ntmps76
    go_wp2_with fail
    refine (T.out _).mono ?_
    rintro e w' ⟨rfl, rfl⟩
    go_wp2
    go_ret
    exact ⟨rfl, rfl⟩
  · have h0' : (s.toList == [48]) = false := by rw [toList_eq, beq_eq_false_iff_ne]; exact h0
    have hr : Im.canonI s.data.toList = (!(Im.dgs s.data.toList).isEmpty && (Im.dgs s.data.toList).head? != some 48 && (Im.dgs s.data.toList).all Im.isD) := by
      unfold Im.canonI
      rw [show (s.data.toList == [48]) = false by rw [beq_eq_false_iff_ne]; exact h0, Bool.false_or]
    rw [hr]
    have h0'' : ¬ s.toList = [48] := by rw [toList_eq]; exact h0
    generalize Im.dgs s.data.toList = d at *
    have T := Lib.hid t
    clear t hr h0
    cases d with
    | nil =>
      go_enter Tryz.func76, Tryz.ntmps76
      go_wp2_with fail
      refine (T.out _).mono ?_
      rintro e w' ⟨rfl, rfl⟩
      go_wp2
      go_ret
      exact ⟨ret_bool (by simp), rfl⟩
    | cons c r =>
      by_cases hc : c = 48
      · subst hc
        go_enter Tryz.func76, Tryz.ntmps76
        go_wp2_with fail
        refine (T.out _).mono ?_
        rintro e w' ⟨rfl, rfl⟩
        go_wp2
        go_ret
        exact ⟨ret_bool (by simp), rfl⟩
      · have hc1 : ¬ ((c.toNat : Int) = 48) := fun e => hc (by apply UInt8.toNat_inj.1; show c.toNat = 48; omega)
        have d1 := fun W => D.out ⟨(c :: r).toArray⟩ (by rw [size_mk]; omega) W
        have e1 : (!(c :: r).isEmpty && (c :: r).head? != some 48 && (c :: r).all Im.isD) = (c :: r).all Im.isD := by simp [hc]
        rw [e1]
        change ∀ W, Calls Tryz.prog 95 #[.string ⟨(c :: r).toArray⟩] W fun e w' => e = .returned (.bool ((c :: r).all Im.isD)) ∧ w' = W at d1
        have DD := Lib.hid d1
        generalize (c :: r).all Im.isD = R at *
        clear d1 e1 hlen
        go_enter Tryz.func76, Tryz.ntmps76
        go_wp2_with fail
        refine (T.out _).mono ?_
        rintro e w' ⟨rfl, rfl⟩
        go_wp2_with (first | (go_at_call 95; refine (DD.out _).mono ?_; rintro e w' ⟨rfl, rfl⟩) | fail)
        go_ret
        exact ⟨ret_bool (show ((c.toNat : Int) != 48 && R) = R by rw [show ((c.toNat : Int) != 48) = true by simpa using hc1, Bool.true_and]), rfl⟩

/-- What the walks ask of memory: the table of powers of ten, and the cell of MaxLen. -/
structure Gi (W : World) : Prop where
  tab : Lib.TabIs Tryz.prog W "internal/strconv.uint64pow10" .u64 Lib.pow10Tab
  mx : ∃ m, W.cell? ⟨3, 0, none⟩ = some (.int .i64 m)
  size : 4 ≤ W.heap.size
theorem Gi.below {w w' : World} (h : Gi w) (hb : Below w.heap.size w w') : Gi w' where
  size := Nat.le_trans h.size hb.size
  tab := Joins.tab_stays (g := 0) (by kernel_rfl) h.tab hb (Nat.le_refl _)
  mx := h.mx.imp fun m hm => (hb.cell (p := ⟨3, 0, none⟩) (by have := h.size; simp; omega)).trans hm
theorem of_any (n : Int) (h0 : -9223372036854775808 ≤ n) (h1 : n ≤ 9223372036854775807) (w : World) (G : Gi w) :
    Calls Tryz.prog 61 #[.int .i64 n] w fun e w' => e = .returned (.string ⟨(Lib.itoa n).toArray⟩) ∧ Below w.heap.size w w' := by
  have T := Lib.hid (Tryz.strconv_Itoa n h0 h1 w G.tab)
  go_enter Tryz.func61, Tryz.ntmps61
  go_wp2_with fail
  refine T.out.mono ?_
  rintro e w' ⟨rfl, k, os, rfl⟩
  go_wp2
  go_ret
  exact ⟨rfl, Lib.below_grow _ w (Nat.le_refl _) k os⟩

theorem parse_digits : ∀ (l : List UInt8) (acc : Nat), l.all Im.isD = true → acc * 10 ^ l.length + Im.valL l < 18446744073709551616 → Lib.parseUint10 acc l = .ok (acc * 10 ^ l.length + Im.valL l)
  | [], acc, _, _ => by simp [Lib.parseUint10, Im.valL]
  | c :: r, acc, h, hlt => by
    obtain ⟨h1, h2⟩ : Im.isD c = true ∧ r.all Im.isD = true := by simpa using h
    have h3 := Im.isD_iff.1 h1
    have hv : Im.valL (c :: r) = (c.toNat - 48) * 10 ^ r.length + Im.valL r := by
      rw [show c :: r = [c] ++ r from rfl, Im.val_append, Im.val_one]
    have e : acc * 10 ^ (c :: r).length + Im.valL (c :: r) = (acc * 10 + (c.toNat - 48)) * 10 ^ r.length + Im.valL r := by
      rw [hv, List.length_cons, Nat.pow_succ, Nat.add_mul, Nat.mul_assoc, Nat.mul_comm 10 (10 ^ r.length), Nat.add_assoc]
    rw [e] at hlt ⊢
    have hp : 1 ≤ 10 ^ r.length := Nat.pow_pos (by decide)
    have hb : acc * 10 + (c.toNat - 48) ≤ (acc * 10 + (c.toNat - 48)) * 10 ^ r.length := Nat.le_mul_of_pos_right _ hp
    unfold Lib.parseUint10
    rw [if_pos h3, if_neg (by omega), if_neg (by omega)]
    exact parse_digits r _ h2 hlt
/-- Atoi of an integer that fits. -/
theorem atoi_canon {l : List UInt8} (h : Im.canonI l = true) (hl : (Im.dgs l).length ≤ 18) : Lib.atoiAll l = .ok (Im.ivL l) := by
  obtain ⟨h1, h2⟩ := Im.canonI_canon h
  obtain ⟨h3, h4, h5⟩ := Im.canonL_iff.1 h1
  have hlt := Im.val_lt h4
  have hp : 10 ^ (Im.dgs l).length ≤ 10 ^ 18 := Nat.pow_le_pow_right (by decide) hl
  have hpm : Lib.parseMag (Im.dgs l) = .ok (Im.valL (Im.dgs l)) := by
    unfold Lib.parseMag
    rw [if_neg h3]
    have := parse_digits (Im.dgs l) 0 h4 (by omega)
    simpa using this
  cases l with
  | nil => exact absurd h (by decide)
  | cons c r =>
    by_cases hc : c = 45
    · subst hc
      have e : Im.dgs (45 :: r) = r := rfl
      rw [e] at hlt hp hpm h4 hl
      unfold Lib.atoiAll
      simp only [show (45 : UInt8).toNat = 45 from rfl, or_true, if_true, hpm, not_true_eq_false, false_and, if_false, true_and]
      rw [if_neg (by omega)]
      rfl
    · have e : Im.dgs (c :: r) = c :: r := by unfold Im.dgs; rw [if_neg (by simpa using hc)]
      have e2 : Im.ivL (c :: r) = (Im.valL (c :: r) : Int) := by unfold Im.ivL; rw [if_neg (by simpa using hc)]
      rw [e] at hlt hp hpm h4 hl
      have hd : Im.isD c = true := List.all_eq_true.1 h4 c (by simp)
      have hd2 := Im.isD_iff.1 hd
      unfold Lib.atoiAll
      simp only
      rw [if_neg (by omega), hpm]
      simp only
      rw [if_neg (by omega), if_neg (by omega), if_neg (by omega), e2]

theorem ivL_abs (l : List UInt8) : (Im.ivL l).natAbs = Im.valL (Im.dgs l) := by
  unfold Im.ivL Im.dgs
  split <;> simp
/-- What Small returns. -/
def smallV (l : List UInt8) : Int := if Im.canonI l = true ∧ (Im.dgs l).length ≤ 18 then Im.ivL l else 0
def smallB (l : List UInt8) : Bool := Im.canonI l && decide ((Im.dgs l).length ≤ 18)

set_option maxHeartbeats 1000000 in
theorem small_any (s : ByteArray) (hs : s.size ≤ 1048576) (w : World) :
    Calls Tryz.prog 75 #[.string s] w fun e w' => e = .returned (.tuple #[.int .i64 (smallV s.data.toList), .bool (smallB s.data.toList)]) ∧ Below w.heap.size w w' := by
  have T := Lib.hid (fun W => digits_any s W)
  have c := fun W => canonical_any s hs W
  by_cases h1 : 18 < (Im.dgs s.data.toList).length
  · have e1 : smallV s.data.toList = 0 := by unfold smallV; rw [if_neg (by omega)]
    have e2 : smallB s.data.toList = false := by unfold smallB; simp; intro; omega
    rw [e1, e2]
    clear c
    have h2 : (18 : Int) < ((Im.dgs s.data.toList).length : Int) := by omega
    go_enter Tryz.func75, Tryz.ntmps75
    go_wp2_with fail
    refine (T.out _).mono ?_
    rintro e w' ⟨rfl, rfl⟩
    go_wp2
    exact bodyPost_ret (v := .tuple #[.int .i64 0, .bool false]) (by simp [results, Tryz.results75, go_sem]) rfl ⟨rfl, Below.refl _ _⟩
  · have h2 : ¬ (18 : Int) < ((Im.dgs s.data.toList).length : Int) := by omega
    cases hc : Im.canonI s.data.toList with
    | false =>
      have e1 : smallV s.data.toList = 0 := by unfold smallV; rw [if_neg (by rw [hc]; simp)]
      have e2 : smallB s.data.toList = false := by unfold smallB; rw [hc]; rfl
      rw [hc] at c
      have C := Lib.hid c
      rw [e1, e2]
      clear c hc e1 e2
      go_enter Tryz.func75, Tryz.ntmps75
      go_wp2_with fail
      refine (T.out _).mono ?_
      rintro e w' ⟨rfl, rfl⟩
      go_wp2_with fail
      refine (C.out _).mono ?_
      rintro e w' ⟨rfl, rfl⟩
      go_wp2
      exact bodyPost_ret (v := .tuple #[.int .i64 0, .bool false]) (by simp [results, Tryz.results75, go_sem]) rfl ⟨rfl, Below.refl _ _⟩
    | true =>
      have e1 : smallV s.data.toList = Im.ivL s.data.toList := by unfold smallV; rw [if_pos ⟨hc, by omega⟩]
      have e2 : smallB s.data.toList = true := by unfold smallB; rw [hc]; simp; omega
      have A := Lib.hid (fun W => Tryz.strconv_Atoi_ok s (by omega) (Im.ivL s.data.toList) (atoi_canon hc (by omega)) W)
      rw [hc] at c
      have C := Lib.hid c
      rw [e1, e2]
      clear c hc e1 e2
      go_enter Tryz.func75, Tryz.ntmps75
      go_wp2_with fail
      refine (T.out _).mono ?_
      rintro e w' ⟨rfl, rfl⟩
      go_wp2_with fail
      refine (C.out _).mono ?_
      rintro e w' ⟨rfl, rfl⟩
      go_wp2_with fail
      refine (A.out _).mono ?_
      rintro e w2 ⟨rfl, hw⟩
      have hb : Below w'.heap.size w' w2 := by
        rcases hw with rfl | ⟨t, rfl⟩
        · exact Below.refl _ _
        · exact Lib.bytesWorld_below _ _ _
      clear hw
      go_wp2_with (go_quiet (fail))
      exact bodyPost_ret (v := .tuple #[.int .i64 (Im.ivL s.data.toList), .bool true]) (by simp [results, Tryz.results75, go_sem]) rfl ⟨rfl, hb.trans ⟨rfl, rfl, rfl, Nat.le_refl _, fun _ _ => rfl⟩⟩

set_option maxHeartbeats 1000000 in
theorem pair_any (s t : ByteArray) (hs : s.size ≤ 1048576) (ht : t.size ≤ 1048576) (w : World) :
    Calls Tryz.prog 64 #[.string s, .string t] w fun e w' => e = .returned (.tuple #[.int .i64 (smallV s.data.toList), .int .i64 (smallV t.data.toList), .bool (smallB s.data.toList && smallB t.data.toList)]) ∧ Below w.heap.size w w' := by
  have S := Lib.hid (fun W => small_any s hs W)
  have T := Lib.hid (fun W => small_any t ht W)
  cases h : smallB s.data.toList with
  | false =>
    rw [h] at S
    go_enter Tryz.func64, Tryz.ntmps64
    go_wp2_with fail
    refine (S.out _).mono ?_
    rintro e w1 ⟨rfl, hb1⟩
    go_wp2_with fail
    refine (T.out _).mono ?_
    rintro e w2 ⟨rfl, hb2⟩
    go_wp2
    exact bodyPost_ret (v := .tuple #[.int .i64 (smallV s.data.toList), .int .i64 (smallV t.data.toList), .bool false]) (by simp [results, Tryz.results64, go_sem]) rfl ⟨rfl, hb1.trans (hb2.mono hb1.size)⟩
  | true =>
    rw [h] at S
    go_enter Tryz.func64, Tryz.ntmps64
    go_wp2_with fail
    refine (S.out _).mono ?_
    rintro e w1 ⟨rfl, hb1⟩
    go_wp2_with fail
    refine (T.out _).mono ?_
    rintro e w2 ⟨rfl, hb2⟩
    go_wp2
    exact bodyPost_ret (v := .tuple #[.int .i64 (smallV s.data.toList), .int .i64 (smallV t.data.toList), .bool (smallB t.data.toList)]) (by simp [results, Tryz.results64, go_sem]) rfl ⟨rfl, hb1.trans (hb2.mono hb1.size)⟩

/-- What Check returns. -/
def chkL (l : List UInt8) : Int := if Im.canonI l = true ∧ (Im.dgs l).length ≤ 400 then 0 else 2
end Go.Proofs.YtbkbncapgljfaaaGreatDoor
/- Magnitudes in memory: rows of pieces; pieceOf and trimmed. -/
namespace Go.Proofs.YtbkbncapgljfaaaGreatDoor
open Go Go.RowKit Go.Shelf

/-- a block of two cells, with what they hold; it may be written -/
structure Two (w : World) (b : Nat) (x y : Value) : Prop where
  fst : w.cell? ⟨b, 0, none⟩ = some x
  snd : w.cell? ⟨b, 1, none⟩ = some y
  lt : b < w.heap.size
  free : ∀ o, w.frozen? ⟨b, o, none⟩ = false
theorem Two.new (w : World) (x y : Value) (T : TypeId) : Two (w.alloc (.cells #[x, y] T)) w.heap.size x y := ⟨by simp, by simp, by simp, fun _ => by simp⟩
theorem Two.below {w w1 : World} {b : Nat} {x y : Value} (h : Two w b x y) (hb : Below w.heap.size w w1) : Two w1 b x y :=
  ⟨(hb.cell (p := ⟨b, 0, none⟩) h.lt).trans h.fst, (hb.cell (p := ⟨b, 1, none⟩) h.lt).trans h.snd, Nat.lt_of_lt_of_le h.lt hb.size, fun o => (hb.frozen (p := ⟨b, o, none⟩) h.lt).trans (h.free o)⟩
theorem Two.alloc {w : World} {b : Nat} {x y : Value} (h : Two w b x y) (o : Obj) : Two (w.alloc o) b x y :=
  h.below ((Below.refl _ _).alloc (Nat.le_refl _) o)

/-- a contract that draws some answers, met behind earlier draws -/
theorem quiet_more {P : Program} {f : FuncId} {xs : Array Value} {W : World} {i j : Nat} {v : Value}
    (h : Calls P f xs (W.drewN (i + j)) fun e w' => e = .returned v ∧ ∃ m, w' = (W.drewN (i + j)).drewN m) :
    Calls P f xs (W.drewN (i + j)) fun e w' => e = .returned v ∧ ∃ m, w' = W.drewN (i + m) := by
  refine h.mono fun e w' hh => ⟨hh.1, ?_⟩
  obtain ⟨m, hm⟩ := hh.2
  exact ⟨j + m, by rw [hm, World.drewN_drewN, Nat.add_assoc]⟩
/-- a contract that leaves the world as it was, met behind earlier draws -/
theorem still_more {P : Program} {f : FuncId} {xs : Array Value} {W : World} {i j : Nat} {v : Value}
    (h : Calls P f xs (W.drewN (i + j)) fun e w' => e = .returned v ∧ W.drewN (i + j) = w') :
    Calls P f xs (W.drewN (i + j)) fun e w' => e = .returned v ∧ ∃ m, w' = W.drewN (i + m) :=
  h.mono fun _ _ hh => ⟨hh.1, j, hh.2.symm⟩
/-- the same, met at the first draws -/
theorem still_here {P : Program} {f : FuncId} {xs : Array Value} {W : World} {j : Nat} {v : Value}
    (h : Calls P f xs (W.drewN j) fun e w' => e = .returned v ∧ W.drewN j = w') :
    Calls P f xs (W.drewN j) fun e w' => e = .returned v ∧ ∃ m, w' = W.drewN m :=
  h.mono fun _ _ hh => ⟨hh.1, j, hh.2.symm⟩

/-- The base of the pieces. -/
def BB : Nat := 1000000000
theorem bb2 : 2 ≤ BB := by unfold BB; omega
def nd (x : Nat) : Nat := Im.nd BB x
def dg (x k : Nat) : Nat := Im.dg BB x k
theorem dg_lt (x k : Nat) : dg x k < 1000000000 := Im.dg_lt bb2 x k
theorem nd_zero : nd 0 = 0 := Im.nd_zero
theorem nd_pos_iff {x : Nat} : nd x = 0 ↔ x = 0 := ⟨Im.nd_eq_zero bb2, fun h => by subst h; exact Im.nd_zero⟩

/-- A row of n pieces of x, at a slice. -/
structure Row (W : World) (sa : Option Addr) (n cap b o x : Nat) : Prop where
  cap : n ≤ cap
  at_ : 0 < n → sa = some ⟨b, o, none⟩
  lt : 0 < n → b < W.heap.size
  cell : ∀ k, k < n → W.cell? ⟨b, o + k, none⟩ = some (.int .u64 (dg x k : Nat))
  fits : x < BB ^ n

theorem Row.below {W W' : World} {B : Nat} {sa : Option Addr} {n cap b o x : Nat} (h : Row W sa n cap b o x) (hb : Below B W W') (hB : W.heap.size ≤ B) : Row W' sa n cap b o x :=
  ⟨h.cap, h.at_, fun p => Nat.lt_of_lt_of_le (h.lt p) hb.size, fun k hk => (hb.cell (p := ⟨b, o + k, none⟩) (Nat.lt_of_lt_of_le (h.lt (by omega)) hB)).trans (h.cell k hk), h.fits⟩
theorem Row.set {W : World} {sa : Option Addr} {n cap b o x : Nat} (h : Row W sa n cap b o x) (p : Addr) (hp : 0 < n → b ≠ p.block) (v : Value) : Row (W.setCell p v) sa n cap b o x :=
  ⟨h.cap, h.at_, fun q => by have := h.lt q; simpa [World.setCell] using this, fun k hk => (World.cell?_setCell_other _ _ _ _ (fun e => hp (by omega) (by have := congrArg Addr.block e; simpa using this.symm))).trans (h.cell k hk), h.fits⟩
theorem Row.trim {W : World} {sa : Option Addr} {n cap b o x : Nat} (h : Row W sa n cap b o x) : Row W sa (nd x) cap b o x := by
  have hn : nd x ≤ n := Im.nd_le bb2 h.fits
  exact ⟨Nat.le_trans hn h.cap, fun p => h.at_ (by omega), fun p => h.lt (by omega), fun k hk => h.cell k (by omega), Im.lt_pow_nd bb2 x⟩

set_option maxHeartbeats 1000000 in
theorem pieceOf_any (s : ByteArray) (hs : s.size ≤ 9) (ha : s.data.toList.all Im.isD = true) (w : World) :
    Calls Tryz.prog 77 #[.string s] w fun e w' => e = .returned (.int .u64 (Im.valL s.data.toList : Nat)) ∧ w' = w := by
  have hsl := size_list s
  have HSL := Lib.hid hsl
  have HA := Lib.hid ha
  clear ha hsl
  go_enter Tryz.func77, Tryz.ntmps77
  go_wp2_with fail
  go_loop [3, 7] (fun n i => ∃ k : Nat, k ≤ s.size ∧ i = .int .i64 (k : Int) ∧ n = .int .u64 (Im.valL (s.data.toList.take k) : Nat)) (fun _ i => s.size - (intOf i).toNat)
  case atStart => exact ⟨0, Nat.zero_le _, rfl, rfl⟩
  case round =>
    obtain ⟨k, hk, rfl, rfl⟩ := hrel
    by_cases h1 : k < s.size
    · have hkl : k < s.data.toList.length := by rw [HSL.out]; exact h1
      have hd : Im.isD s[k] = true := by rw [← getElem_list s k h1 hkl]; exact List.all_eq_true.1 HA.out _ (List.getElem_mem hkl)
      obtain ⟨d1, d2⟩ := Im.isD_iff.1 hd
      have hn : Im.valL (s.data.toList.take (k + 1)) = 10 * Im.valL (s.data.toList.take k) + (s[k].toNat - 48) := by
        rw [List.take_succ_eq_append_getElem hkl, Im.val_snoc, getElem_list s k h1 hkl]
      have HN := Lib.hid hn
      have hle := Im.val_lt (Im.all_take HA.out k)
      have hp : 10 ^ (s.data.toList.take k).length ≤ 10 ^ 9 := Nat.pow_le_pow_right (by decide) (by rw [List.length_take]; omega)
      have hle2 : Im.valL (s.data.toList.take k) < 1000000000 := by omega
      clear hn hd hle hp
      generalize Im.valL (s.data.toList.take k) = v at *
      go_wp2
      go_round
      case rel => exact ⟨k + 1, by omega, by go_num, by rw [HN.out]; congr 1; omega⟩
      case measure => simp [intOf]; omega
    · obtain rfl : k = s.size := by omega
      go_wp2
      go_ret
      exact ⟨ret_int (by rw [List.take_of_length_le (by rw [HSL.out]; exact Nat.le_refl _)]), rfl⟩

set_option maxHeartbeats 1000000 in
theorem trimmed_any (sa : Option Addr) (n cap b o x : Nat) (w : World) (h : Row w sa n cap b o x) (hn : n ≤ 1048576) :
    Calls Tryz.prog 78 #[.slice sa n cap] w fun e w' => e = .returned (.slice sa (nd x) cap) ∧ w' = w := by
  have H := Lib.hid h
  have hcap := h.cap
  clear h
  go_enter Tryz.func78, Tryz.ntmps78
  go_wp2_with fail
  go_loop [0] (fun v => ∃ m : Nat, m ≤ n ∧ v = .slice sa m cap ∧ x < BB ^ m) (fun v => match v with | .slice _ m _ => m | _ => 0)
  case atStart => exact ⟨n, Nat.le_refl _, rfl, H.out.fits⟩
  case round =>
    obtain ⟨m, hm, rfl, hx⟩ := hrel
    have HX := Lib.hid hx
    clear hx
    cases m with
    | zero =>
      have hx0 : nd x = 0 := nd_pos_iff.2 (by have := HX.out; simp at this; omega)
      go_wp2
      go_ret
      exact ⟨rfl, rfl⟩
    | succ m =>
      have hc := H.out.cell m (by omega)
      obtain rfl := H.out.at_ (by omega)
      have hl := dg_lt x m
      have hd1 : dg x m ≠ 0 → nd x = m + 1 := fun h0 => Im.nd_of_dg bb2 HX.out h0
      have hd0 : dg x m = 0 → x < BB ^ m := fun h0 => Im.lt_of_dg bb2 HX.out h0
      have HD1 := Lib.hid hd1
      have HD0 := Lib.hid hd0
      clear hd1 hd0
      generalize dg x m = d at *
      by_cases h0 : d = 0
      · subst h0
        go_wp2
        go_round
        case rel => exact ⟨m, by omega, rfl, HD0.out rfl⟩
        case measure => simp
      · have h1 : ¬ (d : Int) = 0 := by omega
        go_wp2
        go_ret
        rw [HD1.out h0]
        exact ⟨rfl, rfl⟩
end Go.Proofs.YtbkbncapgljfaaaGreatDoor
/- Numbers in memory; read. -/
namespace Go.Proofs.YtbkbncapgljfaaaGreatDoor
open Go Go.RowKit Go.Shelf

/-- The number z in memory. -/
def Num (W : World) (v : Value) (z : Int) : Prop :=
  ∃ (neg : Bool) (sa : Option Addr) (cap b o : Nat), v = .agg #[.bool neg, .slice sa (nd z.natAbs) cap] ∧ Row W sa (nd z.natAbs) cap b o z.natAbs ∧ (z ≠ 0 → neg = decide (z < 0))
theorem Num.below {W W' : World} {B : Nat} {v : Value} {z : Int} (h : Num W v z) (hb : Below B W W') (hB : W.heap.size ≤ B) : Num W' v z := by
  obtain ⟨neg, sa, cap, b, o, h1, h2, h3⟩ := h
  exact ⟨neg, sa, cap, b, o, h1, h2.below hb hB, h3⟩
theorem Num.call {W W' : World} {v : Value} {z : Int} (h : Num W v z) (hb : Below W.heap.size W W') : Num W' v z := h.below hb (Nat.le_refl _)

def pcs (x n : Nat) : List Value := (List.range n).map fun k => .int .u64 (dg x k : Nat)
theorem pcs_succ (x n : Nat) : pcs x (n + 1) = pcs x n ++ [.int .u64 (dg x n : Nat)] := by simp [pcs, List.range_succ]
theorem info_u64 : (Tryz.prog.info? 81).map (fun i => (i.zero, i.size, i.bytes)) = some (some (.int .u64 0), 1, 8) := by kernel_rfl
theorem grown_below {W w1 : World} {B e size : Nat} {v : Value} {k : Nat} {xs : List Value} {o : Obj} (hB : B ≤ W.heap.size) (hrow : W.ownsRow B e size v k xs) (hg : (W.alloc o).grownBy w1 v.ownBlock) : Below B W w1 :=
  ((Below.refl B W).alloc hB o).grown hg (by simp; omega) (fun g hgv => by
    rcases hrow.2 with ⟨rfl, _⟩ | ⟨g', cap, cur, rfl, h1, _⟩
    · cases hgv
    · simp [Value.ownBlock] at hgv
      omega)
theorem row_of {W : World} {b0 n x : Nat} {v : Value} (h : W.ownsRow b0 81 1 v n (pcs x n)) (hx : x < BB ^ n) :
    ∃ sa cap b, v = .slice sa n cap ∧ Row W sa n cap b 0 x ∧ (0 < n → b0 ≤ b) := by
  have hc := fun g hv => h.cells (g := g) hv
  obtain ⟨_, h2⟩ := h
  rcases h2 with ⟨rfl, hn⟩ | ⟨g, cap, cur, rfl, hg, hh, hcap, hcm, hsz, htk⟩
  · obtain rfl : n = 0 := by first | omega | (have := hn.1; omega) | (have := hn.2; simp [pcs] at this; omega)
    exact ⟨none, 0, 0, rfl, ⟨Nat.le_refl _, fun p => absurd p (Nat.lt_irrefl _), fun p => absurd p (Nat.lt_irrefl _), fun k hk => absurd hk (Nat.not_lt_zero _), hx⟩, fun p => absurd p (Nat.lt_irrefl _)⟩
  · refine ⟨some ⟨g, 0, none⟩, cap, g, rfl, ⟨hcap, fun _ => rfl, fun _ => (Array.getElem?_eq_some_iff.1 hh).1, fun k hk => ?_, hx⟩, fun _ => hg⟩
    have := hc g rfl k (.int .u64 (dg x k : Nat)) (by simp [pcs, hk])
    have e : (⟨g, 0, none⟩ : Addr).add k = ⟨g, 0 + k, none⟩ := by unfold Addr.add; split <;> simp_all
    rwa [e] at this

/-- The pieces of a row of digits. -/
theorem piece_val {l : List UInt8} (h : l.all Im.isD = true) {j : Nat} (hj : 9 * j < l.length) :
    Im.valL ((l.take (l.length - 9 * j)).drop (l.length - 9 * j - 9)) = dg (Im.valL l) j := by
  unfold dg Im.dg BB
  have hp : (1000000000 : Nat) ^ j = 10 ^ (9 * j) := by rw [Nat.pow_mul]
  rw [hp]
  by_cases h9 : 9 * j + 9 ≤ l.length
  · rw [Im.val_block h h9]
  · rw [show l.length - 9 * j - 9 = 0 by omega, List.drop_zero, Im.val_take h (by omega)]
    refine (Nat.mod_eq_of_lt ?_).symm
    have h1 := Im.val_lt (Im.all_take h (l.length - 9 * j))
    rw [Im.val_take h (by omega), List.length_take] at h1
    have h2 : 10 ^ min (l.length - 9 * j) l.length ≤ 10 ^ 9 := Nat.pow_le_pow_right (by decide) (by omega)
    omega

theorem extract_list (s : ByteArray) (i j : Nat) : (s.extract i j).data.toList = (s.data.toList.take j).drop i := by
  rw [Lib.extract_data, List.drop_take]

/-- What read returns. -/
def rdZ (l : List UInt8) : Int := if Im.canonI l then Im.ivL l else 0

set_option maxRecDepth 100000 in
set_option maxHeartbeats 2000000 in
theorem read_yes (s : ByteArray) (hs : s.size ≤ 1048576) (hc : Im.canonI s.data.toList = true) (w : World) :
    Calls Tryz.prog 65 #[.string s] w fun e w' => (∃ v, e = .returned v ∧ Num w' v (Im.ivL s.data.toList)) ∧ Below w.heap.size w w' := by
  obtain ⟨i0, hi0, hz0, hz1, hz2⟩ := info_parts info_u64
  obtain ⟨c1, c2⟩ := Im.canonI_canon hc
  obtain ⟨c3, c4, c5⟩ := Im.canonL_iff.1 c1
  have t := fun W => digits_any s W
  obtain ⟨d, hd⟩ : ∃ d : ByteArray, ⟨(Im.dgs s.data.toList).toArray⟩ = d := ⟨_, rfl⟩
  have hdl : d.data.toList = Im.dgs s.data.toList := by rw [← hd]
  rw [hd] at t
  have T := Lib.hid t
  have c := fun W => canonical_any s hs W
  rw [hc] at c
  have C := Lib.hid c
  have hds : d.size ≤ s.size := by
    rw [← size_list, hdl, ← size_list]
    unfold Im.dgs
    split
    · rw [List.length_tail]; omega
    · exact Nat.le_refl _
  rw [← hdl] at c4
  have P := Lib.hid (fun (j : Nat) (hj : 9 * j < d.size) W => by
    have h9 := pieceOf_any (d.extract (d.size - 9 * j - 9) (d.size - 9 * j)) (by rw [← size_list, extract_list, List.length_drop, List.length_take, size_list]; omega) (by rw [extract_list]; exact Im.all_drop (Im.all_take c4 _) _) W
    rw [extract_list, ← size_list, piece_val c4 (by rw [size_list]; exact hj), size_list] at h9
    exact h9)
  have hX : (Im.ivL s.data.toList).natAbs = Im.valL d.data.toList := by rw [ivL_abs, hdl]
  obtain ⟨X, hXX⟩ : ∃ X, Im.valL d.data.toList = X := ⟨_, rfl⟩
  rw [hXX] at P
  have hlt := Im.val_lt c4
  rw [size_list, hXX] at hlt
  have TR := Lib.hid (fun sa n cap b o W h hn => trimmed_any sa n cap b o X W h hn)
  have hX0 := hX.trans hXX
  have HX := Lib.hid hX0
  have hneg : Im.ivL s.data.toList ≠ 0 → decide ((d.size : Int) < (s.size : Int)) = decide (Im.ivL s.data.toList < 0) := fun h0 => by
    have e : (decide ((d.size : Int) < (s.size : Int))) = decide (s.data.toList.head? = some 45) := by
      rw [← size_list d, hdl, ← size_list s]
      unfold Im.dgs
      split
      · rename_i h
        rw [h, List.length_tail]
        cases hh : s.data.toList with
        | nil => rw [hh] at h; cases h
        | cons a r => simp; omega
      · rename_i h
        simp [h]
    rw [e]
    congr 1
    apply propext
    unfold Im.ivL at h0 ⊢
    split
    · rename_i h
      rw [if_pos h] at h0
      simp [h]; omega
    · rename_i h
      simp [h]
  have HN := Lib.hid hneg
  have HL := Lib.hid hlt
  clear t c hc c1 c2 c3 c4 c5 hd hdl hX hXX hX0 hneg hlt
  go_enter Tryz.func65, Tryz.ntmps65
  go_wp2_with fail
  refine (C.out _).mono ?_
  rintro e w' ⟨rfl, rfl⟩
  go_wp2_with fail
  refine (T.out _).mono ?_
  rintro e w' ⟨rfl, rfl⟩
  go_wp2_with fail
  go_loopw [4, 5] (fun v i wr => ∃ j : Nat, 9 * j < d.size + 9 ∧ i = .int .i64 ((d.size : Int) - 9 * (j : Int)) ∧ wr.ownsRow (w.heap.size + 1) 81 1 v j (pcs X j) ∧ Below (w.heap.size + 1) (w.alloc (.cells #[.bool false, .slice none 0 0] 97)) wr) (fun _ i _ => ((intOf i) + 9).toNat)
  case atStart => exact ⟨0, by omega, by simp, World.ownsRow_nil _ _ _ _, Below.refl _ _⟩
  case round =>
    obtain ⟨j, hj, rfl, hrow, hw⟩ := hrel
    have hsz := hw.size
    simp at hsz
    by_cases h1 : 9 * j < d.size
    · obtain ⟨e, he⟩ : ∃ e : Nat, d.size - 9 * j = e := ⟨_, rfl⟩
      have hki : (d.size : Int) - 9 * (j : Int) = (e : Int) := by omega
      have PP := Lib.hid (fun W => P.out j h1 W)
      have HS := Lib.hid (pcs_succ X j)
      rw [he] at PP
      rw [hki]
      have HK := Lib.hid hki
      have he1 : 0 < e := by omega
      have hes : e ≤ d.size := by omega
      have h0l := dg_lt X j
      generalize dg X j = x at *
      obtain ⟨lo, hlo⟩ : ∃ lo : Nat, e - 9 = lo := ⟨_, rfl⟩
      rw [hlo] at PP
      have hmx : max (0 : Int) ((e : Int) - 9) = (lo : Int) := by omega
      have hle : lo ≤ e := by omega
      clear he hlo
      go_wp2_with (first | (go_at_call 77; refine (PP.out _).mono ?_; rintro e w5 ⟨rfl, hww⟩; subst w5) | (at_builtin; refine wpList_append_own _ rfl _ _ 95 rfl (w.heap.size + 1) 81 i0 (.int .u64 0) 1 8 Tryz.underlying95 hi0 hz0 hz1 hz2 rfl (by decide) _ _ _ rfl (hrow.alloc _) ⟨wr.heap.size, 0, none⟩ 1 1 [.int .u64 (x : Nat)] rfl rfl (cell_one_new _ _ _) (by simp [Value.oneCell']) (by unfold maxLen; omega) (by omega) (by simp; omega) ?_; intro v' w6 hown' hgrow _))
      have hb6 := grown_below hsz hrow hgrow
      go_roundw
      case rel => exact ⟨j + 1, by omega, by rw [← HK.out]; congr 1; omega, by rw [HS.out]; simpa using hown', hw.trans hb6⟩
      case measure => simp [intOf]; omega
    · have hf : X < BB ^ j := by
        have : (10 : Nat) ^ d.size ≤ 10 ^ (9 * j) := Nat.pow_le_pow_right (by decide) (by omega)
        rw [Nat.pow_mul, show (10 : Nat) ^ 9 = 1000000000 from rfl] at this
        have h2 := HL.out
        unfold BB
        omega
      obtain ⟨sa, cap, b, rfl, hR, hgb⟩ := row_of hrow hf
      have hT := Lib.hid (TR.out sa j cap b 0 wr hR (by omega))
      have hRt := Lib.hid hR.trim
      have hb0 : 0 < nd X → b ≠ w.heap.size := fun h0 => by
        have h1 : nd X ≤ j := Im.nd_le bb2 hf
        have := hgb (by omega)
        omega
      have HB := Lib.hid hb0
      obtain ⟨r0, r1, rl, rf⟩ := (Two.new w (.bool false) (.slice none 0 0) 97).below (by simpa using hw)
      have hwb := ((Below.refl _ w).alloc (Nat.le_refl _) (.cells #[.bool false, .slice none 0 0] 97)).trans (hw.mono (Nat.le_succ _))
      clear hf hgb hR hrow hb0
      go_wp2_with fail
      refine hT.out.mono ?_
      rintro e w5 ⟨rfl, hww⟩
      subst w5
      go_wp2
      refine bodyPost_ret (v := .agg #[.bool (decide ((d.size : Int) < (s.size : Int))), .slice sa (nd X) cap]) (by simp [results, Tryz.results65, go_sem, r0, r1]) rfl ⟨⟨_, rfl, decide ((d.size : Int) < (s.size : Int)), sa, cap, b, 0, by rw [HX.out], ?_, HN.out⟩, (hwb.setCell (by simp) _).setCell (by simp) _⟩
      rw [HX.out]
      exact (hRt.out.set _ HB.out _).set _ HB.out _
end Go.Proofs.YtbkbncapgljfaaaGreatDoor
/- FormatUint at base 10. -/
namespace Go.Proofs.YtbkbncapgljfaaaGreatDoor
open Go Go.RowKit Go.Shelf Go.Sort

set_option maxHeartbeats 6400000 in
set_option maxRecDepth 100000 in
theorem ifmt_any (u : Nat) (hu64 : u < 18446744073709551616) (w : World) (htab : Lib.TabIs Tryz.prog w "internal/strconv.uint64pow10" .u64 Lib.pow10Tab) :
    Calls Tryz.prog 98 #[.int .u64 u, .int .i64 10] w fun e w' => e = .returned (.string ⟨(Lib.decDigits u).toArray⟩) ∧ ∃ k os, w' = grow (w.drewN k) os := by
  by_cases hi : u < 100
  · have S := Lib.hid (fun W => Tryz.internal_strconv_small u hi W)
    go_enter Tryz.func98, Tryz.ntmps98
    go_wp2_with fail
    refine (S.out _).mono ?_
    rintro e w' ⟨rfl, rfl⟩
    go_wp2
    go_ret
    exact ⟨rfl, 0, #[], by simp [World.drewN_zero]⟩
  · have hu1 : 1 ≤ u := by omega
    have hnd20 : Lib.nDigits u ≤ 20 := by have := Lib.numDigits_eq u hu1 hu64; split at this <;> omega
    have hal : Tryz.prog.arrayLen 141 = 24 := by simp [Program.arrayLen, Tryz.underlying141]
    have hsl1 : ∀ W, (Instr.sliceAt 141 (.pointer (some ⟨w.heap.size, 0, none⟩)) none (some (.int .i64 (Lib.nDigits u : Int))) none).run Tryz.prog W = .ok (.slice (some ⟨w.heap.size, 0, none⟩) (Lib.nDigits u) 24) W := fun W => by
      rw [run_sliceAt_array_h W 141 ⟨w.heap.size, 0, none⟩ (by simp [Program.arrayLen, Program.elem, Tryz.underlying141]) .i64 (Lib.nDigits u : Int) (by omega) (by rw [hal]; omega)]
      go_simp
    have hH0 := Lib.holds_zero0 w 141 (Lib.nDigits u) (by omega)
    have hfmt := Tryz.internal_strconv_formatBase10 w.heap.size 0 24 u (Array.replicate (Lib.nDigits u) 0) (w.alloc (.cells Lib.zeros24 141)) hH0 (by rw [Array.size_replicate]; exact Lib.lt_pow_nDigits u) hu64 (by rw [Array.size_replicate]; omega)
    rw [Array.size_replicate] at hfmt
    have HH0 := Lib.hid hH0
    have ND := Lib.hid (fun W ht => Tryz.internal_strconv_numDigits u hu1 hu64 W ht)
    have HF := Lib.hid hfmt
    clear hH0 hal hfmt
    go_enter Tryz.func98, Tryz.ntmps98
    go_wp2_with fail
    refine (ND.out _ (Lib.tabIs_alloc htab _)).mono ?_
    rintro e w' ⟨rfl, rfl⟩
    go_wp2_with fail
    refine HF.out.mono ?_
    rintro e w' ⟨rfl, k, v', dk, rfl, hF⟩
    have hcv : (convert 64 9 (.slice (some ⟨w.heap.size, 0, none⟩) (Lib.nDigits u) 24)).run Tryz.prog ((putRow (fun (b : UInt8) => Value.int .u8 (b.toNat : Int)) (w.alloc (.cells Lib.zeros24 141)) w.heap.size 0 dk).drewN k) = .ok (.string ⟨(Lib.decDigits u).toArray⟩) ((putRow (fun (b : UInt8) => Value.int .u8 (b.toNat : Int)) (w.alloc (.cells Lib.zeros24 141)) w.heap.size 0 dk).drewN k) := by
      have h := run_convert_bytes_back (P := Tryz.prog) ((putRow (fun (b : UInt8) => Value.int .u8 (b.toNat : Int)) (w.alloc (.cells Lib.zeros24 141)) w.heap.size 0 dk).drewN k) 64 9 5 ⟨w.heap.size, 0, none⟩ 24 (Lib.decDigits u) Tryz.underlying64 Tryz.underlying5 Tryz.underlying9 (fun j hj => by
        rw [Lib.row_is_numeral hF j hj, Lib.add_plain, World.cell?_drewN]
        exact cell?_putRow (fun (b : UInt8) => Value.int .u8 (b.toNat : Int)) _ w.heap.size 0 _ dk HH0.out (by rw [hF.size, Array.size_replicate]) j (by rw [hF.size]; rw [Lib.decDigits_length] at hj; exact hj))
      rw [Lib.decDigits_length] at h
      exact h
    go_wp2
    go_ret
    obtain ⟨os, eo⟩ := Lib.fin_at w (.cells Lib.zeros24 141) dk k 0
    exact ⟨rfl, k, os, eo⟩

theorem fmt_any (u : Nat) (hu64 : u < 18446744073709551616) (w : World) (htab : Lib.TabIs Tryz.prog w "internal/strconv.uint64pow10" .u64 Lib.pow10Tab) :
    Calls Tryz.prog 82 #[.int .u64 u, .int .i64 10] w fun e w' => e = .returned (.string ⟨(Lib.decDigits u).toArray⟩) ∧ Below w.heap.size w w' := by
  have F := Lib.hid (ifmt_any u hu64 w htab)
  go_enter Tryz.func82, Tryz.ntmps82
  go_wp2_with fail
  refine F.out.mono ?_
  rintro e w' ⟨rfl, k, os, rfl⟩
  go_wp2
  go_ret
  exact ⟨rfl, Lib.below_grow _ w (Nat.le_refl _) k os⟩
end Go.Proofs.YtbkbncapgljfaaaGreatDoor
