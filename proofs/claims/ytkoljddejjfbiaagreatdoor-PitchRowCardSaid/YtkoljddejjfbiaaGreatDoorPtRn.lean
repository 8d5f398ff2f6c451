/- Ranges over functions that keep no state of their own in cells. The statement's law over such an iterator; the loop's variables may be boxed. -/
import Derived.Test.YtkoljddejjfbiaaGreatDoorImH
namespace Go.Proofs.YtkoljddejjfbiaaGreatDoor.Rn
open Go Go.RowKit Go.Shelf

/-- Blocks that the package's iterators capture: none. -/
def isN (o : Obj) : Prop := ∃ c u f, o = .cells c u f ∧ False

/-- The iterator's own step. -/
structure Step (n₁ b : Nat) (A B : World) : Prop where
  below : Below n₁ A B
  same : ∀ (k : Nat) (o : Obj), A.heap[k]? = some o → ¬ isN o → (k < b ∨ o.isCells = true) → B.heap[k]? = some o

/-- What a round leaves alone. -/
structure Kr (n₁ b : Nat) (A B : World) : Prop where
  size : A.heap.size ≤ B.heap.size
  same : ∀ (k : Nat) (o : Obj), A.heap[k]? = some o → ((b ≤ k ∧ o.isCells = false) ∨ (n₁ ≤ k ∧ isN o)) → B.heap[k]? = some o

theorem Step.refl (n₁ b : Nat) (A : World) : Step n₁ b A A := ⟨Below.refl _ _, fun _ _ h _ _ => h⟩
theorem Step.trans {n₁ b : Nat} {A B C : World} (h : Step n₁ b A B) (k : Step n₁ b B C) : Step n₁ b A C :=
  ⟨h.below.trans k.below, fun i o hi hn hb => k.same i o (h.same i o hi hn hb) hn hb⟩
theorem Step.mono {n₁ b n₂ b' : Nat} {A B : World} (h : Step n₁ b A B) (hn : n₂ ≤ n₁) (hb : b' ≤ b) : Step n₂ b' A B :=
  ⟨h.below.mono hn, fun k o hk ho hc => h.same k o hk ho (hc.imp (fun e => Nat.lt_of_lt_of_le e hb) id)⟩
theorem Step.of_below {n₁ b : Nat} {A B : World} (hn : n₁ ≤ A.heap.size) (h : Below A.heap.size A B) : Step n₁ b A B :=
  ⟨h.mono hn, fun k _ ho _ _ => (h.block k (Array.getElem?_eq_some_iff.1 ho).1).trans ho⟩
theorem Step.putObj {n₁ b : Nat} (W : World) {l : Nat} (o o' : Obj) (hn : n₁ ≤ l) (hb : b ≤ l) (hl : W.heap[l]? = some o) (ho : o.isCells = false) : Step n₁ b W (W.putObj l o') :=
  ⟨Rg.below_putObj W l o' hn, fun k q hk _ hc => by
    by_cases e : k = l
    · subst e
      rw [hl] at hk
      cases hk
      rcases hc with hc | hc
      · omega
      · rw [ho] at hc; cases hc
    · exact (World.putObj_heap_other e).trans hk⟩
/-- A store into a captured box. -/
theorem Step.set {n₁ b : Nat} (W : World) {k : Nat} {o : Obj} (p : Addr) (hp : p.block = k) (hn : n₁ ≤ k) (hk : W.heap[k]? = some o) (ho : isN o) (v : Value) : Step n₁ b W (W.setCell p v) :=
  ⟨(Below.refl n₁ W).setCell (by omega) v, fun i q hi hq _ => (Below.heap_setCell W p v i (fun e => by
    rw [hp] at e
    subst e
    rw [hk] at hi
    cases hi
    exact hq ho)).trans hi⟩

theorem Kr.refl (n₁ b : Nat) (A : World) : Kr n₁ b A A := ⟨Nat.le_refl _, fun _ _ h _ => h⟩
theorem Kr.trans {n₁ b : Nat} {A B C : World} (h : Kr n₁ b A B) (k : Kr n₁ b B C) : Kr n₁ b A C :=
  ⟨Nat.le_trans h.size k.size, fun i o hi hc => k.same i o (h.same i o hi hc) hc⟩
theorem Kr.mono {n₁ b n₂ b' : Nat} {A B : World} (h : Kr n₁ b A B) (hn : n₁ ≤ n₂) (hb : b ≤ b') : Kr n₂ b' A B :=
  ⟨h.size, fun k o hk hc => h.same k o hk (hc.imp (fun e => ⟨Nat.le_trans hb e.1, e.2⟩) (fun e => ⟨Nat.le_trans hn e.1, e.2⟩))⟩
theorem Kr.of_below {n₁ b : Nat} {A B : World} (h : Below A.heap.size A B) : Kr n₁ b A B :=
  ⟨h.size, fun k _ ho _ => (h.block k (Array.getElem?_eq_some_iff.1 ho).1).trans ho⟩
/-- A store into a box of one's own. -/
theorem Kr.set {n₁ b : Nat} (W : World) {k : Nat} {c : Array Value} {u : TypeId} {f : Nat × Nat} (p : Addr) (hp : p.block = k) (hk : W.heap[k]? = some (.cells c u f)) (ho : k < n₁ ∨ ¬ isN (.cells c u f)) (v : Value) : Kr n₁ b W (W.setCell p v) :=
  ⟨by simp [World.setCell], fun i q hi hc => (Below.heap_setCell W p v i (fun e => by
    rw [hp] at e
    subst e
    rw [hk] at hi
    cases hi
    rcases hc with ⟨_, hc⟩ | ⟨h1, h2⟩
    · cases hc
    · rcases ho with ho | ho
      · omega
      · exact ho h2)).trans hi⟩
theorem Kr.putObj {n₁ b : Nat} (W : World) {l : Nat} (o o' : Obj) (hb : l < b) (hl : W.heap[l]? = some o) (ho : o.isCells = false) : Kr n₁ b W (W.putObj l o') :=
  ⟨by simp [World.putObj], fun k q hk hc => by
    by_cases e : k = l
    · subst e
      rw [hl] at hk
      cases hk
      rcases hc with ⟨hc, _⟩ | ⟨_, c, u, f, rfl, _⟩
      · omega
      · cases ho
    · exact (World.putObj_heap_other e).trans hk⟩

/-- What an iterator's contract says to its caller. -/
def Gives {α : Type} (n₁ : Nat) (F : Fence) (n : Nat) (P : Program) (g : Nat) (lb : Array Value) (encs : α → Array Value) (xs : List α) (w : World) (Kp : World → Prop) : Prop :=
  ∀ (l : Nat) (J Jx : List α → World → Prop) (W : World), Below w.heap.size w W →
    (∀ s A B, J s A → Step n₁ W.heap.size A B → J s B) → (∀ s A B, Jx s A → Step n₁ W.heap.size A B → Jx s B) → (∀ s A, J s A → Kp A) →
    (∀ pre x A, J pre A → (∃ post, xs = pre ++ x :: post) → YieldAt F (n - 1) P l (encs x) A fun e B => (e = .returned (.bool true) ∧ J (pre ++ [x]) B ∧ Kr n₁ W.heap.size A B) ∨ (e = .returned (.bool false) ∧ Jx (pre ++ [x]) B ∧ Kr n₁ W.heap.size A B)) →
    J [] W →
    CallsIn F n P g (#[.func (.yield l) #[] #[]] ++ lb) W fun e W' => (∃ v, e = .returned v) ∧ (J xs W' ∨ ∃ pre, (∃ post, xs = pre ++ post) ∧ Jx pre W')

/-- What is asked where a round's body ends. -/
def ends {α : Type} (n₁ b : Nat) (I : List α → World → Prop) (Ix : Code → List α → World → Prop) (xs : List α) (A : World) : Exit → Act → World → Prop
  | .normal, _, B => Kr n₁ b A B ∧ I xs B
  | .ret, _, B => Kr n₁ b A B ∧ Ix .ret xs B
  | .exit id, _, B => Kr n₁ b A B ∧ Ix (.exit id) xs B
  | _, _, _ => False

variable {F : Fence} {n : Nat} {P : Program}

theorem range_all {α : Type} {g : Operand} {ps : Array Tmp} {assign body : Code} {Q : Exit → Act → World → Prop} {a : Act} {w : World}
    (hro : F.round = none) (h1 : 1 ≤ n) {gf : Nat} {lb : Array Value} (hg : a.eval g = .func (.func gf) #[] lb) (hFg : F.fn gf) (eg : ∀ args w, (callFunc gf args).run P w = .ok (.enter gf args) w)
    {n₁ : Nat} (hn₁ : n₁ ≤ w.heap.size) {encs : α → Array Value} {xs : List α} {Kp : World → Prop} (hseq : Gives n₁ F (n - 1) P gf lb encs xs w Kp) (hps : ∀ x, (encs x).size = ps.size)
    (I : List α → World → Prop) (Ix : Code → List α → World → Prop) (hI : ∀ s A B, I s A → Step n₁ w.heap.size A B → I s B) (hIx : ∀ c s A B, Ix c s A → Step n₁ w.heap.size A B → Ix c s B) (hK : ∀ s A, I s A → Kp A) (h0 : I [] w)
    (Ax : α → Act → World → Prop) (hAx : ∀ x a' A k o o', A.heap[k]? = some o → o.isCells = false → Ax x a' A → Ax x a' (A.putObj k o'))
    (hassign : ∀ (l : Nat) (pre : List α) (x : α) (W : World) (K : Act → World → Prop), I pre W → w.heap.size + 2 ≤ W.heap.size → (∀ a' W', Below W.heap.size W W' → Ax x a' W' → K a' W') →
      assign.wpIn (F.inRound l) (n - 1 - 1) P (Exit.then K (fun _ _ _ => False)) { tmps := (ps.zip (encs x)).foldl (fun t (p, v) => t.setIfInBounds p v) a.tmps, defers := [] } W)
    (hbody : ∀ (l : Nat) (pre : List α) (x : α) (a' : Act) (W : World), I pre W → (∃ post, xs = pre ++ x :: post) → w.heap.size + 2 ≤ W.heap.size → Ax x a' W → body.wpIn (F.inRound l) (n - 1 - 1) P (ends n₁ w.heap.size I Ix (pre ++ [x]) W) a' W)
    (hdone : ∀ (D : Nat) (W : World), w.heap.size ≤ D → I xs W → W.heap[D]? = some (.deferred (some [])) → Q .normal { a with defers := { target := .collected D, args := #[] } :: a.defers } W)
    (hstop : ∀ (D : Nat) (c : Code) (pre : List α) (W : World), w.heap.size ≤ D → (∃ post, xs = pre ++ post) → Ix c pre W → W.heap[D]? = some (.deferred (some [])) → c.wpIn F n P Q { a with defers := { target := .collected D, args := #[] } :: a.defers } W) :
    (Code.rangeFunc g ps assign body).wpIn F n P Q a w := by
  refine wpIn_rangeFunc fun fn hfn => ?_
  rw [hro]
  obtain ⟨rec, hrec⟩ : ∃ rec : LoopState → Option Code → Loop, rec = fun st pe => { state := st, pending := pe, fn, tmps := a.tmps, params := ps, assign, body, defers := w.heap.size } := ⟨_, rfl⟩
  obtain ⟨V, hV⟩ : ∃ V, (w.alloc (.deferred (some []))).alloc (.loop (rec .ready none)) = V := ⟨_, rfl⟩
  have hL : V.heap[w.heap.size + 1]? = some (.loop (rec .ready none)) := by
    rw [← hV]; have := World.alloc_heap_new (w.alloc (.deferred (some []))) (.loop (rec .ready none)); rwa [World.size_alloc] at this
  have hKd : V.heap[w.heap.size]? = some (.deferred (some [])) := by
    rw [← hV]; exact (Below.heap_alloc _ _ _ (by simp)).trans (World.alloc_heap_new w _)
  have hwV : Below w.heap.size w V := by rw [← hV]; exact ((Below.refl _ w).alloc (Nat.le_refl _) _).alloc (by simp) _
  have hszV : V.heap.size = w.heap.size + 2 := by rw [← hV]; simp
  have notN : ∀ {o : Obj}, o.isCells = false → ¬ isN o := fun ho ⟨c, u, f, e, _⟩ => by subst e; cases ho
  refine ⟨w.heap.size + 1, [{ target := .collected w.heap.size, args := #[] }], V, { target := .fn (.func gf) lb, args := #[.func (.yield (w.heap.size + 1)) #[] #[]] }, V, gf,
    #[.func (.yield (w.heap.size + 1)) #[] #[]] ++ lb, V, ?_, ?_, ?_, ?_, fun _ => h1, ?_⟩
  · rw [← hV, hrec]; exact run_enterLoop_outer _ _ _ _ _
  · simp only [resolve, hg]
    simp [go_sem]
  · intro f' hf'; simp [Target.leads] at hf'; subst hf'; exact hFg
  · simp [invoke, go_sem, eg]
  · refine (hseq (w.heap.size + 1) (fun pre W => I pre W ∧ W.heap[w.heap.size + 1]? = some (.loop (rec .ready none)) ∧ W.heap[w.heap.size]? = some (.deferred (some [])))
      (fun pre W => ∃ c, Ix c pre W ∧ W.heap[w.heap.size + 1]? = some (.loop (rec .done (some c))) ∧ W.heap[w.heap.size]? = some (.deferred (some []))) V hwV
      (fun s A B hs st => ⟨hI s A B hs.1 (st.mono (Nat.le_refl _) (by omega)), st.same _ _ hs.2.1 (notN rfl) (.inl (by omega)), st.same _ _ hs.2.2 (notN rfl) (.inl (by omega))⟩)
      (fun s A B hs st => by
        obtain ⟨c, hc, hl, hk⟩ := hs
        exact ⟨c, hIx c s A B hc (st.mono (Nat.le_refl _) (by omega)), st.same _ _ hl (notN rfl) (.inl (by omega)), st.same _ _ hk (notN rfl) (.inl (by omega))⟩)
      (fun s A hs => hK s A hs.1)
      ?_ ⟨hI [] w V h0 (Step.of_below hn₁ hwV), hL, hKd⟩).mono ?_
    · rintro pre x W ⟨hi, hl, hk⟩ hx
      have hlt : w.heap.size + 1 < W.heap.size := (Array.getElem?_eq_some_iff.1 hl).1
      have hy := run_yield (P := P) (args := encs x) hl (by rw [hrec]; exact hps x)
      rw [hrec] at hy
      refine ⟨fn, _, assign, body, hy, roundIn_of_wpIn hfn (hassign _ pre x W _ hi (by omega) ?_)⟩
      clear hy
      intro a' Wa hba hax
      have hka : Kr n₁ V.heap.size W Wa := Kr.of_below hba
      replace hi := hI pre W Wa hi (Step.of_below (by omega) hba)
      replace hl := (hba.block _ (by omega)).trans hl
      replace hk := (hba.block _ (by omega)).trans hk
      replace hlt : w.heap.size + 1 < Wa.heap.size := (Array.getElem?_eq_some_iff.1 hl).1
      refine ⟨_, run_beginRound hl (by rw [hrec]), ?_⟩
      have hk2 : Kr n₁ V.heap.size Wa (Wa.putObj (w.heap.size + 1) (.loop { rec .ready none with state := .busy })) := Kr.putObj Wa _ _ (by omega) hl rfl
      refine wpIn_mono (hbody _ pre x a' _ (hI pre Wa _ hi (Step.putObj Wa _ _ (by omega) (by omega) hl rfl)) hx (by simp; omega) (hAx _ _ _ _ _ _ hl rfl hax)) ?_
      have fin : ∀ (jump : Option Code) (W3 : World), Kr n₁ w.heap.size (Wa.putObj (w.heap.size + 1) (.loop { rec .ready none with state := .busy })) W3 →
          (Instr.endRound (w.heap.size + 1) jump).run P W3 = .ok (.bool jump.isNone) (W3.putObj (w.heap.size + 1) (.loop (rec (if jump.isNone then .ready else .done) jump))) ∧
          W3.heap[w.heap.size + 1]? = some (.loop { rec .ready none with state := .busy }) ∧
          (W3.putObj (w.heap.size + 1) (.loop (rec (if jump.isNone then .ready else .done) jump))).heap[w.heap.size + 1]? = some (.loop (rec (if jump.isNone then .ready else .done) jump)) ∧
          (W3.putObj (w.heap.size + 1) (.loop (rec (if jump.isNone then .ready else .done) jump))).heap[w.heap.size]? = some (.deferred (some [])) := fun jump W3 hr3 => by
        have hl3 := hr3.same _ _ (World.putObj_heap_same (o := .loop { rec .ready none with state := .busy }) hlt) (.inl ⟨by omega, rfl⟩)
        have hk3 := hr3.same w.heap.size _ ((World.putObj_heap_other (by omega)).trans hk) (.inl ⟨by omega, rfl⟩)
        have he := run_endRound (P := P) jump hl3
        rw [hrec] at he ⊢
        exact ⟨he, by rw [hrec] at hl3; exact hl3, World.putObj_heap_same (Array.getElem?_eq_some_iff.1 hl3).1, (World.putObj_heap_other (by omega)).trans hk3⟩
      rintro e a3 W3 hp
      cases e with
      | normal =>
        obtain ⟨hr3, hi3⟩ := hp
        obtain ⟨he, hl3, hl4, hk4⟩ := fin none W3 hr3
        exact ⟨_, _, he, .inl ⟨rfl, ⟨hI _ _ _ hi3 (Step.putObj W3 _ _ (by omega) (by omega) hl3 rfl), hl4, hk4⟩, hka.trans (hk2.trans ((hr3.mono (Nat.le_refl _) (by omega)).trans (Kr.putObj W3 _ _ (by omega) hl3 rfl)))⟩⟩
      | ret =>
        obtain ⟨hr3, hi3⟩ := hp
        obtain ⟨he, hl3, hl4, hk4⟩ := fin (some .ret) W3 hr3
        exact ⟨_, _, he, .inr ⟨rfl, ⟨.ret, hIx _ _ _ _ hi3 (Step.putObj W3 _ _ (by omega) (by omega) hl3 rfl), hl4, hk4⟩, hka.trans (hk2.trans ((hr3.mono (Nat.le_refl _) (by omega)).trans (Kr.putObj W3 _ _ (by omega) hl3 rfl)))⟩⟩
      | exit id =>
        obtain ⟨hr3, hi3⟩ := hp
        obtain ⟨he, hl3, hl4, hk4⟩ := fin (some (.exit id)) W3 hr3
        exact ⟨_, _, he, .inr ⟨rfl, ⟨.exit id, hIx _ _ _ _ hi3 (Step.putObj W3 _ _ (by omega) (by omega) hl3 rfl), hl4, hk4⟩, hka.trans (hk2.trans ((hr3.mono (Nat.le_refl _) (by omega)).trans (Kr.putObj W3 _ _ (by omega) hl3 rfl)))⟩⟩
      | goto t => exact hp.elim
      | panic ch => exact hp.elim
      | outgrown => exact hp.elim
    · rintro e W2 ⟨⟨v, rfl⟩, (⟨hi, hl, hk⟩ | ⟨pre, hpre, c, hi, hl, hk⟩)⟩
      · have he := run_endLoop (P := P) hl (by rw [hrec]; simp)
        rw [hrec] at he
        exact ⟨none, _, he, hdone _ _ (Nat.le_refl _) (hI xs W2 _ hi (Step.putObj W2 _ _ (by omega) (by omega) hl rfl)) ((World.putObj_heap_other (by omega)).trans hk)⟩
      · have he := run_endLoop (P := P) hl (by rw [hrec]; simp)
        rw [hrec] at he
        exact ⟨some c, _, he, hstop _ c pre _ (Nat.le_refl _) hpre (hIx c pre W2 _ hi (Step.putObj W2 _ _ (by omega) (by omega) hl rfl)) ((World.putObj_heap_other (by omega)).trans hk)⟩
end Go.Proofs.YtkoljddejjfbiaaGreatDoor.Rn
