/- Ranges over functions that keep state of their own in cells: an iterator may turn boxes of the kinds that this package's iterators capture, laid from a bound on; a loop's body leaves those alone. The statement's law over such an iterator; the loop's variables may be boxed. -/
import Derived.Test.YtinopmdefndhoaaDoorRg
import Derived.OrdersIn
import Derived.TacticsIn
namespace Go.Proofs.YtinopmdefndhoaaDoor.Rn
open Go Go.RowKit Go.Shelf

/-- A block of the kinds that the package's iterators capture. -/
def isN (o : Obj) : Prop := ∃ c u f, o = .cells c u f ∧ (u = 26 ∨ u = 23 ∨ u = 90)

/-- The iterator's own step. -/
structure Step (n₁ b : Nat) (A B : World) : Prop where
  below : Below n₁ A B
  same : ∀ (k : Nat) (o : Obj), A.heap[k]? = some o → ¬ isN o → (k < b ∨ o.isCells = true) → B.heap[k]? = some o

/-- What a round leaves alone. -/
structure Kr (n₁ b : Nat) (A B : World) : Prop where
  size : A.heap.size ≤ B.heap.size
  same : ∀ (k : Nat) (o : Obj), A.heap[k]? = some o → ((b ≤ k ∧ o.isCells = false) ∨ (n₁ ≤ k ∧ isN o)) → B.heap[k]? = some o

theorem Step.refl (n₁ b : Nat) (A : World) : Step n₁ b A A := ⟨Below.refl _ _, fun _ _ h _ _ => h⟩
theorem Step.trans {n₁ b : Nat} {A B C : World} (h : Step n₁ b A B) (k : Step n₁ b B C) : Step n₁ b A C :=
  ⟨h.below.trans k.below, fun i o hi hn hb => k.same i o (h.same i o hi hn hb) hn hb⟩
theorem Step.mono {n₁ b n₂ b' : Nat} {A B : World} (h : Step n₁ b A B) (hn : n₂ ≤ n₁) (hb : b' ≤ b) : Step n₂ b' A B :=
  ⟨h.below.mono hn, fun k o hk ho hc => h.same k o hk ho (hc.imp (fun e => Nat.lt_of_lt_of_le e hb) id)⟩
theorem Step.of_below {n₁ b : Nat} {A B : World} (hn : n₁ ≤ A.heap.size) (h : Below A.heap.size A B) : Step n₁ b A B :=
  ⟨h.mono hn, fun k _ ho _ _ => (h.block k (Array.getElem?_eq_some_iff.1 ho).1).trans ho⟩
theorem Step.putObj {n₁ b : Nat} (W : World) {l : Nat} (o o' : Obj) (hn : n₁ ≤ l) (hb : b ≤ l) (hl : W.heap[l]? = some o) (ho : o.isCells = false) : Step n₁ b W (W.putObj l o') :=
  ⟨Rg.below_putObj W l o' hn, fun k q hk _ hc => by
    by_cases e : k = l
    · subst e
      rw [hl] at hk
      cases hk
      rcases hc with hc | hc
      · omega
      · rw [ho] at hc; cases hc
    · exact (World.putObj_heap_other e).trans hk⟩
/-- A store into a captured box. -/
theorem Step.set {n₁ b : Nat} (W : World) {k : Nat} {o : Obj} (p : Addr) (hp : p.block = k) (hn : n₁ ≤ k) (hk : W.heap[k]? = some o) (ho : isN o) (v : Value) : Step n₁ b W (W.setCell p v) :=
  ⟨(Below.refl n₁ W).setCell (by omega) v, fun i q hi hq _ => (Below.heap_setCell W p v i (fun e => by
    rw [hp] at e
    subst e
    rw [hk] at hi
    cases hi
    exact hq ho)).trans hi⟩

theorem Kr.refl (n₁ b : Nat) (A : World) : Kr n₁ b A A := ⟨Nat.le_refl _, fun _ _ h _ => h⟩
theorem Kr.trans {n₁ b : Nat} {A B C : World} (h : Kr n₁ b A B) (k : Kr n₁ b B C) : Kr n₁ b A C :=
  ⟨Nat.le_trans h.size k.size, fun i o hi hc => k.same i o (h.same i o hi hc) hc⟩
theorem Kr.mono {n₁ b n₂ b' : Nat} {A B : World} (h : Kr n₁ b A B) (hn : n₁ ≤ n₂) (hb : b ≤ b') : Kr n₂ b' A B :=
  ⟨h.size, fun k o hk hc => h.same k o hk (hc.imp (fun e => ⟨Nat.le_trans hb e.1, e.2⟩) (fun e => ⟨Nat.le_trans hn e.1, e.2⟩))⟩
theorem Kr.of_below {n₁ b : Nat} {A B : World} (h : Below A.heap.size A B) : Kr n₁ b A B :=
  ⟨h.size, fun k _ ho _ => (h.block k (Array.getElem?_eq_some_iff.1 ho).1).trans ho⟩
/-- A store into a box of one's own. -/
theorem Kr.set {n₁ b : Nat} (W : World) {k : Nat} {c : Array Value} {u : TypeId} {f : Nat × Nat} (p : Addr) (hp : p.block = k) (hk : W.heap[k]? = some (.cells c u f)) (ho : k < n₁ ∨ ¬ isN (.cells c u f)) (v : Value) : Kr n₁ b W (W.setCell p v) :=
  ⟨by simp [World.setCell], fun i q hi hc => (Below.heap_setCell W p v i (fun e => by
    rw [hp] at e
    subst e
    rw [hk] at hi
    cases hi
    rcases hc with ⟨_, hc⟩ | ⟨h1, h2⟩
    · cases hc
    · rcases ho with ho | ho
      · omega
      · exact ho h2)).trans hi⟩
theorem Kr.putObj {n₁ b : Nat} (W : World) {l : Nat} (o o' : Obj) (hb : l < b) (hl : W.heap[l]? = some o) (ho : o.isCells = false) : Kr n₁ b W (W.putObj l o') :=
  ⟨by simp [World.putObj], fun k q hk hc => by
    by_cases e : k = l
    · subst e
      rw [hl] at hk
      cases hk
      rcases hc with ⟨hc, _⟩ | ⟨_, c, u, f, rfl, _⟩
      · omega
      · cases ho
    · exact (World.putObj_heap_other e).trans hk⟩

/-- What an iterator's contract says to its caller. -/
def Gives {α : Type} (n₁ : Nat) (F : Fence) (n : Nat) (P : Program) (g : Nat) (lb : Array Value) (encs : α → Array Value) (xs : List α) (w : World) (Kp : World → Prop) : Prop :=
  ∀ (l : Nat) (J Jx : List α → World → Prop) (W : World), Below w.heap.size w W →
    (∀ s A B, J s A → Step n₁ W.heap.size A B → J s B) → (∀ s A B, Jx s A → Step n₁ W.heap.size A B → Jx s B) → (∀ s A, J s A → Kp A) →
    (∀ pre x A, J pre A → (∃ post, xs = pre ++ x :: post) → YieldAt F (n - 1) P l (encs x) A fun e B => (e = .returned (.bool true) ∧ J (pre ++ [x]) B ∧ Kr n₁ W.heap.size A B) ∨ (e = .returned (.bool false) ∧ Jx (pre ++ [x]) B ∧ Kr n₁ W.heap.size A B)) →
    J [] W →
    CallsIn F n P g (#[.func (.yield l) #[] #[]] ++ lb) W fun e W' => (∃ v, e = .returned v) ∧ (J xs W' ∨ ∃ pre, (∃ post, xs = pre ++ post) ∧ Jx pre W')

/-- What is asked where a round's body ends. -/
def ends {α : Type} (n₁ b : Nat) (I : List α → World → Prop) (Ix : Code → List α → World → Prop) (xs : List α) (A : World) : Exit → Act → World → Prop
  | .normal, _, B => Kr n₁ b A B ∧ I xs B
  | .ret, _, B => Kr n₁ b A B ∧ Ix .ret xs B
  | .exit id, _, B => Kr n₁ b A B ∧ Ix (.exit id) xs B
  | _, _, _ => False

variable {F : Fence} {n : Nat} {P : Program}

theorem range_all {α : Type} {g : Operand} {ps : Array Tmp} {assign body : Code} {Q : Exit → Act → World → Prop} {a : Act} {w : World}
    (hro : F.round = none) (h1 : 1 ≤ n) {gf : Nat} {lb : Array Value} (hg : a.eval g = .func (.func gf) #[] lb) (hFg : F.fn gf) (eg : ∀ args w, (callFunc gf args).run P w = .ok (.enter gf args) w)
    {n₁ : Nat} (hn₁ : n₁ ≤ w.heap.size) {encs : α → Array Value} {xs : List α} {Kp : World → Prop} (hseq : Gives n₁ F (n - 1) P gf lb encs xs w Kp) (hps : ∀ x, (encs x).size = ps.size)
    (I : List α → World → Prop) (Ix : Code → List α → World → Prop) (hI : ∀ s A B, I s A → Step n₁ w.heap.size A B → I s B) (hIx : ∀ c s A B, Ix c s A → Step n₁ w.heap.size A B → Ix c s B) (hK : ∀ s A, I s A → Kp A) (h0 : I [] w)
    (Ax : α → Act → World → Prop) (hAx : ∀ x a' A k o o', A.heap[k]? = some o → o.isCells = false → Ax x a' A → Ax x a' (A.putObj k o'))
    (hassign : ∀ (l : Nat) (pre : List α) (x : α) (W : World) (K : Act → World → Prop), I pre W → w.heap.size + 2 ≤ W.heap.size → (∀ a' W', Below W.heap.size W W' → Ax x a' W' → K a' W') →
      assign.wpIn (F.inRound l) (n - 1 - 1) P (Exit.then K (fun _ _ _ => False)) { tmps := (ps.zip (encs x)).foldl (fun t (p, v) => t.setIfInBounds p v) a.tmps, defers := [] } W)
    (hbody : ∀ (l : Nat) (pre : List α) (x : α) (a' : Act) (W : World), I pre W → (∃ post, xs = pre ++ x :: post) → w.heap.size + 2 ≤ W.heap.size → Ax x a' W → body.wpIn (F.inRound l) (n - 1 - 1) P (ends n₁ w.heap.size I Ix (pre ++ [x]) W) a' W)
    (hdone : ∀ (D : Nat) (W : World), w.heap.size ≤ D → I xs W → W.heap[D]? = some (.deferred (some [])) → Q .normal { a with defers := { target := .collected D, args := #[] } :: a.defers } W)
    (hstop : ∀ (D : Nat) (c : Code) (pre : List α) (W : World), w.heap.size ≤ D → (∃ post, xs = pre ++ post) → Ix c pre W → W.heap[D]? = some (.deferred (some [])) → c.wpIn F n P Q { a with defers := { target := .collected D, args := #[] } :: a.defers } W) :
    (Code.rangeFunc g ps assign body).wpIn F n P Q a w := by
  refine wpIn_rangeFunc fun fn hfn => ?_
  rw [hro]
  obtain ⟨rec, hrec⟩ : ∃ rec : LoopState → Option Code → Loop, rec = fun st pe => { state := st, pending := pe, fn, tmps := a.tmps, params := ps, assign, body, defers := w.heap.size } := ⟨_, rfl⟩
  obtain ⟨V, hV⟩ : ∃ V, (w.alloc (.deferred (some []))).alloc (.loop (rec .ready none)) = V := ⟨_, rfl⟩
  have hL : V.heap[w.heap.size + 1]? = some (.loop (rec .ready none)) := by
    rw [← hV]; have := World.alloc_heap_new (w.alloc (.deferred (some []))) (.loop (rec .ready none)); rwa [World.size_alloc] at this
  have hKd : V.heap[w.heap.size]? = some (.deferred (some [])) := by
    rw [← hV]; exact (Below.heap_alloc _ _ _ (by simp)).trans (World.alloc_heap_new w _)
  have hwV : Below w.heap.size w V := by rw [← hV]; exact ((Below.refl _ w).alloc (Nat.le_refl _) _).alloc (by simp) _
  have hszV : V.heap.size = w.heap.size + 2 := by rw [← hV]; simp
  have notN : ∀ {o : Obj}, o.isCells = false → ¬ isN o := fun ho ⟨c, u, f, e, _⟩ => by subst e; cases ho
  refine ⟨w.heap.size + 1, [{ target := .collected w.heap.size, args := #[] }], V, { target := .fn (.func gf) lb, args := #[.func (.yield (w.heap.size + 1)) #[] #[]] }, V, gf,
    #[.func (.yield (w.heap.size + 1)) #[] #[]] ++ lb, V, ?_, ?_, ?_, ?_, fun _ => h1, ?_⟩
  · rw [← hV, hrec]; exact run_enterLoop_outer _ _ _ _ _
  · simp only [resolve, hg]
    simp [go_sem]
  · intro f' hf'; simp [Target.leads] at hf'; subst hf'; exact hFg
  · simp [invoke, go_sem, eg]
  · refine (hseq (w.heap.size + 1) (fun pre W => I pre W ∧ W.heap[w.heap.size + 1]? = some (.loop (rec .ready none)) ∧ W.heap[w.heap.size]? = some (.deferred (some [])))
      (fun pre W => ∃ c, Ix c pre W ∧ W.heap[w.heap.size + 1]? = some (.loop (rec .done (some c))) ∧ W.heap[w.heap.size]? = some (.deferred (some []))) V hwV
      (fun s A B hs st => ⟨hI s A B hs.1 (st.mono (Nat.le_refl _) (by omega)), st.same _ _ hs.2.1 (notN rfl) (.inl (by omega)), st.same _ _ hs.2.2 (notN rfl) (.inl (by omega))⟩)
      (fun s A B hs st => by
        obtain ⟨c, hc, hl, hk⟩ := hs
        exact ⟨c, hIx c s A B hc (st.mono (Nat.le_refl _) (by omega)), st.same _ _ hl (notN rfl) (.inl (by omega)), st.same _ _ hk (notN rfl) (.inl (by omega))⟩)
      (fun s A hs => hK s A hs.1)
      ?_ ⟨hI [] w V h0 (Step.of_below hn₁ hwV), hL, hKd⟩).mono ?_
    · rintro pre x W ⟨hi, hl, hk⟩ hx
      have hlt : w.heap.size + 1 < W.heap.size := (Array.getElem?_eq_some_iff.1 hl).1
      have hy := run_yield (P := P) (args := encs x) hl (by rw [hrec]; exact hps x)
      rw [hrec] at hy
      refine ⟨fn, _, assign, body, hy, roundIn_of_wpIn hfn (hassign _ pre x W _ hi (by omega) ?_)⟩
      clear hy
      intro a' Wa hba hax
      have hka : Kr n₁ V.heap.size W Wa := Kr.of_below hba
      replace hi := hI pre W Wa hi (Step.of_below (by omega) hba)
      replace hl := (hba.block _ (by omega)).trans hl
      replace hk := (hba.block _ (by omega)).trans hk
      replace hlt : w.heap.size + 1 < Wa.heap.size := (Array.getElem?_eq_some_iff.1 hl).1
      refine ⟨_, run_beginRound hl (by rw [hrec]), ?_⟩
      have hk2 : Kr n₁ V.heap.size Wa (Wa.putObj (w.heap.size + 1) (.loop { rec .ready none with state := .busy })) := Kr.putObj Wa _ _ (by omega) hl rfl
      refine wpIn_mono (hbody _ pre x a' _ (hI pre Wa _ hi (Step.putObj Wa _ _ (by omega) (by omega) hl rfl)) hx (by simp; omega) (hAx _ _ _ _ _ _ hl rfl hax)) ?_
      have fin : ∀ (jump : Option Code) (W3 : World), Kr n₁ w.heap.size (Wa.putObj (w.heap.size + 1) (.loop { rec .ready none with state := .busy })) W3 →
          (Instr.endRound (w.heap.size + 1) jump).run P W3 = .ok (.bool jump.isNone) (W3.putObj (w.heap.size + 1) (.loop (rec (if jump.isNone then .ready else .done) jump))) ∧
          W3.heap[w.heap.size + 1]? = some (.loop { rec .ready none with state := .busy }) ∧
          (W3.putObj (w.heap.size + 1) (.loop (rec (if jump.isNone then .ready else .done) jump))).heap[w.heap.size + 1]? = some (.loop (rec (if jump.isNone then .ready else .done) jump)) ∧
          (W3.putObj (w.heap.size + 1) (.loop (rec (if jump.isNone then .ready else .done) jump))).heap[w.heap.size]? = some (.deferred (some [])) := fun jump W3 hr3 => by
        have hl3 := hr3.same _ _ (World.putObj_heap_same (o := .loop { rec .ready none with state := .busy }) hlt) (.inl ⟨by omega, rfl⟩)
        have hk3 := hr3.same w.heap.size _ ((World.putObj_heap_other (by omega)).trans hk) (.inl ⟨by omega, rfl⟩)
        have he := run_endRound (P := P) jump hl3
        rw [hrec] at he ⊢
        exact ⟨he, by rw [hrec] at hl3; exact hl3, World.putObj_heap_same (Array.getElem?_eq_some_iff.1 hl3).1, (World.putObj_heap_other (by omega)).trans hk3⟩
      rintro e a3 W3 hp
      cases e with
      | normal =>
        obtain ⟨hr3, hi3⟩ := hp
        obtain ⟨he, hl3, hl4, hk4⟩ := fin none W3 hr3
        exact ⟨_, _, he, .inl ⟨rfl, ⟨hI _ _ _ hi3 (Step.putObj W3 _ _ (by omega) (by omega) hl3 rfl), hl4, hk4⟩, hka.trans (hk2.trans ((hr3.mono (Nat.le_refl _) (by omega)).trans (Kr.putObj W3 _ _ (by omega) hl3 rfl)))⟩⟩
      | ret =>
        obtain ⟨hr3, hi3⟩ := hp
        obtain ⟨he, hl3, hl4, hk4⟩ := fin (some .ret) W3 hr3
        exact ⟨_, _, he, .inr ⟨rfl, ⟨.ret, hIx _ _ _ _ hi3 (Step.putObj W3 _ _ (by omega) (by omega) hl3 rfl), hl4, hk4⟩, hka.trans (hk2.trans ((hr3.mono (Nat.le_refl _) (by omega)).trans (Kr.putObj W3 _ _ (by omega) hl3 rfl)))⟩⟩
      | exit id =>
        obtain ⟨hr3, hi3⟩ := hp
        obtain ⟨he, hl3, hl4, hk4⟩ := fin (some (.exit id)) W3 hr3
        exact ⟨_, _, he, .inr ⟨rfl, ⟨.exit id, hIx _ _ _ _ hi3 (Step.putObj W3 _ _ (by omega) (by omega) hl3 rfl), hl4, hk4⟩, hka.trans (hk2.trans ((hr3.mono (Nat.le_refl _) (by omega)).trans (Kr.putObj W3 _ _ (by omega) hl3 rfl)))⟩⟩
      | goto t => exact hp.elim
      | panic ch => exact hp.elim
      | outgrown => exact hp.elim
    · rintro e W2 ⟨⟨v, rfl⟩, (⟨hi, hl, hk⟩ | ⟨pre, hpre, c, hi, hl, hk⟩)⟩
      · have he := run_endLoop (P := P) hl (by rw [hrec]; simp)
        rw [hrec] at he
        exact ⟨none, _, he, hdone _ _ (Nat.le_refl _) (hI xs W2 _ hi (Step.putObj W2 _ _ (by omega) (by omega) hl rfl)) ((World.putObj_heap_other (by omega)).trans hk)⟩
      · have he := run_endLoop (P := P) hl (by rw [hrec]; simp)
        rw [hrec] at he
        exact ⟨some c, _, he, hstop _ c pre _ (Nat.le_refl _) hpre (hIx c pre W2 _ hi (Step.putObj W2 _ _ (by omega) (by omega) hl rfl)) ((World.putObj_heap_other (by omega)).trans hk)⟩
end Go.Proofs.YtinopmdefndhoaaDoor.Rn
/- The iterator over a set's notes, by what it gives. -/
namespace Go.Proofs.YtinopmdefndhoaaDoor
open Go Go.RowKit Go.Shelf
attribute [local go_sem] Oper.semAt_some
attribute [local go_sem] wide_fn wide_depth

theorem SetAt.isN {w : World} {b lo hi : Nat} (_h : SetAt w b lo hi) : Rn.isN (.cells #[.int .u64 lo, .int .u64 hi] 26) := ⟨_, _, _, rfl, .inl rfl⟩
theorem SetAt.set {w : World} {b lo hi : Nat} (h : SetAt w b lo hi) (x y : Nat) : SetAt ((w.setCell ⟨b, 0, none⟩ (.int .u64 x)).setCell ⟨b, 1, none⟩ (.int .u64 y)) b x y := by
  show ((w.setCell ⟨b, 0, none⟩ (.int .u64 x)).setCell ⟨b, 1, none⟩ (.int .u64 y)).heap[b]? = _
  simp only [World.setCell, Array.getElem?_modify, if_true, show w.heap[b]? = _ from h, Option.map_some]
  rfl
theorem SetAt.kr {n₁ b' : Nat} {w w' : World} {b lo hi : Nat} (h : SetAt w b lo hi) (hn : n₁ ≤ b) (hr : Rn.Kr n₁ b' w w') : SetAt w' b lo hi := hr.same b _ h (.inr ⟨hn, h.isN⟩)
theorem SetAt.stp {n₁ b' : Nat} {w : World} {b lo hi : Nat} (h : SetAt w b lo hi) (hn : n₁ ≤ b) (x y : Nat) : Rn.Step n₁ b' w ((w.setCell ⟨b, 0, none⟩ (.int .u64 x)).setCell ⟨b, 1, none⟩ (.int .u64 y)) := by
  have h1 : (w.setCell ⟨b, 0, none⟩ (.int .u64 x)).heap[b]? = some (.cells #[.int .u64 x, .int .u64 hi] 26) := by
    simp only [World.setCell, Array.getElem?_modify, if_true, show w.heap[b]? = _ from h, Option.map_some]
    rfl
  exact (Rn.Step.set w ⟨b, 0, none⟩ rfl hn h h.isN _).trans (Rn.Step.set _ ⟨b, 1, none⟩ rfl hn h1 ⟨_, _, _, rfl, .inl rfl⟩ _)

set_option maxHeartbeats 400000 in
theorem below_c (lo hi : Nat) (w : World) :
    Calls Tryd.prog 58 #[.agg #[.int .u64 lo, .int .u64 hi]] w fun e w' => e = .returned (.func (.func 63) #[] #[.pointer (some ⟨w.heap.size, 0, none⟩)]) ∧ w' = w.alloc (.cells #[.int .u64 lo, .int .u64 hi] 26) := by
  go_enter Tryd.func58, Tryd.ntmps58
  go_wp2
  go_ret
  exact ⟨rfl, rfl⟩

set_option maxHeartbeats 2000000 in
theorem below_gives (n₁ lo hi : Nat) (hl : lo < 18446744073709551616) (hh : hi < 18446744073709551616) (n Bs : Nat) (w : World) (hB : n₁ ≤ Bs) (hS : SetAt w Bs lo hi) :
    Rn.Gives n₁ Fence.wide n Tryd.prog 63 #[.pointer (some ⟨Bs, 0, none⟩)] (fun x : Nat => #[.int .i64 (x : Nat)]) (Ns.notes lo hi) w Gl := by
  intro l J Jx W hbW hJ hJx hJK hY h0
  have hS' := hS.below hS.lt hbW
  have c0 := hS'.fst
  have c1 := hS'.snd
  have hz := hbW.size
  show CallsIn Fence.wide n Tryd.prog 63 #[.func (.yield l) #[] #[], .pointer (some ⟨Bs, 0, none⟩)] W _
  refine callsIn_of_wp Tryd.func63 rfl trivial ?_ rfl
  simp only [Tryd.ntmps63, List.size_toArray, List.length_cons, List.length_nil, Nat.reduceAdd, Nat.reduceSub, Array.replicate_succ, Array.replicate_zero, List.push_toArray, List.append_toArray, List.nil_append, List.cons_append]
  gi_wp2
  gi_loopw [3] (fun _p wr => ∃ (pre : List Nat) (lo' hi' : Nat), W.heap.size ≤ wr.heap.size ∧ SetAt wr Bs lo' hi' ∧ lo' < 18446744073709551616 ∧ hi' < 18446744073709551616 ∧ Ns.notes lo hi = pre ++ Ns.notes lo' hi' ∧ J pre wr)
    (fun _p wr => leftOf (.pointer (some ⟨Bs, 0, none⟩)) wr)
  case atStart =>
    exact ⟨[], lo, hi, Nat.le_refl _, hS', hl, hh, rfl, h0⟩
  case round =>
    obtain ⟨pre, lo', hi', hsz, hs, hl', hh', hx, hJs⟩ := hrel
    have Gr : Gl wr := hJK _ _ hJs
    have d0 := hs.fst
    have d1 := hs.snd
    have hlt := hs.lt
    by_cases hz0 : lo' = 0 ∧ hi' = 0
    · obtain ⟨rfl, rfl⟩ := hz0
      have HX := Lib.hid hx
      clear hx
      gi_wp2_with fail
      refine (callsIn_wide.2 (least_none _)).mono ?_
      rintro e w1 ⟨rfl, hb1⟩
      gi_wp2
      refine bodyPost_ret (results_none rfl _ _ _) rfl ?_
      exact ⟨⟨_, rfl⟩, .inl (by rw [HX.out, Ns.notes_nil, List.append_nil]; exact hJ pre wr _ hJs (Rn.Step.of_below (by omega) hb1))⟩
    · have hn : leftOf (.pointer (some ⟨Bs, 0, none⟩)) wr = (Ns.notes lo' hi').length := leftOf_eq d0 d1
      have HC := Lib.hid (Ns.notes_cons lo' hi' hl' hh' hz0)
      have HX := Lib.hid hx
      have HM := Lib.hid hn
      have UP := up_least lo' hi' hl' hh' hz0
      obtain ⟨x, hxe⟩ : ∃ x, x = Ns.least lo' hi' := ⟨_, rfl⟩
      have L := Lib.hid (show ∀ W', Gl W' → _ from fun W' g => least_some lo' hi' hl' hh' hz0 W' g)
      rw [← hxe] at L HC UP
      have hx128 : x < 128 := by rw [hxe]; exact (Ns.least_spec lo' hi' hl' hh' hz0).1
      have U := fun W' => upto_any lo' hi' x hl' hh' hx128 W'
      rw [UP.1, UP.2] at U
      have UU := Lib.hid U
      have hmem : ∃ post, Ns.notes lo hi = pre ++ x :: post := ⟨_, by rw [HX.out, HC.out]⟩
      clear hx hn hxe U UP
      gi_wp2_with fail
      refine (callsIn_wide.2 (L.out _ Gr)).mono ?_
      rintro e w1 ⟨rfl, hb1⟩
      have hJ1 := hJ pre wr w1 hJs (Rn.Step.of_below (by omega) hb1)
      obtain ⟨fn, tmps, assign, body, hy, hR⟩ := hY pre x w1 hJ1 hmem
      have HJX := Lib.hid hJx
      have hpre : ∃ post, Ns.notes lo hi = (pre ++ [x]) ++ post := by obtain ⟨post, hp⟩ := hmem; exact ⟨post, by rw [hp]; simp⟩
      have HP := Lib.hid hpre
      clear hJx hmem hpre
      try dsimp only at hy
      gi_wp2_with fail
      refine hR.mono ?_
      rintro e W3 (⟨rfl, hJ3, hr3⟩ | ⟨rfl, hJx3, _⟩)
      · have hs3 : SetAt W3 Bs lo' hi' := (hs.below hs.lt hb1).kr hB hr3
        have k0 := hs3.fst
        have k1 := hs3.snd
        have k2 := hs3.f0
        have k3 := hs3.f1
        have k4 := hs3.lt
        gi_wp2_with fail
        refine wpIn_wide.2 ?_
        go_region_with (first
          | (go_at_call 59; refine (UU.out _).mono ?_; rintro e w4 ⟨rfl, hb4⟩; have m0 := (bcell hb4).1 Bs 0 k4; have m1 := (bcell hb4).1 Bs 1 k4; have m2 := (bcell hb4).2 Bs 0 k4; have m3 := (bcell hb4).2 Bs 1 k4; have m4 : Bs < w4.heap.size := Nat.lt_of_lt_of_le k4 hb4.size)
          | (go_at_call 34; refine (without_any _ _ _ _ hl' hh' (Ns.sLo_lt x) (Ns.sHi_lt x hx128) _).mono ?_; rintro e w5 ⟨rfl, hb5⟩; have q0 := (bcell hb5).1 Bs 0 m4; have q1 := (bcell hb5).1 Bs 1 m4; have q2 := (bcell hb5).2 Bs 0 m4; have q3 := (bcell hb5).2 Bs 1 m4; have q4 : Bs < w5.heap.size := Nat.lt_of_lt_of_le m4 hb5.size))
        all_goals
          gi_wp2
          have e4 : Below W3.heap.size W3 w4 := ((Below.refl _ _).drew).trans hb4
          have z4 := e4.size
          have z5 := hb5.size
          have z3 := hr3.size
          have z1 := hb1.size
          have hs5 : SetAt w5 Bs lo' hi' := (hs3.below k4 e4).below m4 hb5
          have st : Rn.Step n₁ W.heap.size W3 w5 := (Rn.Step.of_below (by omega) e4).trans (Rn.Step.of_below (by omega) hb5)
          have st2 := st.trans (hs5.stp hB (Ns.wo lo' (Ns.sLo x)) (Ns.wo hi' (Ns.sHi x)))
          have hn := hs5.set (Ns.wo lo' (Ns.sLo x)) (Ns.wo hi' (Ns.sHi x))
          have hX : (((w5.setCell ⟨Bs, 0, none⟩ (.int .u64 (Ns.wo lo' (Ns.sLo x) : Nat))).setCell ⟨Bs, 1, none⟩ (.int .u64 (Ns.wo hi' (Ns.sHi x) : Nat)))).heap.size = w5.heap.size := by simp [World.setCell]
          go_roundw
          case rel =>
            exact ⟨pre ++ [x], _, _, by omega, hn, Ns.wo_lt _ _ hl', Ns.wo_lt _ _ hh', by rw [HX.out, HC.out]; simp, hJ _ _ _ hJ3 st2⟩
          case measure =>
            rw [leftOf_eq hn.fst hn.snd, HM.out, HC.out]
            simp
      · gi_wp2
        refine bodyPost_ret (results_none rfl _ _ _) rfl ?_
        exact ⟨⟨_, rfl⟩, .inr ⟨pre ++ [x], HP.out, hJx3⟩⟩
end Go.Proofs.YtinopmdefndhoaaDoor
/- A region that draws its order, inside a fence: one invariant over what has come up so far; one operation may turn the world for good. -/
namespace Go.Proofs.YtinopmdefndhoaaDoor
open Go Go.RowKit Go.Shelf

section
variable {F : Fence} {n : Nat} {P : Program} {ops : Array Oper} {Q : Exit → Act → World → Prop} {md : Region.Mode}

def SlotStepIn (F : Fence) (n : Nat) (P : Program) (md : Region.Mode) (ops : Array Oper) (Q : Exit → Act → World → Prop) (A : (Nat → Value) → Act) (I : (Nat → Bool) → (Nat → Value) → World → Prop) (i : Nat) (o : Oper) : Prop :=
  ∀ (L : Nat → Bool) (ys : Nat → Value) (w : World), L i = false → (∀ e ∈ o.after, Region.binds md e = true → L e.on = true) → I L ys w →
    ∀ K : Act → World → Prop, (∀ v w', I (upd L i true) (upd ys i v) w' → K (A (upd ys i v)) w') →
      if Region.wanted o (yielded ops (A ys).tmps) = true then Oper.wpIn F n P o (A ys) w K Q else (∀ f, o.about P w (A ys).eval = some f → F.fn f) ∧ K ((A ys).put o.dst undef) w

def SlotStepsIn (F : Fence) (n : Nat) (P : Program) (md : Region.Mode) (ops : Array Oper) (Q : Exit → Act → World → Prop) (A : (Nat → Value) → Act) (I : (Nat → Bool) → (Nat → Value) → World → Prop) : Nat → List Oper → Prop
  | _, [] => True
  | i, o :: rest => SlotStepIn F n P md ops Q A I i o ∧ SlotStepsIn F n P md ops Q A I (i + 1) rest

variable {A : (Nat → Value) → Act} {I : (Nat → Bool) → (Nat → Value) → World → Prop}

theorem SlotStepsIn.at : ∀ (l : List Oper) (k : Nat), SlotStepsIn F n P md ops Q A I k l → ∀ i o, l[i]? = some o → SlotStepIn F n P md ops Q A I (k + i) o
  | [], _, _, i, o, h => by simp at h
  | x :: l, k, hs, 0, o, h => by simp at h; subst h; exact hs.1
  | x :: l, k, hs, i + 1, o, h => by
    have := SlotStepsIn.at l (k + 1) hs.2 i o (by simpa using h)
    rwa [show k + 1 + i = k + (i + 1) by omega] at this

theorem wpAnyIn_slots (he : earlierB md ops = true) (hs : SlotStepsIn F n P md ops Q A I 0 ops.toList)
    (hd : ∀ L ys w, (∀ i, i < ops.size → L i = true) → I L ys w → Q .normal (A ys) w) :
    ∀ (fuel : Nat) (listed : Array Bool) (ys : Nat → Value) (w : World), listed.size = ops.size → toCome ops.size listed ≤ fuel →
      I (fun i => listed.getD i true) ys w → wpAnyIn F n P md ops Q fuel listed (A ys) w := by
  intro fuel
  induction fuel with
  | zero =>
    intro listed ys w hz hc hI
    have hnone : ∀ i, i < ops.size → listed.getD i true = true := fun i hi => by
      cases hl : listed.getD i true with
      | true => rfl
      | false =>
        have : i ∈ (List.range ops.size).filter fun i => !listed.getD i true := List.mem_filter.2 ⟨List.mem_range.2 hi, by rw [hl]; rfl⟩
        have := List.length_pos_of_mem this
        unfold toCome at hc
        omega
    refine ⟨?_, hd _ ys w hnone hI⟩
    cases hr : Region.ready md ops listed with
    | nil => rfl
    | cons x xs =>
      have hx : x ∈ Region.ready md ops listed := by rw [hr]; exact List.mem_cons_self ..
      obtain ⟨h0, o, ho, _⟩ := mem_ready.1 hx
      rw [hnone x (Array.getElem?_eq_some_iff.1 ho).1] at h0
      cases h0
  | succ fuel ih =>
    intro listed ys w hz hc hI
    refine ⟨fun hr => hd _ ys w (all_listed he hr) hI, fun i hi => ?_⟩
    obtain ⟨h0, o, ho, hall⟩ := mem_ready.1 hi
    have hlt : i < ops.size := (Array.getElem?_eq_some_iff.1 ho).1
    have hst := SlotStepsIn.at ops.toList 0 hs i o (by simpa using ho)
    rw [Nat.zero_add] at hst
    have key := hst (fun i => listed.getD i true) ys w h0 (fun e hm hb => by
      have h1 := hall e hm hb
      rcases Nat.lt_or_ge e.on listed.size with h' | h'
      · simpa [h'] using h1
      · simp [Array.getElem?_eq_none h'] at h1) hI (wpAnyIn F n P md ops Q fuel (listed.setIfInBounds i true)) (fun v w' hI' => by
      refine ih _ _ _ (by simp [hz]) (by have := toCome_set hlt h0; omega) ?_
      have e : (fun j => (listed.setIfInBounds i true).getD j true) = upd (fun j => listed.getD j true) i true := by
        funext j
        by_cases hji : j = i
        · subst hji; rw [upd_same]; simp [show j < listed.size by omega]
        · rw [upd_ne _ _ hji, getD_set_ne true (Ne.symm hji)]
      rw [e]
      exact hI')
    unfold wpOpIn
    rw [ho]
    exact key

theorem wpIn_region_slots {id : Nat} {a : Act} {w : World} (hm : P.follows .mixedOrders = true) (A : (Nat → Value) → Act) (I : (Nat → Bool) → (Nat → Value) → World → Prop) (ys : Nat → Value) (ha : a = A ys)
    (he : earlierB .any ops = true) (h0 : I (fun i => decide (ops.size ≤ i)) ys w.drew) (hs : SlotStepsIn F n P .any ops Q A I 0 ops.toList)
    (hd : ∀ L ys w, (∀ i, i < ops.size → L i = true) → I L ys w → Q .normal (A ys) w) : (Code.region id ops true).wpIn F n P Q a w := by
  refine wpIn_region_any hm ?_
  rw [ha]
  refine wpAnyIn_slots he hs hd _ _ _ _ (by simp) ?_ ?_
  · unfold toCome
    exact Nat.le_trans (List.length_filter_le _ _) (by simp)
  · have e : (fun i => (Array.replicate ops.size false).getD i true) = fun i => decide (ops.size ≤ i) := by
      funext i
      by_cases h : i < ops.size
      · simp [h]
      · simp [h]; omega
    rw [e]
    exact h0

/-- THE REGION, its frame laid out. -/
theorem wpIn_region_slots_at {id : Nat} {a : Act} {w : World} {base : List Value} {d : List Deferred} (hm : P.follows .mixedOrders = true) (_ha : a = { tmps := base.toArray, defers := d })
    (G : List Value → (Nat → Value) → List Value) (I : (Nat → Bool) → (Nat → Value) → World → Prop) (ys : Nat → Value) (he : earlierB .any ops = true)
    (h0 : I (fun i => decide (ops.size ≤ i)) ys w.drew)
    (h : ∀ A : (Nat → Value) → Act, A = (fun ys => { tmps := (G base ys).toArray, defers := d }) →
      a = A ys ∧ SlotStepsIn F n P .any ops Q A I 0 ops.toList ∧ ∀ L ys w, (∀ i, i < ops.size → L i = true) → I L ys w → Q .normal (A ys) w) : (Code.region id ops true).wpIn F n P Q a w := by
  obtain ⟨h1, h2, h3⟩ := h _ rfl
  exact wpIn_region_slots hm _ I ys h1 he h0 h2 h3

theorem SlotStepIn.below {m : Nat} {R : World → Prop} {Inv : Nat → Value → World → Prop} {i : Nat} {o : Oper}
    (hR : ∀ A B : World, Below A.heap.size A B → R A → R B) (hI : ∀ (j : Nat) (v : Value) (A B : World), Below A.heap.size A B → Inv j v A → Inv j v B)
    (h : ∀ (ys : Nat → Value) (w : World), R w → (∀ j, waitsB md o j = true → j < m → Inv j (ys j) w) →
      ∀ K : Act → World → Prop, (∀ v w', Below w.heap.size w w' → Inv i v w' → K (A (upd ys i v)) w') →
        if Region.wanted o (yielded ops (A ys).tmps) = true then Oper.wpIn F n P o (A ys) w K Q else (∀ f, o.about P w (A ys).eval = some f → F.fn f) ∧ K ((A ys).put o.dst undef) w) :
    SlotStepIn F n P md ops Q A (BelowI m R Inv) i o := by
  intro L ys w _ ha ⟨hr, hi⟩ K hK
  refine h ys w hr (fun j hw hj => hi j hj (waits_at ha hw)) K (fun v w' hb hv => hK v w' ⟨hR _ _ hb hr, fun j hj hL => ?_⟩)
  by_cases hji : j = i
  · subst hji; rw [upd_same]; exact hv
  · rw [upd_ne _ _ hji]
    rw [upd_ne _ _ hji] at hL
    exact hI j _ _ _ hb (hi j hj hL)

/-- Each operation ahead of number m is waited for by one up to m. -/
def usedTo (ops : Array Oper) (m : Nat) : Bool := (List.range m).all fun j => (List.range (m + 1)).any fun k => decide (j < k) && (match ops[k]? with | some o => waitsB .any o j | none => false)
theorem turn_all {m : Nat} {L : Nat → Bool} (hu : usedTo ops m = true) (hc : ∀ j o, ops[j]? = some o → L j = true → ∀ e ∈ o.after, Region.binds .any e = true → L e.on = true) (hl : L m = true) :
    ∀ d j, j + d = m → L j = true := by
  intro d
  induction d using Nat.strongRecOn with
  | ind d ih =>
    intro j hj
    by_cases h0 : d = 0
    · subst h0; rw [Nat.add_zero] at hj; rw [hj]; exact hl
    · have h1 := List.all_eq_true.1 hu j (List.mem_range.2 (by omega))
      obtain ⟨k, hk, hkb⟩ := List.any_eq_true.1 h1
      have hkn := List.mem_range.1 hk
      simp only [Bool.and_eq_true, decide_eq_true_eq] at hkb
      obtain ⟨hjk, hw⟩ := hkb
      cases ho : ops[k]? with
      | none => rw [ho] at hw; cases hw
      | some o =>
        rw [ho] at hw
        exact waits_at (hc k o ho (ih (m - k) (by omega) k (by omega))) hw

/-- What is right until operation m, and what is right behind it. -/
def TurnI (ops : Array Oper) (m : Nat) (R : World → Prop) (Inv : Nat → Value → World → Prop) (Fin : (Nat → Bool) → (Nat → Value) → World → Prop) : (Nat → Bool) → (Nat → Value) → World → Prop :=
  fun L ys w => (∀ j o, ops[j]? = some o → L j = true → ∀ e ∈ o.after, Region.binds .any e = true → L e.on = true) ∧
    ((L m = false ∧ R w ∧ ∀ j, j < m → L j = true → Inv j (ys j) w) ∨ (L m = true ∧ Fin L ys w))

variable {m : Nat} {R : World → Prop} {Inv : Nat → Value → World → Prop} {Fin : (Nat → Bool) → (Nat → Value) → World → Prop}

theorem SlotStepIn.turnB (hu : usedTo ops m = true) {i : Nat} {o : Oper} (ho : ops[i]? = some o) (hi : i < m)
    (hR : ∀ A B : World, Below A.heap.size A B → R A → R B) (hI : ∀ (j : Nat) (v : Value) (A B : World), Below A.heap.size A B → Inv j v A → Inv j v B)
    (h : ∀ (ys : Nat → Value) (w : World), R w → (∀ j, waitsB .any o j = true → j < m → Inv j (ys j) w) →
      ∀ K : Act → World → Prop, (∀ v w', Below w.heap.size w w' → Inv i v w' → K (A (upd ys i v)) w') →
        if Region.wanted o (yielded ops (A ys).tmps) = true then Oper.wpIn F n P o (A ys) w K Q else (∀ f, o.about P w (A ys).eval = some f → F.fn f) ∧ K ((A ys).put o.dst undef) w) :
    SlotStepIn F n P .any ops Q A (TurnI ops m R Inv Fin) i o := by
  intro L ys w hL ha ⟨hc, hd⟩ K hK
  rcases hd with ⟨hl, hr, hi2⟩ | ⟨hl, _⟩
  · refine h ys w hr (fun j hw hj => hi2 j hj (waits_at ha hw)) K (fun v w' hb hv => hK v w' ⟨clo_upd ho ha hc, .inl ⟨by rw [upd_ne _ _ (by omega)]; exact hl, hR _ _ hb hr, fun j hj hLj => ?_⟩⟩)
    by_cases hji : j = i
    · subst hji; rw [upd_same]; exact hv
    · rw [upd_ne _ _ hji]
      rw [upd_ne _ _ hji] at hLj
      exact hI j _ _ _ hb (hi2 j hj hLj)
  · rw [turn_all hu hc hl (m - i) i (by omega)] at hL
    cases hL

theorem SlotStepIn.turnM {o : Oper} (ho : ops[m]? = some o)
    (h : ∀ (L : Nat → Bool) (ys : Nat → Value) (w : World), R w → (∀ j, waitsB .any o j = true → j < m → Inv j (ys j) w) →
      ∀ K : Act → World → Prop, (∀ v w', Fin (upd L m true) (upd ys m v) w' → K (A (upd ys m v)) w') → (∀ j o', ops[j]? = some o' → waitsB .any o' m = true → L j = false) →
        if Region.wanted o (yielded ops (A ys).tmps) = true then Oper.wpIn F n P o (A ys) w K Q else (∀ f, o.about P w (A ys).eval = some f → F.fn f) ∧ K ((A ys).put o.dst undef) w) :
    SlotStepIn F n P .any ops Q A (TurnI ops m R Inv Fin) m o := by
  intro L ys w hL ha ⟨hc, hd⟩ K hK
  rcases hd with ⟨_, hr, hi2⟩ | ⟨hl, _⟩
  · refine h L ys w hr (fun j hw hj => hi2 j hj (waits_at ha hw)) K (fun v w' hf => hK v w' ⟨clo_upd ho ha hc, .inr ⟨upd_same _ _ _, hf⟩⟩) (fun j o' hj hw => ?_)
    cases hLj : L j with
    | false => rfl
    | true => have := waits_at (hc j o' hj hLj) hw; rw [hL] at this; cases this
  · rw [hL] at hl; cases hl

theorem SlotStepIn.turnA {i : Nat} {o : Oper} (ho : ops[i]? = some o) (hi : i ≠ m) (hw : waitsB .any o m = true)
    (h : ∀ (L : Nat → Bool) (ys : Nat → Value) (w : World), Fin L ys w →
      ∀ K : Act → World → Prop, (∀ v w', Fin (upd L i true) (upd ys i v) w' → K (A (upd ys i v)) w') →
        if Region.wanted o (yielded ops (A ys).tmps) = true then Oper.wpIn F n P o (A ys) w K Q else (∀ f, o.about P w (A ys).eval = some f → F.fn f) ∧ K ((A ys).put o.dst undef) w) :
    SlotStepIn F n P .any ops Q A (TurnI ops m R Inv Fin) i o := by
  intro L ys w hL ha ⟨hc, hd⟩ K hK
  have hm : L m = true := waits_at ha hw
  rcases hd with ⟨hl, _⟩ | ⟨hl, hf⟩
  · rw [hm] at hl; cases hl
  · exact h L ys w hf K (fun v w' hf' => hK v w' ⟨clo_upd ho ha hc, .inr ⟨by rw [upd_ne _ _ (Ne.symm hi)]; exact hl, hf'⟩⟩)

theorem turn_start (h0 : m < ops.size) {ys : Nat → Value} {w : World} (hr : R w) : TurnI ops m R Inv Fin (fun i => decide (ops.size ≤ i)) ys w :=
  ⟨fun j o ho hj => by have := (Array.getElem?_eq_some_iff.1 ho).1; have := of_decide_eq_true hj; omega, .inl ⟨by simp; omega, hr, fun j hj hL => by have := of_decide_eq_true hL; omega⟩⟩
theorem turn_end (h0 : m < ops.size) {L : Nat → Bool} {ys : Nat → Value} {w : World} (hL : ∀ i, i < ops.size → L i = true) (h : TurnI ops m R Inv Fin L ys w) : Fin L ys w := by
  rcases h.2 with ⟨hl, _⟩ | ⟨_, h⟩
  · rw [hL _ h0] at hl; cases hl
  · exact h
end
end Go.Proofs.YtinopmdefndhoaaDoor
/- The iterator over a set's cuts, by what it gives. -/
namespace Go.Proofs.YtinopmdefndhoaaDoor
open Go Go.RowKit Go.Shelf
attribute [local go_sem] Oper.semAt_some
attribute [local go_sem] wide_fn wide_depth

theorem RoundIn.any {F : Fence} (hd : F.depth = none) {m m' : Nat} {P : Program} {l : Nat} {f : FuncId} {tmps : Array Value} {assign body : Code} {w : World} {R : Ending → World → Prop}
    (h : RoundIn F m P l f tmps assign body w R) : RoundIn F m' P l f tmps assign body w R := ⟨h.1, fun c cs _ => h.2 c cs (fun d e => by rw [hd] at e; cases e)⟩
theorem RoundIn.inRnd {F : Fence} {m : Nat} {P : Program} {l l' : Nat} {f : FuncId} {tmps : Array Value} {assign body : Code} {w : World} {R : Ending → World → Prop}
    (h : RoundIn F m P l f tmps assign body w R) : RoundIn (F.inRound l') m P l f tmps assign body w R := h

/-- A cut: both parts. -/
def cutE (L : List Nat) (t : Nat) : Array Value := #[.agg #[.int .u64 ((ofN (L.take t)).1 : Nat), .int .u64 ((ofN (L.take t)).2 : Nat)], .agg #[.int .u64 ((ofN (L.drop t)).1 : Nat), .int .u64 ((ofN (L.drop t)).2 : Nat)]]
theorem cutE_zero (lo hi : Nat) (hl : lo < 18446744073709551616) (hh : hi < 18446744073709551616) : cutE (Ns.notes lo hi) 0 = #[.agg #[.int .u64 0, .int .u64 0], .agg #[.int .u64 lo, .int .u64 hi]] := by
  unfold cutE
  rw [List.take_zero, List.drop_zero, ofN_notes lo hi hl hh]
  rfl
theorem cutE_at (lo hi : Nat) (hl : lo < 18446744073709551616) (hh : hi < 18446744073709551616) (pre post : List Nat) (x : Nat) (h : Ns.notes lo hi = pre ++ x :: post) :
    cutE (Ns.notes lo hi) (pre.length + 1) = #[.agg #[.int .u64 (upA lo x : Nat), .int .u64 (upB hi x : Nat)], .agg #[.int .u64 (Ns.wo lo (upA lo x) : Nat), .int .u64 (Ns.wo hi (upB hi x) : Nat)]] := by
  obtain ⟨⟨a1, a2⟩, a3, a4⟩ := cut_at lo hi hl hh pre post x h
  have e1 : (Ns.notes lo hi).take (pre.length + 1) = pre ++ [x] := by rw [h]; simp [List.take_append, List.take_of_length_le]
  have e2 : (Ns.notes lo hi).drop (pre.length + 1) = post := by rw [h]; simp [List.drop_append]
  unfold cutE
  rw [e1, e2, a1, a2, ← a3, ← a4, a1, a2]

set_option maxHeartbeats 400000 in
theorem cuts_c (lo hi : Nat) (w : World) :
    Calls Tryd.prog 42 #[.agg #[.int .u64 lo, .int .u64 hi]] w fun e w' => e = .returned (.func (.func 57) #[] #[.pointer (some ⟨w.heap.size, 0, none⟩)]) ∧ w' = w.alloc (.cells #[.int .u64 lo, .int .u64 hi] 26) := by
  go_enter Tryd.func42, Tryd.ntmps42
  go_wp2
  go_ret
  exact ⟨rfl, rfl⟩

/-- Where a yield is kept. -/
def FnAt (w : World) (b l : Nat) : Prop := w.heap[b]? = some (.cells #[.func (.yield l) #[] #[]] 90)
theorem FnAt.cell {w : World} {b l : Nat} (h : FnAt w b l) : w.cell? ⟨b, 0, none⟩ = some (.func (.yield l) #[] #[]) := by simp [World.cell?, show w.heap[b]? = _ from h]
theorem FnAt.lt {w : World} {b l : Nat} (h : FnAt w b l) : b < w.heap.size := (Array.getElem?_eq_some_iff.1 h).1
theorem FnAt.kr {n₁ b' : Nat} {w w' : World} {b l : Nat} (h : FnAt w b l) (hn : n₁ ≤ b) (hr : Rn.Kr n₁ b' w w') : FnAt w' b l := hr.same b _ h (.inr ⟨hn, _, _, _, rfl, .inr (.inr rfl)⟩)
theorem FnAt.below {w w' : World} {b l B : Nat} (h : FnAt w b l) (hB : b < B) (hb : Below B w w') : FnAt w' b l := (hb.block b hB).trans h

def ctI (l A B C D E F : Nat) : Nat → Value → World → Prop
  | 0, v, _ => v = .func (.yield l) #[] #[]
  | 1, v, _ => v = .agg #[.int .u64 (C : Nat), .int .u64 (D : Nat)]
  | 2, v, _ => v = .agg #[.int .u64 (A : Nat), .int .u64 (B : Nat)]
  | 3, v, _ => v = .agg #[.int .u64 (C : Nat), .int .u64 (D : Nat)]
  | 4, v, _ => v = .agg #[.int .u64 (E : Nat), .int .u64 (F : Nat)]
  | _, _, _ => True
theorem ctI_up (l A B C D E F : Nat) : ∀ (j : Nat) (v : Value) (X Y : World), Below X.heap.size X Y → ctI l A B C D E F j v X → ctI l A B C D E F j v Y
  | 0, _, _, _, _, h => h
  | 1, _, _, _, _, h => h
  | 2, _, _, _, _, h => h
  | 3, _, _, _, _, h => h
  | 4, _, _, _, _, h => h
  | _ + 5, _, _, _, _, _ => trivial

/-- What a yield has left. -/
def ctF (n₁ b : Nat) (A : World) (J1 J2 : World → Prop) (L : Nat → Bool) (ys : Nat → Value) (w : World) : Prop :=
  ∃ r : Bool, ys 5 = .bool r ∧ (L 6 = true → ys 6 = .bool (!r)) ∧ Rn.Kr n₁ b A w ∧ (if r then J1 w else J2 w)

set_option maxRecDepth 100000 in
set_option maxHeartbeats 4000000 in
theorem cuts_gives (n₁ lo hi : Nat) (hl : lo < 18446744073709551616) (hh : hi < 18446744073709551616) (n Bs : Nat) (hn : 1 ≤ n) (w : World) (hn₁ : n₁ ≤ w.heap.size) (hB : n₁ ≤ Bs) (hS : SetAt w Bs lo hi) :
    Rn.Gives n₁ Fence.wide n Tryd.prog 57 #[.pointer (some ⟨Bs, 0, none⟩)] (cutE (Ns.notes lo hi)) (List.range' 0 ((Ns.notes lo hi).length + 1)) w Gl := by
  intro l J Jx W hbW hJ hJx hJK hY h0
  have hS' := hS.below hS.lt hbW
  have hz := hbW.size
  have hBs := hS'.lt
  have HY := Lib.hid hY
  have HJX := Lib.hid hJx
  have HJK := Lib.hid hJK
  have HJ := Lib.hid hJ
  clear hY hJx hJK hJ
  obtain ⟨W1, hW1⟩ : ∃ W1, W.alloc (.cells #[.func (.yield l) #[] #[]] 90) = W1 := ⟨_, rfl⟩
  have hb1 : Below W.heap.size W W1 := by rw [← hW1]; exact (Below.refl _ _).alloc (Nat.le_refl _) _
  have hz1 := hb1.size
  have hS1 : SetAt W1 Bs lo hi := hS'.below hBs hb1
  have hF1 : FnAt W1 W.heap.size l := by rw [← hW1]; exact World.alloc_heap_new W _
  have hJ1 : J [] W1 := HJ.out _ _ _ h0 (Rn.Step.of_below (by omega) hb1)
  have hy1 := HY.out [] 0 W1 hJ1 ⟨List.range' 1 (Ns.notes lo hi).length, by rw [List.nil_append, List.range'_succ]⟩
  rw [cutE_zero lo hi hl hh, List.nil_append] at hy1
  obtain ⟨fn, tmps, assign, body, hy, hR⟩ := hy1
  obtain ⟨Y, hYz⟩ : ∃ Y, W.heap.size = Y := ⟨_, rfl⟩
  show CallsIn Fence.wide n Tryd.prog 57 #[.func (.yield l) #[] #[], .pointer (some ⟨Bs, 0, none⟩)] W _
  refine callsIn_of_wp_marks Tryd.func57 rfl trivial ?_ rfl
  simp only [Tryd.ntmps57, List.size_toArray, List.length_cons, List.length_nil, Nat.reduceAdd, Nat.reduceSub, Array.replicate_succ, Array.replicate_zero, List.push_toArray, List.append_toArray, List.nil_append, List.cons_append]
  have c0 : (W.alloc (.cells #[.func (.yield l) #[] #[]] 90)).cell? ⟨Bs, 0, none⟩ = some (.int .u64 lo) := by rw [hW1]; exact hS1.fst
  have c1 : (W.alloc (.cells #[.func (.yield l) #[] #[]] 90)).cell? ⟨Bs, 1, none⟩ = some (.int .u64 hi) := by rw [hW1]; exact hS1.snd
  rw [← hW1] at hy hR
  have HW1 := Lib.hid hW1
  clear hW1
  gi_wp2_with fail
  refine hR.mono ?_
  clear hy hR c0 c1
  rw [HW1.out]
  rintro e W3 (⟨rfl, hJ3, hr3⟩ | ⟨rfl, hJx3, hr3⟩)
  · have hS3 := hS1.kr hB hr3
    have hF3 : FnAt W3 Y l := by rw [← hYz]; exact hF1.kr (by omega) hr3
    have hz3 := hr3.size
    have hlt3 := hS3.lt
    have hY3 := hF3.lt
    have c0 := hS3.fst
    have c1 := hS3.snd
    clear hr3
    gi_wp2_with fail
    refine (callsIn_wide.2 (below_c lo hi _)).mono ?_
    rintro e w' ⟨rfl, rfl⟩
    obtain ⟨V, hV⟩ : ∃ V, W3.alloc (.cells #[.int .u64 lo, .int .u64 hi] 26) = V := ⟨_, rfl⟩
    have hbV : Below W3.heap.size W3 V := by rw [← hV]; exact (Below.refl _ _).alloc (Nat.le_refl _) _
    have hzV : V.heap.size = W3.heap.size + 1 := by rw [← hV]; simp
    have hSV : SetAt V W3.heap.size lo hi := by rw [← hV]; exact SetAt.new W3 lo hi
    have hJV : J [0] V := HJ.out _ _ _ hJ3 (Rn.Step.of_below (by omega) hbV)
    have hS4 : SetAt V Bs lo hi := hS3.below hlt3 hbV
    have hF4 : FnAt V Y l := hF3.below hY3 hbV
    rw [hV]
    clear hV c0 c1 hbV
    gi_wp2_with fail
    refine Rn.range_all rfl hn (gf := 63) (lb := #[.pointer (some ⟨W3.heap.size, 0, none⟩)]) rfl trivial (enters_of Tryd.func63 (by kernel_rfl) rfl) (n₁ := W3.heap.size) (by omega)
      (below_gives W3.heap.size lo hi hl hh (n - 1) W3.heap.size V (Nat.le_refl _) hSV) (fun _ => rfl)
      (fun pre A => J (List.range' 0 (pre.length + 1)) A ∧ SetAt A Bs lo hi ∧ FnAt A Y l ∧ V.heap.size ≤ A.heap.size)
      (fun c pre A => c = .ret ∧ pre ≠ [] ∧ Jx (List.range' 0 (pre.length + 1)) A)
      (fun s A B h st => ⟨HJ.out _ _ _ h.1 (st.mono (by omega) (by omega)), h.2.1.below hlt3 st.below, h.2.2.1.below hY3 st.below, Nat.le_trans h.2.2.2 st.below.size⟩)
      (fun c s A B h st => ⟨h.1, h.2.1, HJX.out _ _ _ h.2.2 (st.mono (by omega) (by omega))⟩)
      (fun s A h => HJK.out _ _ h.1)
      ⟨hJV, hS4, hF4, Nat.le_refl _⟩
      (fun x a' _ => a' = { tmps := #[.func (.yield l) #[] #[], .pointer (some ⟨Bs, 0, none⟩), .pointer (some ⟨Y, 0, none⟩), .int .i64 (x : Nat), undef, .func (.yield l) #[] #[], .agg #[.int .u64 0, .int .u64 0], .agg #[.int .u64 lo, .int .u64 hi], .bool true, .bool false, .agg #[.int .u64 lo, .int .u64 hi], .func (.func 63) #[] #[.pointer (some ⟨W3.heap.size, 0, none⟩)], .int .i64 (x : Nat), undef, undef, undef, undef, undef, undef, undef, undef, undef, undef], defers := [] })
      (fun _ _ _ _ _ _ _ _ h => h) ?assign ?body ?done ?stop
    case assign =>
      intro l' pre x A K _ _ hK
      gi_wp2
      exact hK _ _ (Below.refl _ _) rfl
    case body =>
      rintro l' pre x a' A ⟨hJb, hSb, hFb, hzb⟩ ⟨post, hpost⟩ hszA rfl
      have hx128 : x < 128 := Ns.notes_lt (lo := lo) (hi := hi) (by rw [hpost]; simp)
      have UU := Lib.hid (fun W' => upto_any lo hi x hl hh hx128 W')
      have WW := Lib.hid (fun W' => without_any lo hi (upA lo x) (upB hi x) hl hh (upA_lt lo x hl) (upB_lt hi x hh) W')
      have HE := Lib.hid (cutE_at lo hi hl hh pre post x hpost)
      have hlen : pre.length + 1 + post.length = (Ns.notes lo hi).length := by rw [hpost]; simp; omega
      have hmem : ∃ post', List.range' 0 ((Ns.notes lo hi).length + 1) = List.range' 0 (pre.length + 1) ++ (pre.length + 1) :: post' := by
        refine ⟨List.range' (pre.length + 2) post.length, ?_⟩
        have e2 := List.range'_append_1 (s := 0) (m := pre.length + 1) (n := post.length + 1)
        rw [Nat.zero_add, List.range'_succ (s := pre.length + 1)] at e2
        rw [e2]
        congr 1
        omega
      have HM := Lib.hid hmem
      have c0 := hSb.fst
      have c1 := hSb.snd
      have hltA := hSb.lt
      clear hmem hlen hpost
      gi_wp2_with fail
      refine (CallsIn.inRound l' (callsIn_wide.2 (UU.out _))).mono ?_
      rintro e w4 ⟨rfl, hb4⟩
      clear c0 c1
      gi_wp2_with fail
      obtain ⟨V5, hV5⟩ : ∃ V5, w4.alloc (.cells #[.int .u64 (upA lo x : Nat), .int .u64 (upB hi x : Nat)] 26) = V5 := ⟨_, rfl⟩
      have hz4 := hb4.size
      have hb5 : Below A.heap.size A V5 := by rw [← hV5]; exact hb4.alloc hz4 _
      have hU5 : SetAt V5 w4.heap.size (upA lo x) (upB hi x) := by rw [← hV5]; exact SetAt.new w4 _ _
      have hS5 := hSb.below hltA hb5
      have hF5 := hFb.below hFb.lt hb5
      have hJ5 := HJ.out _ _ _ hJb (Rn.Step.of_below (by omega) hb5)
      have hz5 := hb5.size
      try rw [hV5]
      clear hV5 hb4
      refine wpIn_region_slots_at rfl rfl (fun base ys => ((((((base.set 16 (ys 0)).set 17 (ys 1)).set 18 (ys 2)).set 19 (ys 3)).set 20 (ys 4)).set 21 (ys 5)).set 22 (ys 6)) (TurnI _ 5 (fun B => Below V5.heap.size V5 B) (ctI l lo hi (upA lo x) (upB hi x) (Ns.wo lo (upA lo x)) (Ns.wo hi (upB hi x))) (ctF n₁ W.heap.size A (fun B => J (List.range' 0 (pre.length + 1 + 1)) B) (fun B => Jx (List.range' 0 (pre.length + 1 + 1)) B))) (fun _ => undef) (by kernel_rfl) (turn_start (by decide) ⟨rfl, rfl, rfl, Nat.le_refl _, fun _ _ => rfl⟩) ?h
      case h =>
        intro FF hFF
        simp only [List.set_cons_succ, List.set_cons_zero] at hFF
        subst hFF
        refine ⟨rfl, ?_, ?_⟩
        refine ⟨?_, ?_⟩
        · refine SlotStepIn.turnB (by kernel_rfl) rfl (by decide) (fun X Z hb h => h.trans (hb.mono h.size)) (ctI_up l lo hi (upA lo x) (upB hi x) (Ns.wo lo (upA lo x)) (Ns.wo hi (upB hi x))) ?_
          intro ys B hR hd K hK
          have f0 := (hF5.below hF5.lt hR).cell
          go_simp
          have hK2 := hK (.func (.yield l) #[] #[]) _ (Below.refl _ _) rfl
          simp (config := { decide := true }) only [upd, if_true, if_false] at hK2
          exact hK2
        refine ⟨?_, ?_⟩
        · refine SlotStepIn.turnB (by kernel_rfl) rfl (by decide) (fun X Z hb h => h.trans (hb.mono h.size)) (ctI_up l lo hi (upA lo x) (upB hi x) (Ns.wo lo (upA lo x)) (Ns.wo hi (upB hi x))) ?_
          intro ys B hR hd K hK
          have u0 := (hU5.below hU5.lt hR).fst
          have u1 := (hU5.below hU5.lt hR).snd
          go_simp
          have hK2 := hK (.agg #[.int .u64 (upA lo x : Nat), .int .u64 (upB hi x : Nat)]) _ (Below.refl _ _) rfl
          simp (config := { decide := true }) only [upd, if_true, if_false] at hK2
          exact hK2
        refine ⟨?_, ?_⟩
        · refine SlotStepIn.turnB (by kernel_rfl) rfl (by decide) (fun X Z hb h => h.trans (hb.mono h.size)) (ctI_up l lo hi (upA lo x) (upB hi x) (Ns.wo lo (upA lo x)) (Ns.wo hi (upB hi x))) ?_
          intro ys B hR hd K hK
          have u0 := (hS5.below hS5.lt hR).fst
          have u1 := (hS5.below hS5.lt hR).snd
          go_simp
          have hK2 := hK (.agg #[.int .u64 lo, .int .u64 hi]) _ (Below.refl _ _) rfl
          simp (config := { decide := true }) only [upd, if_true, if_false] at hK2
          exact hK2
        refine ⟨?_, ?_⟩
        · refine SlotStepIn.turnB (by kernel_rfl) rfl (by decide) (fun X Z hb h => h.trans (hb.mono h.size)) (ctI_up l lo hi (upA lo x) (upB hi x) (Ns.wo lo (upA lo x)) (Ns.wo hi (upB hi x))) ?_
          intro ys B hR hd K hK
          have u0 := (hU5.below hU5.lt hR).fst
          have u1 := (hU5.below hU5.lt hR).snd
          go_simp
          have hK2 := hK (.agg #[.int .u64 (upA lo x : Nat), .int .u64 (upB hi x : Nat)]) _ (Below.refl _ _) rfl
          simp (config := { decide := true }) only [upd, if_true, if_false] at hK2
          exact hK2
        refine ⟨?_, ?_⟩
        · refine SlotStepIn.turnB (by kernel_rfl) rfl (by decide) (fun X Z hb h => h.trans (hb.mono h.size)) (ctI_up l lo hi (upA lo x) (upB hi x) (Ns.wo lo (upA lo x)) (Ns.wo hi (upB hi x))) ?_
          intro ys B hR hd K hK
          have dd2 : ys 2 = (.agg #[.int .u64 lo, .int .u64 hi]) := hd 2 (by kernel_rfl) (by decide)
          have dd3 : ys 3 = (.agg #[.int .u64 (upA lo x : Nat), .int .u64 (upB hi x : Nat)]) := hd 3 (by kernel_rfl) (by decide)
          go_simp
          refine (CallsIn.inRound l' (callsIn_wide.2 (WW.out _))).mono ?_
          rintro e w5 ⟨rfl, hb5'⟩
          have hK2 := hK (.agg #[.int .u64 (Ns.wo lo (upA lo x) : Nat), .int .u64 (Ns.wo hi (upB hi x) : Nat)]) _ hb5' rfl
          simp (config := { decide := true }) only [upd, if_true, if_false, dd2, dd3] at hK2
          exact hK2
        refine ⟨?_, ?_⟩
        · refine SlotStepIn.turnM rfl ?_
          intro LL ys B hR hd K hK hafter
          have dd0 : ys 0 = (.func (.yield l) #[] #[]) := hd 0 (by kernel_rfl) (by decide)
          have dd1 : ys 1 = (.agg #[.int .u64 (upA lo x : Nat), .int .u64 (upB hi x : Nat)]) := hd 1 (by kernel_rfl) (by decide)
          have dd4 : ys 4 = (.agg #[.int .u64 (Ns.wo lo (upA lo x) : Nat), .int .u64 (Ns.wo hi (upB hi x) : Nat)]) := hd 4 (by kernel_rfl) (by decide)
          have hJB := HJ.out _ _ _ hJ5 (Rn.Step.of_below (by omega) hR)
          have hyB := HY.out _ (pre.length + 1) B hJB HM.out
          rw [HE.out] at hyB
          obtain ⟨fn2, tmps2, assign2, body2, hy2, hR2⟩ := hyB
          go_simp
          refine (RoundIn.inRnd (RoundIn.any rfl hR2)).mono ?_
          have hkA : Rn.Kr n₁ W.heap.size A B := (Rn.Kr.of_below hb5).trans (Rn.Kr.of_below hR)
          have eR : List.range' 0 (pre.length + 1) ++ [pre.length + 1] = List.range' 0 (pre.length + 1 + 1) := by rw [List.range'_1_concat (n := pre.length + 1), Nat.zero_add]
          have h6 := hafter 6 _ rfl (by kernel_rfl)
          rintro e B2 (⟨rfl, hJ2, hr2⟩ | ⟨rfl, hJ2, hr2⟩)
          · have hK2 := hK (.bool true) B2 ⟨true, upd_same _ _ _, (fun h => by rw [upd_ne _ _ (by decide), h6] at h; cases h), hkA.trans hr2, by rw [if_pos rfl, ← eR]; exact hJ2⟩
            simp (config := { decide := true }) only [upd, if_true, if_false, dd0, dd1, dd4] at hK2
            exact hK2
          · have hK2 := hK (.bool false) B2 ⟨false, upd_same _ _ _, (fun h => by rw [upd_ne _ _ (by decide), h6] at h; cases h), hkA.trans hr2, by rw [if_neg (by decide), ← eR]; exact hJ2⟩
            simp (config := { decide := true }) only [upd, if_true, if_false, dd0, dd1, dd4] at hK2
            exact hK2
        refine ⟨?_, ?_⟩
        · refine SlotStepIn.turnA rfl (by decide) (by kernel_rfl) ?_
          intro LL ys B hF K hK
          obtain ⟨r, h5, h6, hkr, hj⟩ := hF
          cases r
          · go_simp
            have hK2 := hK (.bool true) B ⟨false, by rw [upd_ne _ _ (by decide)]; exact h5, fun _ => upd_same _ _ _, hkr, hj⟩
            simp (config := { decide := true }) only [upd, if_true, if_false, h5] at hK2
            exact hK2
          · go_simp
            have hK2 := hK (.bool false) B ⟨true, by rw [upd_ne _ _ (by decide)]; exact h5, fun _ => upd_same _ _ _, hkr, hj⟩
            simp (config := { decide := true }) only [upd, if_true, if_false, h5] at hK2
            exact hK2
        trivial
        · intro LL ys B hL hI
          obtain ⟨r, h5, h6, hkr, hj⟩ := turn_end (by decide) hL hI
          have y6 := h6 (hL 6 (by decide))
          have zk := hkr.size
          cases r
          · simp only [Bool.not_false] at y6
            simp only [y6]
            gi_wp2
            exact ⟨hkr.mono (by omega) (by omega), rfl, by simp, by rw [List.length_append, List.length_singleton]; exact hj⟩
          · simp only [Bool.not_true] at y6
            simp only [y6]
            gi_wp2
            exact ⟨hkr.mono (by omega) (by omega), by rw [List.length_append, List.length_singleton]; exact hj, hSb.kr hB hkr, hFb.kr (by omega) hkr, by omega⟩
    case done =>
      rintro D2 A hD2 ⟨hJd, _, _, _⟩ hK
      gi_wp2
      refine ⟨by simp, .inl ⟨_, _, rfl, run_takeDeferred hK, ?_⟩⟩
      exact ⟨_, results_none rfl _ _ _, ⟨_, rfl⟩, .inl (HJ.out _ _ _ hJd (Rn.Step.putObj A _ _ (by omega) (by omega) hK rfl))⟩
    case stop =>
      rintro D2 c pre A hD2 ⟨post, hpost⟩ ⟨rfl, hne, hJd⟩ hK
      gi_wp2
      refine ⟨by simp, .inl ⟨_, _, rfl, run_takeDeferred hK, ?_⟩⟩
      refine ⟨_, results_none rfl _ _ _, ⟨_, rfl⟩, .inr ⟨_, ⟨List.range' (pre.length + 1) post.length, ?_⟩, HJX.out _ _ _ hJd (Rn.Step.putObj A _ _ (by omega) (by omega) hK rfl)⟩⟩
      have e2 := List.range'_append_1 (s := 0) (m := pre.length + 1) (n := post.length)
      rw [Nat.zero_add] at e2
      rw [e2, hpost, List.length_append]
      congr 1
      omega
  · gi_wp2
    exact ⟨_, results_none rfl _ _ _, ⟨_, rfl⟩, .inr ⟨[0], ⟨List.range' 1 (Ns.notes lo hi).length, by rw [List.range'_succ]; rfl⟩, hJx3⟩⟩
end Go.Proofs.YtinopmdefndhoaaDoor
/- A region that draws its order and stores: its operations keep a relation between worlds; what has come up stays right along it. -/
namespace Go.Proofs.YtinopmdefndhoaaDoor
open Go Go.RowKit Go.Shelf

section
variable {P : Program} {ops : Array Oper} {Q : Exit → Act → World → Prop} {md : Region.Mode} {F : (Nat → Value) → Act}

theorem SlotStep.rel {n : Nat} {R : World → Prop} {Inv : Nat → Value → World → Prop} {i : Nat} {o : Oper} (St : World → World → Prop)
    (hR : ∀ A B : World, St A B → R A → R B) (hI : ∀ (j : Nat) (v : Value) (A B : World), R A → St A B → Inv j v A → Inv j v B)
    (h : ∀ (ys : Nat → Value) (w : World), R w → (∀ j, waitsB md o j = true → j < n → Inv j (ys j) w) →
      ∀ K : Act → World → Prop, (∀ v w', St w w' → Inv i v w' → K (F (upd ys i v)) w') →
        if Region.wanted o (yielded ops (F ys).tmps) = true then Oper.wp P o (F ys) w K Q else K ((F ys).put o.dst undef) w) :
    SlotStep P md ops Q F (BelowI n R Inv) i o := by
  intro L ys w _ ha ⟨hr, hi⟩ K hK
  refine h ys w hr (fun j hw hj => hi j hj (waits_at ha hw)) K (fun v w' hb hv => hK v w' ⟨hR _ _ hb hr, fun j hj hL => ?_⟩)
  by_cases hji : j = i
  · subst hji; rw [upd_same]; exact hv
  · rw [upd_ne _ _ hji]
    rw [upd_ne _ _ hji] at hL
    exact hI j _ _ _ hr hb (hi j hj hL)
theorem below_start {n : Nat} {R : World → Prop} {Inv : Nat → Value → World → Prop} {ys : Nat → Value} {w : World} (hr : R w) : BelowI n R Inv (fun i => decide (n ≤ i)) ys w :=
  ⟨hr, fun j hj hL => by have := of_decide_eq_true hL; omega⟩
end
end Go.Proofs.YtinopmdefndhoaaDoor
