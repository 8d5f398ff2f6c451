/- Contracts of slices.AppendSeq, Collect, pitch's Usual, and the law's usual. -/
import Derived.Test.YtkoljddejjfbiaaGreatDoorPtP
import Derived.Maps.AppendAt
import Derived.Maps.OwnIn
namespace Go.Proofs.YtkoljddejjfbiaaGreatDoor
open Go Go.RowKit Go.Shelf
attribute [local go_sem] Oper.semAt_some
attribute [local go_sem] wide_fn wide_depth

theorem notN_any {o : Obj} : ¬ Rn.isN o := fun ⟨_, _, _, _, h⟩ => h
theorem heap_set {W : World} {b k o : Nat} {x : Value} (h : k ≠ b) : (W.setCell ⟨b, o, none⟩ x).heap[k]? = W.heap[k]? := set_other h
theorem kr_appended {n₁ b : Nat} {W w1 : World} {n₀ B : Nat} {t e : TypeId} {size : Nat} {v v' : Value} {k : Nat} {xs : List Value} {tmp : Obj}
    (hv : Boxed W B t v) (ht : ∀ c f, ¬ Rn.isN (.cells c t f)) (he : ∀ c f, ¬ Rn.isN (.cells c e f)) (hrow : W.ownsRow n₀ e size v k xs) (hgrow : (W.alloc tmp).grownBy w1 v.ownBlock) : Rn.Kr n₁ b W (w1.setCell ⟨B, 0, none⟩ v') where
  size := by
    have := hgrow.size
    simp [World.setCell] at this ⊢
    omega
  same := fun i o hi hc => by
    have hil := (Array.getElem?_eq_some_iff.1 hi).1
    have h1 : (W.alloc tmp).heap[i]? = some o := (Below.heap_alloc _ _ _ hil).trans hi
    have nB : i ≠ B := fun e' => by
      subst e'
      rw [show W.heap[i]? = _ from hv] at hi
      cases hi
      rcases hc with ⟨_, hc⟩ | ⟨_, hc⟩
      · cases hc
      · exact ht _ _ hc
    have hr : some i ≠ v.ownBlock := fun ei => by
      rcases hrow.2 with ⟨rfl, _⟩ | ⟨g, cap, cur, rfl, _, hg, _⟩
      · cases ei
      · simp [Value.ownBlock] at ei
        subst ei
        rw [hg] at hi
        cases hi
        rcases hc with ⟨_, hc⟩ | ⟨_, hc⟩
        · cases hc
        · exact he _ _ hc
    exact (heap_set nB).trans ((hgrow.block i (by simp; omega) hr).trans h1)
theorem step_owns {n₁ b : Nat} {A B : World} {base k size : Nat} {e : TypeId} {v : Value} {xs : List Value} (he : ∀ c f, ¬ Rn.isN (.cells c e f)) (h : A.ownsRow base e size v k xs) (st : Rn.Step n₁ b A B) : B.ownsRow base e size v k xs :=
  ⟨h.1, h.2.imp id fun ⟨g, cap, cur, h1, h2, h3, h4⟩ => ⟨g, cap, cur, h1, h2, st.same g _ h3 (he _ _) (.inr rfl), h4⟩⟩

theorem owns_cell {W : World} {base k size g cap : Nat} {e : TypeId} {xs : List Value} (h : W.ownsRow base e size (.slice (some ⟨g, 0, none⟩) k cap) k xs) {j : Nat} {u : Value} (hj : xs[j]? = some u) : W.cell? ⟨g, j, none⟩ = some u := by
  rcases h.2 with ⟨h0, _⟩ | ⟨g', cap', cur, h1, _, h3, _, _, _, h7⟩
  · cases h0
  · cases h1
    rw [← h7] at hj
    have hlt : j < k * size := by
      rcases Nat.lt_or_ge j (k * size) with h | h
      · exact h
      · rw [List.getElem?_take_eq_none h] at hj; cases hj
    rw [List.getElem?_take_of_lt hlt] at hj
    simp only [World.cell?, h3]
    simpa using hj

/-- A row of the usual feet's cells. -/
def UsAt (W : World) (g : Nat) : Prop := g < W.heap.size ∧ ∀ j, j < 44 → W.cell? ⟨g, j, none⟩ = usC[j]?
theorem UsAt.below {A B : World} {g C : Nat} (h : UsAt A g) (hg : g < C) (hb : Below C A B) : UsAt B g := ⟨Nat.lt_of_lt_of_le h.1 hb.size, fun j hj => (hb.cell (p := ⟨g, j, none⟩) hg).trans (h.2 j hj)⟩
def usF (t : Int × Int × Int) : List Value := [.int .i64 t.1, .int .i64 t.2.1]
theorem us_flat : us.flatMap usF = usC.toList := rfl
theorem ucel : ∀ (k : Nat) (x y s : Int), k < 22 → us.drop k = (x, y, s) :: us.drop (k + 1) → usC[k * 2]? = some (.int .i64 x) ∧ usC[k * 2 + 1]? = some (.int .i64 y)
  | 0, _, _, _, _, hd => by have h : us.drop 0 = (64, 1, -36) :: us.drop 1 := rfl; rw [h] at hd; cases hd; exact ⟨rfl, rfl⟩
  | 1, _, _, _, _, hd => by have h : us.drop 1 = (32, 1, -24) :: us.drop 2 := rfl; rw [h] at hd; cases hd; exact ⟨rfl, rfl⟩
  | 2, _, _, _, _, hd => by have h : us.drop 2 = (64, 3, -17) :: us.drop 3 := rfl; rw [h] at hd; cases hd; exact ⟨rfl, rfl⟩
  | 3, _, _, _, _, hd => by have h : us.drop 3 = (16, 1, -12) :: us.drop 4 := rfl; rw [h] at hd; cases hd; exact ⟨rfl, rfl⟩
  | 4, _, _, _, _, hd => by have h : us.drop 4 = (64, 5, -8) :: us.drop 5 := rfl; rw [h] at hd; cases hd; exact ⟨rfl, rfl⟩
  | 5, _, _, _, _, hd => by have h : us.drop 5 = (32, 3, -5) :: us.drop 6 := rfl; rw [h] at hd; cases hd; exact ⟨rfl, rfl⟩
  | 6, _, _, _, _, hd => by have h : us.drop 6 = (8, 1, 0) :: us.drop 7 := rfl; rw [h] at hd; cases hd; exact ⟨rfl, rfl⟩
  | 7, _, _, _, _, hd => by have h : us.drop 7 = (32, 5, 4) :: us.drop 8 := rfl; rw [h] at hd; cases hd; exact ⟨rfl, rfl⟩
  | 8, _, _, _, _, hd => by have h : us.drop 8 = (16, 3, 7) :: us.drop 9 := rfl; rw [h] at hd; cases hd; exact ⟨rfl, rfl⟩
  | 9, _, _, _, _, hd => by have h : us.drop 9 = (4, 1, 12) :: us.drop 10 := rfl; rw [h] at hd; cases hd; exact ⟨rfl, rfl⟩
  | 10, _, _, _, _, hd => by have h : us.drop 10 = (16, 5, 16) :: us.drop 11 := rfl; rw [h] at hd; cases hd; exact ⟨rfl, rfl⟩
  | 11, _, _, _, _, hd => by have h : us.drop 11 = (8, 3, 19) :: us.drop 12 := rfl; rw [h] at hd; cases hd; exact ⟨rfl, rfl⟩
  | 12, _, _, _, _, hd => by have h : us.drop 12 = (16, 7, 22) :: us.drop 13 := rfl; rw [h] at hd; cases hd; exact ⟨rfl, rfl⟩
  | 13, _, _, _, _, hd => by have h : us.drop 13 = (2, 1, 24) :: us.drop 14 := rfl; rw [h] at hd; cases hd; exact ⟨rfl, rfl⟩
  | 14, _, _, _, _, hd => by have h : us.drop 14 = (8, 5, 28) :: us.drop 15 := rfl; rw [h] at hd; cases hd; exact ⟨rfl, rfl⟩
  | 15, _, _, _, _, hd => by have h : us.drop 15 = (4, 3, 31) :: us.drop 16 := rfl; rw [h] at hd; cases hd; exact ⟨rfl, rfl⟩
  | 16, _, _, _, _, hd => by have h : us.drop 16 = (8, 7, 34) :: us.drop 17 := rfl; rw [h] at hd; cases hd; exact ⟨rfl, rfl⟩
  | 17, _, _, _, _, hd => by have h : us.drop 17 = (1, 1, 36) :: us.drop 18 := rfl; rw [h] at hd; cases hd; exact ⟨rfl, rfl⟩
  | 18, _, _, _, _, hd => by have h : us.drop 18 = (4, 5, 40) :: us.drop 19 := rfl; rw [h] at hd; cases hd; exact ⟨rfl, rfl⟩
  | 19, _, _, _, _, hd => by have h : us.drop 19 = (2, 3, 43) :: us.drop 20 := rfl; rw [h] at hd; cases hd; exact ⟨rfl, rfl⟩
  | 20, _, _, _, _, hd => by have h : us.drop 20 = (1, 2, 48) :: us.drop 21 := rfl; rw [h] at hd; cases hd; exact ⟨rfl, rfl⟩
  | 21, _, _, _, _, hd => by have h : us.drop 21 = (1, 4, 60) :: us.drop 22 := rfl; rw [h] at hd; cases hd; exact ⟨rfl, rfl⟩
  | k + 22, _, _, _, h, _ => by omega
theorem UsAt.at {W : World} {g k : Nat} {x y s : Int} (h : UsAt W g) (hk : k < 22) (hd : us.drop k = (x, y, s) :: us.drop (k + 1)) : W.cell? ⟨g, k * 2, none⟩ = some (.int .i64 x) ∧ W.cell? ⟨g, k * 2 + 1, none⟩ = some (.int .i64 y) :=
  ⟨(h.2 (k * 2) (by omega)).trans (ucel k x y s hk hd).1, (h.2 (k * 2 + 1) (by omega)).trans (ucel k x y s hk hd).2⟩
theorem Tryz.info23 : (Tryz.prog.info? 23).map (fun i => (i.zero, i.size, i.bytes)) = some (some (.agg #[.int .i64 0, .int .i64 0]), 2, 16) := by kernel_rfl
theorem cell_two_new (w : World) (x0 x1 : Value) (t : TypeId) : ∀ j u, [x0, x1][j]? = some u → (w.alloc (.cells #[x0, x1] t)).cell? ((⟨w.heap.size, 0, none⟩ : Addr).add j) = some u := by
  intro j u hj
  match j, hj with
  | 0, hj => simp at hj; subst hj; simp [Addr.add]
  | 1, hj => simp at hj; subst hj; simp [Addr.add]
  | _ + 2, hj => simp at hj
theorem flat_len : ∀ l : List (Int × Int × Int), (l.flatMap usF).length = l.length * 2
  | [] => rfl
  | t :: l => by rw [List.flatMap_cons, List.length_append, flat_len l, List.length_cons]; simp [usF]; omega

set_option maxRecDepth 100000 in
set_option maxHeartbeats 4000000 in
theorem appendSeq_c (w : World) (U : Us w) :
    Calls Tryz.prog 66 #[.slice none 0 0, .func (.func 65) #[] #[]] w fun e w' => (∃ v, e = .returned v ∧ w'.ownsRow w.heap.size 23 2 v 22 usC.toList) ∧ Below w.heap.size w w' := by
  obtain ⟨D, hD⟩ : ∃ D, w.heap.size = D := ⟨_, rfl⟩
  refine (callsIn_wide (n := 9)).1 ?_
  refine callsIn_of_wp_marks Tryz.func66 rfl trivial ?_ rfl
  simp only [Tryz.ntmps66, List.size_toArray, List.length_cons, List.length_nil, Nat.reduceAdd, Nat.reduceSub, Array.replicate_succ, Array.replicate_zero, List.push_toArray, List.append_toArray, List.nil_append, List.cons_append]
  rw [hD]
  gi_wp2_with fail
  obtain ⟨V, hV⟩ : ∃ V, w.alloc (.cells #[.slice none 0 0] 45) = V := ⟨_, rfl⟩
  have hzV : V.heap.size = D + 1 := by rw [← hV]; simp [hD]
  have hBV : Boxed V D 45 (.slice none 0 0) := by rw [← hV, ← hD]; exact Boxed.new w _ _
  have hwV : Below D w V := by rw [← hV]; exact (Below.refl _ w).alloc (by omega) _
  try rw [hV]
  clear hV
  obtain ⟨i0, hi0, hz0, hzs1, hzs2⟩ := info_parts Tryz.info23
  refine Rn.range_all rfl (by omega) (gf := 65) (lb := #[]) rfl trivial (enters_of Tryz.func65 (by kernel_rfl) rfl) (n₁ := D + 1) (by omega)
    (low_gives (D + 1) 8 V (by omega)) (fun _ => rfl)
    (fun (pre : List (Int × Int × Int)) A => ∃ v, Boxed A D 45 v ∧ A.ownsRow D 23 2 v pre.length (pre.flatMap usF) ∧ Below D w A)
    (fun _ _ _ => False)
    (fun s A B ⟨v, h1, h2, h4⟩ st => ⟨v, (st.below.block D (by omega)).trans h1, step_owns (fun _ _ => notN_any) h2 st, h4.trans (st.below.mono (by omega))⟩)
    (fun _ _ _ _ h _ => h)
    (fun s A ⟨v, h1, h2, h4⟩ => U.below (by rw [hD]; exact h4))
    ⟨_, hBV, World.ownsRow_nil _ _ _ _, hwV⟩
    (fun t a' A => ∃ b4, D + 1 ≤ b4 ∧ A.heap[b4]? = some (.cells #[.int .i64 t.1, .int .i64 t.2.1] 23) ∧ a' = { tmps := #[.slice none 0 0, .func (.func 65) #[] #[], .pointer (some ⟨D, 0, none⟩), undef, .slice none 0 0, .pointer (some ⟨b4, 0, none⟩), .func (.func 65) #[] #[], .agg #[.int .i64 t.1, .int .i64 t.2.1], undef, undef, undef, undef, undef], defers := [] })
    (fun t a' A k o o' hk ho ⟨b4, h1, h4, e⟩ => ⟨b4, h1, (World.putObj_heap_other (fun e2 => by subst e2; rw [hk] at h4; cases h4; cases ho)).trans h4, e⟩) ?assign ?body ?done ?stop
  case assign =>
    rintro l' pre ⟨x, y, s⟩ A K _ hszA hK
    gi_wp2
    exact hK _ _ ((Below.refl _ A).alloc (Nat.le_refl _) _) ⟨_, by omega, heap_new rfl, by simp⟩
  case body =>
    rintro l' pre ⟨x, y, s⟩ a' A ⟨v, hbx, hrow, hwA⟩ ⟨post, hpost⟩ hszA ⟨b4, hb4, h4, rfl⟩
    have hlen : pre.length + 1 ≤ 22 := by have := congrArg List.length hpost; rw [us_len] at this; simp at this; omega
    have HFL := Lib.hid (show (pre ++ [(x, y, s)]).flatMap usF = pre.flatMap usF ++ [.int .i64 x, .int .i64 y] by rw [List.flatMap_append]; simp [usF])
    clear hpost
    have e0 := cell2_0 h4
    have e1 := cell2_1 h4
    have g0 := hbx.cell
    have g1 := hbx.frozen
    have hle := hwA.size
    dsimp only
    gi_wp2_with (gi_at_builtin; refine wpListIn_append_own _ rfl _ _ 45 rfl D 23 i0 (.agg #[.int .i64 0, .int .i64 0]) 2 16 Tryz.underlying45 hi0 hz0 hzs1 hzs2 rfl (by decide) _ _ _ rfl (hrow.alloc _) ⟨A.heap.size, 0, none⟩ 1 1 [.int .i64 x, .int .i64 y] rfl rfl (cell_two_new _ _ _ _) (by simp [Value.oneCell']) (by unfold maxLen; omega) (by omega) (by simp; omega) ?_; intro v' w1 hown' hgrow _; obtain ⟨g', cap', rfl⟩ := ownsRow_succ hown'; obtain ⟨hv1, hv2, hr2, hk2, hb2⟩ := hbx.appended (by decide) hrow (by omega) (by omega) hown' hgrow; have hc1 := hv1.cell; have hf1 := hv1.frozen)
    refine ⟨kr_appended hbx (fun _ _ => notN_any) (fun _ _ => notN_any) hrow hgrow, _, hv2, ?_, hwA.trans hb2⟩
    rw [HFL.out, List.length_append, List.length_singleton]
    exact hr2
  case done =>
    rintro D2 A hD2 ⟨v, hbx, hrow, hwA⟩ hK
    have g0 := hbx.cell
    gi_wp2_with fail
    refine ⟨by simp, .inl ⟨_, _, rfl, run_takeDeferred hK, ?_⟩⟩
    have hst := Rn.Step.putObj (n₁ := D + 1) (b := D + 1) A _ (.deferred none) (by omega) (by omega) hK rfl
    exact ⟨_, results_tmp rfl _ _ _, ⟨v, rfl, ownsRow_putObj hrow _ hK rfl⟩, hwA.trans (hst.below.mono (by omega))⟩
  case stop => rintro D2 k pre A _ _ h; exact h.elim
end Go.Proofs.YtkoljddejjfbiaaGreatDoor
