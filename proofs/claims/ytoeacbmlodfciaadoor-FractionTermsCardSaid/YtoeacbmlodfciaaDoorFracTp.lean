/- The program's Terms: the iterator over the terms of a fraction, and the list that Collect makes of them. -/
import Derived.Test.YtoeacbmlodfciaaDoorFracTe
import Derived.Test.YtoeacbmlodfciaaDoorBk
import Derived.Maps.AppendAt
import Derived.Sort.QuietIn
namespace Go.Proofs.YtoeacbmlodfciaaDoor
open Go Go.RowKit Go.Shelf
attribute [local go_sem] Oper.semAt_some wide_fn wide_depth

/-- The first r terms. -/
def tl (a b : Int) (r : Nat) : List Int := (List.range r).map (FracMath.te a b)
theorem tl_succ (a b : Int) (r : Nat) : tl a b (r + 1) = tl a b r ++ [FracMath.te a b r] := by simp [tl, List.range_succ]
theorem tl_length (a b : Int) (r : Nat) : (tl a b r).length = r := by simp [tl]
theorem tl_split (a b : Int) (n r : Nat) (h : r < n) : ∃ post, tl a b n = tl a b r ++ FracMath.te a b r :: post := by
  obtain ⟨k, hk⟩ : ∃ k, n = r + 1 + k := ⟨n - r - 1, by omega⟩
  refine ⟨(List.range k).map fun j => FracMath.te a b (r + 1 + j), ?_⟩
  have : List.range n = List.range r ++ r :: (List.range k).map (fun j => r + 1 + j) := by
    rw [hk, List.range_add, List.range_succ, List.append_assoc, List.singleton_append]
  unfold tl
  rw [this]
  simp
theorem tl_pre (a b : Int) (n : Nat) {pre : List Int} {x : Int} (h : ∃ post, tl a b n = pre ++ x :: post) : pre.length < n := by
  obtain ⟨post, h⟩ := h
  have hl := congrArg List.length h
  rw [tl_length] at hl
  simp at hl
  omega
def intsI (l : List Int) : List Value := l.map fun n => .int .i64 n

/-- What the iterator reads. -/
def TmK (Bs : Nat) (a b : Int) (A : World) : Prop := A.cell? ⟨Bs, 0, none⟩ = some (.int .i64 a) ∧ A.cell? ⟨Bs, 1, none⟩ = some (.int .i64 b)

theorem terms_fn (a b : Int) (w : World) :
    Calls Tryd.prog 41 #[.agg #[.int .i64 a, .int .i64 b]] w fun e w' => e = .returned (.func (.func 57) #[] #[.pointer (some ⟨w.heap.size, 0, none⟩)]) ∧ w' = w.alloc (.cells #[.int .i64 a, .int .i64 b] 27) := by
  go_enter Tryd.func41, Tryd.ntmps41
  go_wp2
  go_ret
  exact ⟨rfl, rfl⟩

set_option maxRecDepth 100000 in
set_option maxHeartbeats 2000000 in
theorem terms_gives (Bs : Nat) (a b : Int) (n : Nat) (ha1 : -1000000 ≤ a) (ha2 : a ≤ 1000000) (hb : b ≤ 1000000) (he : FracMath.Ends a b n) (d : Nat) (w : World) :
    Rg.Gives Fence.wide d Tryd.prog 57 #[.pointer (some ⟨Bs, 0, none⟩)] (fun x : Int => #[.int .i64 x]) (tl a b n) w (TmK Bs a b) := by
  intro l J Jx W hbW hJ hJx hK hY h0
  show CallsIn Fence.wide d Tryd.prog 57 #[.func (.yield l) #[] #[], .pointer (some ⟨Bs, 0, none⟩)] W _
  obtain ⟨c0, c1⟩ := hK _ _ h0
  have F := Lib.hid (fun (p q : Int) W (h1 : -4000000 ≤ p) (h2 : p ≤ 4000000) (h3 : 1 ≤ q) (h4 : q ≤ 4000000) => floor_any p q W h1 h2 h3 h4)
  have HE := Lib.hid he
  clear he
  refine callsIn_of_wp Tryd.func57 rfl trivial ?_ rfl
  simp only [Tryd.ntmps57, List.size_toArray, List.length_cons, List.length_nil, Nat.reduceAdd, Nat.reduceSub, Array.replicate_succ, Array.replicate_zero, List.push_toArray, List.append_toArray, List.nil_append, List.cons_append]
  gi_wp2_with (gi_quiet (fail))
  gi_loopw [3, 4] (fun p q wr => ∃ r : Nat, r ≤ n ∧ p = .int .i64 (FracMath.eu a b r).1 ∧ q = .int .i64 (FracMath.eu a b r).2 ∧ J (tl a b r) wr) (fun _ q _ => (intOf q).toNat)
  case atStart => exact ⟨0, Nat.zero_le _, rfl, rfl, hJ _ _ _ h0 (Rg.Step.of_below (Nat.le_refl _) ⟨rfl, rfl, rfl, Nat.le_refl _, fun _ _ => rfl⟩)⟩
  case round =>
    obtain ⟨r, hr, rfl, rfl, hJs⟩ := hrel
    clear c0 c1
    by_cases h1 : r < n
    · obtain ⟨b1, b2⟩ := FracMath.eu_bound hb HE.out h1
      obtain ⟨b3, b4⟩ := FracMath.eu_num ha1 ha2 hb HE.out (show r ≤ n by omega)
      obtain ⟨b5, b6⟩ := FracMath.te_bound ha1 ha2 hb HE.out h1
      obtain ⟨p, hp⟩ : ∃ p, (FracMath.eu a b r).1 = p := ⟨_, rfl⟩
      obtain ⟨q, hq⟩ : ∃ q, (FracMath.eu a b r).2 = q := ⟨_, rfl⟩
      have hs1 : (FracMath.eu a b (r + 1)).1 = q := by rw [FracMath.eu_succ]; exact hq
      have hs2 : p - FracMath.te a b r * q = (FracMath.eu a b (r + 1)).2 := by rw [← hp, ← hq]; exact FracMath.eu_step a b r
      have hs3 : (FracMath.eu a b (r + 1)).2 < q := by rw [FracMath.eu_succ, ← hq]; exact Int.emod_lt_of_pos _ b1
      have hs4 : 0 ≤ (FracMath.eu a b (r + 1)).2 := by rw [FracMath.eu_succ]; exact Int.emod_nonneg _ (by omega)
      have ht : FracMath.te a b r = p / q := by unfold FracMath.te; rw [hp, hq]
      obtain ⟨t, htt⟩ : ∃ t, FracMath.te a b r = t := ⟨_, rfl⟩
      obtain ⟨fn, tmps, assign, body, hy, hR⟩ := hY (tl a b r) (FracMath.te a b r) wr hJs (tl_split a b n r h1)
      have hS := Lib.hid (tl_succ a b r)
      rw [hp] at b3 b4 ⊢
      rw [hq] at b1 b2 ⊢
      rw [htt] at hy hR hS hs2 ht b5 b6
      obtain ⟨q', hq'⟩ : ∃ q', (FracMath.eu a b (r + 1)).2 = q' := ⟨_, rfl⟩
      rw [hq'] at hs2 hs3 hs4
      have f := fun W => F.out p q W (by omega) (by omega) (by omega) (by omega)
      rw [← ht] at f
      have FF := Lib.hid f
      have m1 : -(1000000 * 1000000) ≤ t * q ∧ t * q ≤ 1000000 * 1000000 := FracMath.mul_bound b5 b6 (by omega) b2 (by omega)
      have HS1 := Lib.hid hs1
      have HQ := Lib.hid hq'
      clear f ht hs1 hq' htt hp hq
      gi_wp2_with fail
      refine (callsIn_wide.2 (FF.out _)).mono ?_
      rintro e w2 ⟨rfl, rfl⟩
      gi_wp2_with fail
      refine hR.mono ?_
      rintro e W3 (⟨rfl, hJ3⟩ | ⟨rfl, hJx3⟩)
      · gi_wp2
        go_roundw
        case rel => exact ⟨r + 1, by omega, by rw [HS1.out], by rw [HQ.out], by rw [hS.out]; exact hJ3⟩
        case measure => simp [intOf]; omega
      · gi_wp2
        refine bodyPost_ret (results_none rfl _ _ _) rfl ?_
        obtain ⟨post, hpp⟩ := tl_split a b n r h1
        exact ⟨⟨_, rfl⟩, .inr ⟨_, ⟨post, by rw [hpp, ← hS.out, tl_succ]; simp⟩, hJx3⟩⟩
    · obtain rfl : r = n := by omega
      have hz := HE.out.1
      rw [hz]
      gi_wp2
      go_end0
      exact ⟨⟨_, rfl⟩, .inl hJs⟩

theorem info_int : (Tryd.prog.info? 3).map (fun i => (i.zero, i.size, i.bytes)) = some (some (.int .i64 0), 1, 8) := by kernel_rfl
theorem ownsRow_mono {w : World} {base base' : Nat} {e : TypeId} {size : Nat} {v : Value} {n : Nat} {xs : List Value} (h : w.ownsRow base e size v n xs) (hb : base' ≤ base) : w.ownsRow base' e size v n xs :=
  ⟨h.1, h.2.imp id fun ⟨g, cap, cur, h1, h2, r⟩ => ⟨g, cap, cur, h1, Nat.le_trans hb h2, r⟩⟩

theorem ownsRow_up {W W' : World} {b b' : Nat} {e : TypeId} {size : Nat} {v : Value} {n n' : Nat} {xs xs' : List Value} (h : W.ownsRow b e size v n xs) (k : W'.ownsRow b' e size v n' xs') : W.ownsRow b' e size v n xs := by
  refine ⟨h.1, ?_⟩
  rcases h.2 with h2 | ⟨g, cap, cur, h1, h2, r⟩
  · exact .inl h2
  · rcases k.2 with ⟨k1, _⟩ | ⟨g', cap', cur', k1, k2, _⟩
    · rw [h1] at k1; cases k1
    · rw [h1] at k1; cases k1; exact .inr ⟨g, cap, cur, h1, k2, r⟩

set_option maxRecDepth 100000 in
set_option maxHeartbeats 2000000 in
theorem appendSeq_any (Bs : Nat) (a b : Int) (n : Nat) (hn : n ≤ 40) (ha1 : -1000000 ≤ a) (ha2 : a ≤ 1000000) (hb : b ≤ 1000000) (he : FracMath.Ends a b n) (w : World) (hB : Bs < w.heap.size) (hT : TmK Bs a b w) :
    Calls Tryd.prog 56 #[.slice none 0 0, .func (.func 57) #[] #[.pointer (some ⟨Bs, 0, none⟩)]] w fun e w' => (∃ v, e = .returned v ∧ w'.ownsRow w.heap.size 3 1 v n (intsI (tl a b n))) ∧ Below w.heap.size w w' := by
  obtain ⟨i0, hi0, hz0, hz1, hz2⟩ := info_parts info_int
  refine (callsIn_wide (n := 5)).1 ?_
  refine callsIn_of_wp_marks Tryd.func56 rfl trivial ?_ rfl
  simp only [Tryd.ntmps56, List.size_toArray, List.length_cons, List.length_nil, Nat.reduceAdd, Nat.reduceSub, Array.replicate_succ, Array.replicate_zero, List.push_toArray, List.append_toArray, List.nil_append, List.cons_append]
  gi_wp2_with fail
  obtain ⟨V, hV⟩ : ∃ V, (w.alloc (.cells #[.slice none 0 0] 42)) = V := ⟨_, rfl⟩
  have hwV : Below w.heap.size w V := by
    rw [← hV]
    exact (Below.refl _ _).alloc (Nat.le_refl _) _
  have hNV : Boxed V w.heap.size 42 (.slice none 0 0) := by rw [← hV]; exact Boxed.new w _ _
  have hzV : V.heap.size = w.heap.size + 1 := by rw [← hV]; simp
  have hrV : V.ownsRow (V.heap.size + 2) 3 1 (.slice none 0 0) 0 [] := World.ownsRow_nil _ _ _ _
  rw [hV]
  clear hV
  have hTb : ∀ A, Below w.heap.size w A → TmK Bs a b A := fun A h => ⟨(h.cell (p := ⟨Bs, 0, none⟩) hB).trans hT.1, (h.cell (p := ⟨Bs, 1, none⟩) hB).trans hT.2⟩
  refine Rg.range_all rfl (by omega) (gf := 57) (lb := #[.pointer (some ⟨Bs, 0, none⟩)]) rfl trivial (enters_of Tryd.func57 (by kernel_rfl) rfl)
    (terms_gives Bs a b n ha1 ha2 hb he 4 V) (fun _ => rfl)
    (fun k => k = w.heap.size ∨ V.heap.size + 2 ≤ k) (by omega) (by omega)
    (fun pre W => (∃ v, Boxed W w.heap.size 42 v ∧ W.ownsRow (V.heap.size + 2) 3 1 v pre.length (intsI pre)) ∧ Below w.heap.size w W)
    (fun _ _ _ => False)
    (fun s A B ⟨⟨v, hv, hr⟩, hb⟩ st => ⟨⟨v, st.boxed hv, st.owns hr⟩, hb.trans (st.below.mono (by omega))⟩)
    (fun _ _ _ _ h _ => h)
    (fun s A ⟨_, hb⟩ => hTb A hb)
    ⟨⟨_, hNV, hrV⟩, hwV⟩
    (fun x => { tmps := #[.slice none 0 0, .func (.func 57) #[] #[.pointer (some ⟨Bs, 0, none⟩)], .pointer (some ⟨w.heap.size, 0, none⟩), undef, .slice none 0 0, .int .i64 x, .func (.func 57) #[] #[.pointer (some ⟨Bs, 0, none⟩)], .int .i64 x, undef, undef, undef, undef, undef], defers := [] }) ?assign ?body ?done ?stop
  case assign =>
    intro l x W K hK
    gi_wp2
    exact hK
  case body =>
    rintro l pre x W ⟨⟨v, hv, hrow⟩, hB⟩ hpost hsz
    have hlen := tl_pre a b n hpost
    have hc := hv.cell
    clear hpost
    gi_wp2_with (gi_at_builtin; refine wpListIn_append_own _ rfl _ _ 42 rfl (V.heap.size + 2) 3 i0 (.int .i64 0) 1 8 Tryd.underlying42 hi0 hz0 hz1 hz2 rfl (by decide) _ _ _ rfl (hrow.alloc _) ⟨W.heap.size, 0, none⟩ 1 1 [.int .i64 x] rfl rfl (cell_one_new _ _ _) (by simp [Value.oneCell']) (by unfold maxLen; omega) (by omega) (by simp; omega) ?_; intro v' w6 hown' hgrow _; have hrd := Rg.Round.appended (S := fun k => k = w.heap.size ∨ V.heap.size + 2 ≤ k) (v' := v') (.inl rfl) (fun _ h => .inr h) hrow hgrow; obtain ⟨g', cap', rfl⟩ := ownsRow_succ hown'; obtain ⟨hv6, hv7, hr7, hk7, hb7⟩ := hv.appended (by decide) (ownsRow_mono hrow (base' := w.heap.size) (by omega)) (by omega) (Nat.le_refl _) (ownsRow_mono hown' (by omega)) hgrow; have hr8 := ownsRow_up hr7 hown'; have hc6 := hv6.cell; have hf6 := hv6.frozen)
    exact ⟨hrd, ⟨_, hv7, by simpa [intsI] using hr8⟩, hB.trans (hb7.mono (by omega))⟩
  case done =>
    rintro D W hD ⟨⟨v, hv, hrow⟩, hB⟩ hK
    have hc := hv.cell
    gi_wp2
    refine ⟨by simp, .inl ⟨_, _, rfl, run_takeDeferred hK, ?_⟩⟩
    have hst : Rg.Step w.heap.size W (W.putObj D (.deferred none)) := Rg.Step.putObj W _ _ (by omega) hK rfl
    rw [tl_length] at hrow
    exact ⟨_, results_tmp rfl _ _ _, ⟨v, rfl, ownsRow_mono (hst.owns hrow) (by omega)⟩, hB.trans (hst.below)⟩
  case stop => rintro D c pre W _ _ h; exact h.elim

theorem collect_any (Bs : Nat) (a b : Int) (n : Nat) (hn : n ≤ 40) (ha1 : -1000000 ≤ a) (ha2 : a ≤ 1000000) (hb : b ≤ 1000000) (he : FracMath.Ends a b n) (w : World) (hB : Bs < w.heap.size) (hT : TmK Bs a b w) :
    Calls Tryd.prog 40 #[.func (.func 57) #[] #[.pointer (some ⟨Bs, 0, none⟩)]] w fun e w' => (∃ v, e = .returned v ∧ w'.ownsRow w.heap.size 3 1 v n (intsI (tl a b n))) ∧ Below w.heap.size w w' := by
  have A := Lib.hid (appendSeq_any Bs a b n hn ha1 ha2 hb he w hB hT)
  go_enter Tryd.func40, Tryd.ntmps40
  go_wp2_with fail
  refine A.out.mono ?_
  rintro e w' ⟨⟨v, rfl, hr⟩, hb⟩
  go_wp2
  go_ret
  exact ⟨⟨_, rfl, hr⟩, hb⟩

/-- Terms of a right fraction. -/
theorem terms_any (a b : Int) (n : Nat) (hn : n ≤ 40) (hr : FracMath.rightB a b = true) (he : FracMath.Ends a b n) (w : World) :
    Calls Tryd.prog 22 #[.agg #[.int .i64 a, .int .i64 b]] w fun e w' => (∃ v, e = .returned (.tuple #[v, .int .i64 0]) ∧ w'.ownsRow w.heap.size 3 1 v n (intsI (tl a b n))) ∧ Below w.heap.size w w' := by
  obtain ⟨h1, h2, h3, h4, h5⟩ := FracMath.right_of hr
  have C := Lib.hid (fun W => by have := check_any a b W; rw [chk_yes hr] at this; exact this)
  have T := Lib.hid (fun W => terms_fn a b W)
  have L := Lib.hid (fun Bs W (h : Bs < W.heap.size) (t : TmK Bs a b W) => collect_any Bs a b n hn h1 h2 h4 he W h t)
  clear hr he h5
  go_enter Tryd.func22, Tryd.ntmps22
  go_wp2_with fail
  refine (C.out _).mono ?_
  rintro e w1 ⟨rfl, hb1⟩
  have hz1 := hb1.size
  simp at hz1
  have x1 := (FAt.new w a b).call hb1
  have c0 := x1.fst
  have c1 := x1.snd
  go_wp2_with fail
  refine (T.out _).mono ?_
  rintro e w2 ⟨rfl, rfl⟩
  have x2 := FAt.new w1 a b
  go_wp2_with fail
  refine (L.out _ _ (by simp) ⟨x2.fst, x2.snd⟩).mono ?_
  rintro e w3 ⟨⟨v, rfl, hr3⟩, hb3⟩
  go_wp2
  refine bodyPost_ret (v := .tuple #[v, .int .i64 0]) (by simp [results, Tryd.results22, go_sem]) rfl ?_
  exact ⟨⟨v, rfl, ownsRow_mono hr3 (by simp; omega)⟩, (((Below.refl _ w).alloc (Nat.le_refl _) _).trans (hb1.mono (by simp))).trans ((((Below.refl _ w1).alloc (Nat.le_refl _) _).trans (hb3.mono (by simp))).mono (by omega))⟩
end Go.Proofs.YtoeacbmlodfciaaDoor
