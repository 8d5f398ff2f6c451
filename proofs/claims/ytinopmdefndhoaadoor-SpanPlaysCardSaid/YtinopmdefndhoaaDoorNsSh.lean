/- The first division; Two. -/
import Derived.Test.YtinopmdefndhoaaDoorSpO
import Derived.Maps.AppendAt
import Derived.Maps.OwnIn
import Derived.Test.YtinopmdefndhoaaDoorSlT
import Derived.RangeFuncRecord
import Derived.Test.YtinopmdefndhoaaDoorNsE
namespace Go.Proofs.YtinopmdefndhoaaDoor
open Go Go.RowKit Go.Shelf
attribute [local go_sem] Oper.semAt_some
attribute [local go_sem] wide_fn wide_depth

def BoolAt (w : World) (k : Nat) (b : Bool) : Prop := w.heap[k]? = some (.cells #[.bool b] 4)
theorem BoolAt.below {w w' : World} {k B : Nat} {b : Bool} (h : BoolAt w k b) (hB : k < B) (hb : Below B w w') : BoolAt w' k b := (hb.block k hB).trans h
theorem BoolAt.cell {w : World} {k : Nat} {b : Bool} (h : BoolAt w k b) : w.cell? ⟨k, 0, none⟩ = some (.bool b) := by simp [World.cell?, show w.heap[k]? = _ from h]
theorem BoolAt.free {w : World} {k : Nat} {b : Bool} (h : BoolAt w k b) : w.frozen? ⟨k, 0, none⟩ = false := by simp [World.frozen?, show w.heap[k]? = _ from h]
theorem BoolAt.lt {w : World} {k : Nat} {b : Bool} (h : BoolAt w k b) : k < w.heap.size := (Array.getElem?_eq_some_iff.1 h).1
theorem BoolAt.set {w : World} {k : Nat} {b : Bool} (h : BoolAt w k b) (b' : Bool) : BoolAt (w.setCell ⟨k, 0, none⟩ (.bool b')) k b' := by
  show (w.setCell ⟨k, 0, none⟩ (.bool b')).heap[k]? = _
  simp only [World.setCell, Array.getElem?_modify, if_true, show w.heap[k]? = _ from h, Option.map_some]
  rfl
theorem heap_set {w : World} {k b o : Nat} {v : Value} (h : k ≠ b) : (w.setCell ⟨b, o, none⟩ v).heap[k]? = w.heap[k]? := Below.heap_setCell _ _ _ _ (by simpa using h)
theorem SetAt.set' {w : World} {b x y k o : Nat} {v : Value} (h : SetAt w b x y) (hk : b ≠ k) : SetAt (w.setCell ⟨k, o, none⟩ v) b x y := (heap_set hk).trans h
theorem BoolAt.set' {w : World} {b k o : Nat} {x : Bool} {v : Value} (h : BoolAt w b x) (hk : b ≠ k) : BoolAt (w.setCell ⟨k, o, none⟩ v) b x := (heap_set hk).trans h

/-- Three results in three boxes. -/
structure Res3 (w : World) (k : Nat) (x1 x2 y1 y2 : Nat) (b : Bool) : Prop where
  one : SetAt w k x1 x2
  two : SetAt w (k + 1) y1 y2
  thr : BoolAt w (k + 1 + 1) b
theorem Res3.below {w w' : World} {k x1 x2 y1 y2 B : Nat} {b : Bool} (h : Res3 w k x1 x2 y1 y2 b) (hB : k + 1 + 1 < B) (hb : Below B w w') : Res3 w' k x1 x2 y1 y2 b := ⟨h.one.below (by omega) hb, h.two.below (by omega) hb, h.thr.below (by omega) hb⟩
theorem Res3.set {w : World} {k x1 x2 y1 y2 : Nat} {b : Bool} (h : Res3 w k x1 x2 y1 y2 b) (u1 u2 v1 v2 : Nat) (c : Bool) :
    Res3 (((((w.setCell ⟨k, 0, none⟩ (.int .u64 u1)).setCell ⟨k, 1, none⟩ (.int .u64 u2)).setCell ⟨k + 1, 0, none⟩ (.int .u64 v1)).setCell ⟨k + 1, 1, none⟩ (.int .u64 v2)).setCell ⟨k + 1 + 1, 0, none⟩ (.bool c)) k u1 u2 v1 v2 c where
  one := (((h.one.set u1 u2).set' (by omega)).set' (by omega)).set' (by omega)
  two := (((h.two.set' (by omega)).set' (by omega)).set v1 v2).set' (by omega)
  thr := ((((h.thr.set' (by omega)).set' (by omega)).set' (by omega)).set' (by omega)).set c

/-- Five stores, into three boxes. -/
def set5 (w : World) (k : Nat) (u1 u2 v1 v2 : Nat) (c : Bool) : World := (((((w.setCell ⟨k, 0, none⟩ (.int .u64 u1)).setCell ⟨k, 1, none⟩ (.int .u64 u2)).setCell ⟨k + 1, 0, none⟩ (.int .u64 v1)).setCell ⟨k + 1, 1, none⟩ (.int .u64 v2)).setCell ⟨k + 1 + 1, 0, none⟩ (.bool c))
theorem set5_heap (w : World) (k u1 u2 v1 v2 : Nat) (c : Bool) {j : Nat} (h : j < k ∨ k + 1 + 1 < j) : (set5 w k u1 u2 v1 v2 c).heap[j]? = w.heap[j]? := by
  unfold set5
  rw [heap_set (by omega), heap_set (by omega), heap_set (by omega), heap_set (by omega), heap_set (by omega)]
theorem set5_size (w : World) (k u1 u2 v1 v2 : Nat) (c : Bool) : (set5 w k u1 u2 v1 v2 c).heap.size = w.heap.size := by simp [set5, World.setCell]
theorem set5_below (w : World) (k u1 u2 v1 v2 : Nat) (c : Bool) {D : Nat} (h : D ≤ k) : Below D w (set5 w k u1 u2 v1 v2 c) :=
  (((((Below.refl D w).setCell (p := ⟨k, 0, none⟩) h _).setCell (p := ⟨k, 1, none⟩) h _).setCell (p := ⟨k + 1, 0, none⟩) (by show D ≤ k + 1; omega) _).setCell (p := ⟨k + 1, 1, none⟩) (by show D ≤ k + 1; omega) _).setCell (p := ⟨k + 1 + 1, 0, none⟩) (by show D ≤ k + 1 + 1; omega) _
theorem set5_kr (w : World) (k u1 u2 v1 v2 : Nat) (c : Bool) {n₁ b : Nat} (h : k + 1 + 1 < n₁) (hb : n₁ ≤ b) : Rn.Kr n₁ b w (set5 w k u1 u2 v1 v2 c) :=
  ⟨by rw [set5_size]; exact Nat.le_refl _, fun j o hj hc => (set5_heap w k u1 u2 v1 v2 c (by rcases hc with ⟨hc, _⟩ | ⟨hc, _⟩ <;> omega)).trans hj⟩
theorem Res3.set5 {w : World} {k x1 x2 y1 y2 : Nat} {b : Bool} (h : Res3 w k x1 x2 y1 y2 b) (u1 u2 v1 v2 : Nat) (c : Bool) : Res3 (set5 w k u1 u2 v1 v2 c) k u1 u2 v1 v2 c := h.set u1 u2 v1 v2 c

theorem Res3.drew {w : World} {k x1 x2 y1 y2 : Nat} {b : Bool} (h : Res3 w k x1 x2 y1 y2 b) : Res3 w.drew k x1 x2 y1 y2 b := ⟨h.one, h.two, h.thr⟩
theorem drew_kr {n₁ b : Nat} {A w : World} (h : Rn.Kr n₁ b A w) : Rn.Kr n₁ b A w.drew := ⟨h.size, h.same⟩

/-- What a search for the first division answers. -/
def fstV (L : List Nat) (a b : Int) : Value := match divU (nth L) L.length a b (L.length + 1) with
  | [] => .tuple #[.agg #[.int .u64 0, .int .u64 0], .agg #[.int .u64 0, .int .u64 0], .bool false]
  | t :: _ => .tuple #[.agg #[.int .u64 ((ofN (L.take t)).1 : Nat), .int .u64 ((ofN (L.take t)).2 : Nat)], .agg #[.int .u64 ((ofN (L.drop t)).1 : Nat), .int .u64 ((ofN (L.drop t)).2 : Nat)], .bool true]

set_option maxRecDepth 100000 in
set_option maxHeartbeats 4000000 in
theorem first_c (a b c d : Int) (lo hi : Nat) (hb : 0 ≤ b) (hl : lo < 18446744073709551616) (hh : hi < 18446744073709551616) (w : World) (G : Gl w) :
    Calls Tryd.prog 40 #[.agg #[.int .i64 a, .int .i64 b, .int .i64 c, .int .i64 d], .agg #[.int .u64 lo, .int .u64 hi]] w fun e w' => e = .returned (fstV (Ns.notes lo hi) a b) ∧ Below w.heap.size w w' := by
  unfold fstV
  have HG := fun (n₁ n Bs Bp : Nat) (hn : 2 ≤ n) (w : World) => div_gives n₁ a b c d lo hi hb hl hh n Bs Bp hn w
  generalize hT : divU (nth (Ns.notes lo hi)) (Ns.notes lo hi).length a b ((Ns.notes lo hi).length + 1) = T at *
  clear hT
  generalize hL : Ns.notes lo hi = L at *
  clear hL
  obtain ⟨D, hD⟩ : ∃ D, w.heap.size = D := ⟨_, rfl⟩
  rw [hD]
  refine (callsIn_wide (n := 9)).1 ?_
  refine callsIn_of_wp_marks Tryd.func40 rfl trivial ?_ rfl
  simp only [Tryd.ntmps40, List.size_toArray, List.length_cons, List.length_nil, Nat.reduceAdd, Nat.reduceSub, Array.replicate_succ, Array.replicate_zero, List.push_toArray, List.append_toArray, List.nil_append, List.cons_append]
  gi_wp2_with fail
  refine (callsIn_wide.2 (divisions_c a b c d lo hi _)).mono ?_
  rintro e w' ⟨rfl, rfl⟩
  gi_wp2_with fail
  obtain ⟨V0, hV0⟩ : ∃ V0, ((((w.alloc (.cells #[.int .i64 a, .int .i64 b, .int .i64 c, .int .i64 d] 23)).alloc (.cells #[.int .u64 lo, .int .u64 hi] 26)).alloc (.cells #[.int .u64 0, .int .u64 0] 26)).alloc (.cells #[.int .u64 0, .int .u64 0] 26)).alloc (.cells #[.bool false] 4) = V0 := ⟨_, rfl⟩
  have hz0 : V0.heap.size = D + 5 := by rw [← hV0]; simp [hD]
  have hR0 : Res3 V0 (D + 1 + 1) 0 0 0 0 false := by
    rw [← hV0]
    exact ⟨heap_old (heap_old (heap_new (by simp [hD]))), heap_old (heap_new (by simp [hD])), heap_new (by simp [hD])⟩
  have hw0 : Below D w V0 := by
    rw [← hV0]
    exact (((((Below.refl _ w).alloc (by omega) _).alloc (by simp; omega) _).alloc (by simp; omega) _).alloc (by simp; omega) _).alloc (by simp; omega) _
  rw [hV0]
  clear hV0
  obtain ⟨V, hV⟩ : ∃ V, (V0.alloc (.cells #[.int .i64 a, .int .i64 b, .int .i64 c, .int .i64 d] 23)).alloc (.cells #[.int .u64 lo, .int .u64 hi] 26) = V := ⟨_, rfl⟩
  have hzV : V.heap.size = D + 7 := by rw [← hV]; simp [hz0]
  have hb0 : Below V0.heap.size V0 V := by rw [← hV]; exact ((Below.refl _ _).alloc (Nat.le_refl _) _).alloc (by simp) _
  have hRV := hR0.below (by omega) hb0
  have hwV : Below D w V := hw0.trans (hb0.mono (by omega))
  have hPV : PlAt V (D + 1 + 1 + 1 + 1 + 1) a b c d := by rw [← hV]; exact heap_old (heap_new (by omega))
  have hSV : SetAt V (D + 1 + 1 + 1 + 1 + 1 + 1) lo hi := by rw [← hV]; exact heap_new (by simp; omega)
  rw [hV]
  clear hV hb0 hR0 hw0
  refine Rn.range_all rfl (by omega) (gf := 56) (lb := #[.pointer (some ⟨D + 1 + 1 + 1 + 1 + 1 + 1, 0, none⟩), .pointer (some ⟨D + 1 + 1 + 1 + 1 + 1, 0, none⟩)]) rfl trivial (enters_of Tryd.func56 (by kernel_rfl) rfl) (n₁ := D + 5) (by omega)
    (HG (D + 5) 8 _ _ (by omega) V (by omega) (by omega) (by omega) hSV hPV) (fun _ => rfl)
    (fun pre A => pre = [] ∧ Below D w A ∧ Res3 A (D + 1 + 1) 0 0 0 0 false)
    (fun k pre A => k = .ret ∧ ∃ t, pre = [t] ∧ Below D w A ∧ Res3 A (D + 1 + 1) (ofN (L.take t)).1 (ofN (L.take t)).2 (ofN (L.drop t)).1 (ofN (L.drop t)).2 true)
    (fun s A B h st => ⟨h.1, h.2.1.trans (st.below.mono (by omega)), h.2.2.below (by omega) st.below⟩)
    (fun k s A B ⟨h1, t, h2, h3, h4⟩ st => ⟨h1, t, h2, h3.trans (st.below.mono (by omega)), h4.below (by omega) st.below⟩)
    (fun s A h => G.below (by rw [hD]; exact h.2.1))
    ⟨rfl, hwV, hRV⟩
    (fun t a' A => ∃ b4 b5, D + 7 ≤ b4 ∧ D + 7 ≤ b5 ∧ SetAt A b4 (ofN (L.take t)).1 (ofN (L.take t)).2 ∧ SetAt A b5 (ofN (L.drop t)).1 (ofN (L.drop t)).2 ∧ a' = { tmps := #[.agg #[.int .i64 a, .int .i64 b, .int .i64 c, .int .i64 d], .agg #[.int .u64 lo, .int .u64 hi], .pointer (some ⟨D, 0, none⟩), .pointer (some ⟨D + 1, 0, none⟩), .pointer (some ⟨D + 1 + 1, 0, none⟩), .pointer (some ⟨D + 1 + 1 + 1, 0, none⟩), .pointer (some ⟨D + 1 + 1 + 1 + 1, 0, none⟩), .pointer (some ⟨b4, 0, none⟩), .pointer (some ⟨b5, 0, none⟩), .agg #[.int .i64 a, .int .i64 b, .int .i64 c, .int .i64 d], .agg #[.int .u64 lo, .int .u64 hi], .func (.func 56) #[] #[.pointer (some ⟨D + 1 + 1 + 1 + 1 + 1 + 1, 0, none⟩), .pointer (some ⟨D + 1 + 1 + 1 + 1 + 1, 0, none⟩)], .agg #[.int .u64 ((ofN (L.take t)).1 : Nat), .int .u64 ((ofN (L.take t)).2 : Nat)], .agg #[.int .u64 ((ofN (L.drop t)).1 : Nat), .int .u64 ((ofN (L.drop t)).2 : Nat)], undef, undef, undef, undef], defers := [] })
    (fun t a' A k o o' hk ho ⟨b4, b5, h1, h2, h4, h5, e⟩ => ⟨b4, b5, h1, h2, h4.putO o' hk ho, h5.putO o' hk ho, e⟩) ?assign ?body ?done ?stop
  case assign =>
    intro l' pre t A K _ hszA hK
    unfold cutE
    generalize (ofN (L.take t)).1 = t1 at *
    generalize (ofN (L.take t)).2 = t2 at *
    generalize (ofN (L.drop t)).1 = t3 at *
    generalize (ofN (L.drop t)).2 = t4 at *
    gi_wp2
    exact hK _ _ (((Below.refl _ A).alloc (Nat.le_refl _) _).alloc (by simp) _) ⟨_, _, by omega, by simp; omega, (SetAt.new A t1 t2).below (by simp) ((Below.refl _ _).alloc (Nat.le_refl _) _), SetAt.new _ t3 t4, by simp⟩
  case body =>
    rintro l' pre t a' A ⟨rfl, hwA, hRA⟩ _ hszA ⟨b4, b5, hb4, hb5, h4, h5, rfl⟩
    show Code.wpIn _ _ _ _ (Rn.ends (D + 5) V.heap.size _ _ [t] A) _ _
    have e0 := h4.fst
    have e1 := h4.snd
    have e2 := h5.fst
    have e3 := h5.snd
    have g0 := hRA.one.fst
    have g1 := hRA.one.snd
    have g2 := hRA.one.f0
    have g3 := hRA.one.f1
    have g4 := hRA.two.fst
    have g5 := hRA.two.snd
    have g6 := hRA.two.f0
    have g7 := hRA.two.f1
    have g8 := hRA.thr.cell
    have g9 := hRA.thr.free
    have n1 : b5 ≠ D + 1 + 1 := by omega
    have n2 : b4 ≠ D + 1 + 1 := by omega
    have n3 : b5 ≠ D + 1 + 1 + 1 := by omega
    have hm : Tryd.prog.follows Departure.mixedOrders = true := by kernel_rfl
    gi_wp2_with fail
    gi_region_with_o (fail)
    all_goals gi_wp2
    all_goals
      refine ⟨?_, rfl, t, rfl, ?_, ?_⟩
      · exact drew_kr (set5_kr A (D + 1 + 1) (ofN (L.take t)).1 (ofN (L.take t)).2 (ofN (L.drop t)).1 (ofN (L.drop t)).2 true (by omega) (by omega))
      · exact (hwA.trans (set5_below A (D + 1 + 1) (ofN (L.take t)).1 (ofN (L.take t)).2 (ofN (L.drop t)).1 (ofN (L.drop t)).2 true (by omega))).drew
      · exact (hRA.set5 (ofN (L.take t)).1 (ofN (L.take t)).2 (ofN (L.drop t)).1 (ofN (L.drop t)).2 true).drew
  case done =>
    rintro D2 A hD2 ⟨hT, hwA, hRA⟩ hK
    subst hT
    have g0 := hRA.one.fst
    have g1 := hRA.one.snd
    have g2 := hRA.one.f0
    have g3 := hRA.one.f1
    have g4 := hRA.two.fst
    have g5 := hRA.two.snd
    have g6 := hRA.two.f0
    have g7 := hRA.two.f1
    have g8 := hRA.thr.cell
    have g9 := hRA.thr.free
    gi_wp2_with fail
    have hKU : (set5 A (D + 1 + 1) 0 0 0 0 false).heap[D2]? = some (.deferred (some [])) := (set5_heap A (D + 1 + 1) 0 0 0 0 false (by omega)).trans hK
    refine ⟨by simp, .inl ⟨_, (set5 A (D + 1 + 1) 0 0 0 0 false).putObj D2 (.deferred none), rfl, run_takeDeferred hKU, ?_⟩⟩
    have hst := Rn.Step.putObj (n₁ := D + 5) (b := D + 5) _ _ (.deferred none) (by omega) (by omega) hKU rfl
    have hRU := (hRA.set5 0 0 0 0 false).below (by omega) hst.below
    have y0 := hRU.one.fst
    have y1 := hRU.one.snd
    have y2 := hRU.two.fst
    have y3 := hRU.two.snd
    have y4 := hRU.thr.cell
    refine ⟨_, ?_, rfl, ?_⟩
    · simp [results, Tryd.results40, go_sem, y0, y1, y2, y3, y4]
    · exact (hwA.trans (set5_below A (D + 1 + 1) 0 0 0 0 false (by omega))).trans (hst.below.mono (by omega))
  case stop =>
    rintro D2 k pre A hD2 ⟨post, hpost⟩ ⟨rfl, t, rfl, hwA, hRA⟩ hK
    obtain rfl : T = t :: post := hpost
    gi_wp2
    refine ⟨by simp, .inl ⟨_, _, rfl, run_takeDeferred hK, ?_⟩⟩
    have hst := Rn.Step.putObj (n₁ := D + 5) (b := D + 5) A _ (.deferred none) (by omega) (by omega) hK rfl
    have hRU := hRA.below (by omega) hst.below
    have y0 := hRU.one.fst
    have y1 := hRU.one.snd
    have y2 := hRU.two.fst
    have y3 := hRU.two.snd
    have y4 := hRU.thr.cell
    refine ⟨_, ?_, rfl, ?_⟩
    · simp [results, Tryd.results40, go_sem, y0, y1, y2, y3, y4]
    · exact hwA.trans (hst.below.mono (by omega))
end Go.Proofs.YtinopmdefndhoaaDoor
/- One, Two. -/
namespace Go.Proofs.YtinopmdefndhoaaDoor
open Go Go.RowKit Go.Shelf

theorem chk_b {a b c d : Int} (h : chk a b c d = 0) : 0 ≤ b := by
  unfold chk at h
  split at h
  · rename_i h'; exact h'.2.2.2.2.1
  · cases h
theorem chk_three {a b c d : Int} (h : ¬ chk a b c d = 0) : chk a b c d = 3 := by
  unfold chk at h ⊢
  split
  · rename_i h'; rw [if_pos h'] at h; exact absurd rfl h
  · rfl

set_option maxHeartbeats 1000000 in
theorem one_bad (a b c d : Int) (lo hi : Nat) (hx : ¬ chk a b c d = 0) (w : World) :
    Calls Tryd.prog 15 #[.agg #[.int .i64 a, .int .i64 b, .int .i64 c, .int .i64 d], .agg #[.int .u64 lo, .int .u64 hi]] w fun e w' => e = .returned (.tuple #[.bool false, .int .i64 3]) ∧ Below w.heap.size w w' := by
  have hc := fun W => check_c a b c d W
  rw [chk_three hx] at hc
  have CC := Lib.hid hc
  clear hc hx
  obtain ⟨D, hD⟩ : ∃ D, w.heap.size = D := ⟨_, rfl⟩
  have hw1 : Below D w ((w.alloc (.cells #[.int .i64 a, .int .i64 b, .int .i64 c, .int .i64 d] 23)).alloc (.cells #[.int .u64 lo, .int .u64 hi] 26)) := ((Below.refl _ _).alloc (by omega) _).alloc (by simp; omega) _
  go_enter Tryd.func15, Tryd.ntmps15
  go_wp2_with fail
  refine (CC.out _).mono ?_
  rintro e v1 ⟨rfl, hb1⟩
  have hw2 : Below D w v1 := hw1.trans (hb1.mono (by simp; omega))
  go_wp2
  go_ret2
  exact ⟨rfl, by rw [hD]; exact hw2⟩

set_option maxHeartbeats 1000000 in
theorem one_ok (a b c d : Int) (lo hi : Nat) (hl : lo < 18446744073709551616) (hh : hi < 18446744073709551616) (hx : chk a b c d = 0) (w : World) (G : Gl w) :
    Calls Tryd.prog 15 #[.agg #[.int .i64 a, .int .i64 b, .int .i64 c, .int .i64 d], .agg #[.int .u64 lo, .int .u64 hi]] w fun e w' => e = .returned (.tuple #[.bool (holdX (nth (Ns.notes lo hi)) (Ns.notes lo hi).length a b), .int .i64 0]) ∧ Below w.heap.size w w' := by
  have hc := fun W => check_c a b c d W
  rw [hx] at hc
  have CC := Lib.hid hc
  have HH := Lib.hid (fun W g => hh_any a b c d lo hi (chk_b hx) hl hh W g)
  clear hc hx hl hh
  generalize holdX (nth (Ns.notes lo hi)) (Ns.notes lo hi).length a b = r at *
  obtain ⟨D, hD⟩ : ∃ D, w.heap.size = D := ⟨_, rfl⟩
  have hw1 : Below D w ((w.alloc (.cells #[.int .i64 a, .int .i64 b, .int .i64 c, .int .i64 d] 23)).alloc (.cells #[.int .u64 lo, .int .u64 hi] 26)) := ((Below.refl _ _).alloc (by omega) _).alloc (by simp; omega) _
  have hP1 : PlAt ((w.alloc (.cells #[.int .i64 a, .int .i64 b, .int .i64 c, .int .i64 d] 23)).alloc (.cells #[.int .u64 lo, .int .u64 hi] 26)) D a b c d := heap_old (heap_new hD.symm)
  have hS1 : SetAt ((w.alloc (.cells #[.int .i64 a, .int .i64 b, .int .i64 c, .int .i64 d] 23)).alloc (.cells #[.int .u64 lo, .int .u64 hi] 26)) (D + 1) lo hi := heap_new (by simp [hD])
  go_enter Tryd.func15, Tryd.ntmps15
  go_wp2_with fail
  refine (CC.out _).mono ?_
  rintro e v1 ⟨rfl, hb1⟩
  have hw2 : Below D w v1 := hw1.trans (hb1.mono (by simp; omega))
  have hP2 := hP1.below hP1.lt hb1
  have hS2 := hS1.below hS1.lt hb1
  clear hw1 hP1 hS1 hb1
  have c0 := cell4_0 hP2
  have c1 := cell4_1 hP2
  have c2 := cell4_2 hP2
  have c3 := cell4_3 hP2
  have e0 := hS2.fst
  have e1 := hS2.snd
  have G2 : Gl v1 := G.below (by rw [hD]; exact hw2)
  go_wp2_with fail
  refine (HH.out _ G2).mono ?_
  rintro e v2 ⟨rfl, hb2⟩
  have hw3 : Below D w v2 := hw2.trans (hb2.mono (by rw [← hD]; exact hw2.size))
  clear c0 c1 c2 c3 e0 e1
  go_wp2
  go_ret2
  exact ⟨rfl, by rw [hD]; exact hw3⟩

theorem first_nil (a b c d : Int) (lo hi : Nat) (hb : 0 ≤ b) (hl : lo < 18446744073709551616) (hh : hi < 18446744073709551616) (hT : divU (nth (Ns.notes lo hi)) (Ns.notes lo hi).length a b ((Ns.notes lo hi).length + 1) = []) (w : World) (G : Gl w) :
    Calls Tryd.prog 40 #[.agg #[.int .i64 a, .int .i64 b, .int .i64 c, .int .i64 d], .agg #[.int .u64 lo, .int .u64 hi]] w fun e w' => e = .returned (.tuple #[.agg #[.int .u64 0, .int .u64 0], .agg #[.int .u64 0, .int .u64 0], .bool false]) ∧ Below w.heap.size w w' := by
  have h := first_c a b c d lo hi hb hl hh w G
  unfold fstV at h
  rw [hT] at h
  exact h
theorem first_cons (a b c d : Int) (lo hi : Nat) (hb : 0 ≤ b) (hl : lo < 18446744073709551616) (hh : hi < 18446744073709551616) (t : Nat) (T : List Nat) (hT : divU (nth (Ns.notes lo hi)) (Ns.notes lo hi).length a b ((Ns.notes lo hi).length + 1) = t :: T) (w : World) (G : Gl w) :
    Calls Tryd.prog 40 #[.agg #[.int .i64 a, .int .i64 b, .int .i64 c, .int .i64 d], .agg #[.int .u64 lo, .int .u64 hi]] w fun e w' => e = .returned (.tuple #[.agg #[.int .u64 ((ofN ((Ns.notes lo hi).take t)).1 : Nat), .int .u64 ((ofN ((Ns.notes lo hi).take t)).2 : Nat)], .agg #[.int .u64 ((ofN ((Ns.notes lo hi).drop t)).1 : Nat), .int .u64 ((ofN ((Ns.notes lo hi).drop t)).2 : Nat)], .bool true]) ∧ Below w.heap.size w w' := by
  have h := first_c a b c d lo hi hb hl hh w G
  unfold fstV at h
  rw [hT] at h
  exact h

/-- Four boxes of a call of Two. -/
structure Bx4 (w : World) (D : Nat) (W : World) (a b c d : Int) (lo hi x1 x2 y1 y2 : Nat) : Prop where
  bel : Below D w W
  pl : PlAt W D a b c d
  st : SetAt W (D + 1) lo hi
  one : SetAt W (D + 1 + 1) x1 x2
  two : SetAt W (D + 1 + 1 + 1) y1 y2
theorem Bx4.below {w W W' : World} {D : Nat} {a b c d : Int} {lo hi x1 x2 y1 y2 : Nat} (h : Bx4 w D W a b c d lo hi x1 x2 y1 y2) (hb : Below W.heap.size W W') (hs : D ≤ W.heap.size) : Bx4 w D W' a b c d lo hi x1 x2 y1 y2 :=
  ⟨h.bel.trans (hb.mono hs), h.pl.below h.pl.lt hb, h.st.below h.st.lt hb, h.one.below h.one.lt hb, h.two.below h.two.lt hb⟩
theorem Bx4.start (w : World) (a b c d : Int) (lo hi : Nat) : Bx4 w w.heap.size ((((w.alloc (.cells #[.int .i64 a, .int .i64 b, .int .i64 c, .int .i64 d] 23)).alloc (.cells #[.int .u64 lo, .int .u64 hi] 26)).alloc (.cells #[.int .u64 0, .int .u64 0] 26)).alloc (.cells #[.int .u64 0, .int .u64 0] 26)) a b c d lo hi 0 0 0 0 :=
  ⟨((((Below.refl _ w).alloc (Nat.le_refl _) _).alloc (by simp) _).alloc (by simp; omega) _).alloc (by simp; omega) _, heap_old (heap_old (heap_old (heap_new rfl))), heap_old (heap_old (heap_new (by simp))), heap_old (heap_new (by simp)), heap_new (by simp)⟩

/-- Four stores, into two boxes. -/
def set4 (w : World) (k : Nat) (u1 u2 v1 v2 : Nat) : World := (((w.setCell ⟨k, 0, none⟩ (.int .u64 u1)).setCell ⟨k, 1, none⟩ (.int .u64 u2)).setCell ⟨k + 1, 0, none⟩ (.int .u64 v1)).setCell ⟨k + 1, 1, none⟩ (.int .u64 v2)
theorem set4_below (w : World) (k u1 u2 v1 v2 : Nat) {D : Nat} (h : D ≤ k) : Below D w (set4 w k u1 u2 v1 v2) :=
  ((((Below.refl D w).setCell (p := ⟨k, 0, none⟩) h _).setCell (p := ⟨k, 1, none⟩) h _).setCell (p := ⟨k + 1, 0, none⟩) (by show D ≤ k + 1; omega) _).setCell (p := ⟨k + 1, 1, none⟩) (by show D ≤ k + 1; omega) _
theorem Bx4.set4 {w W : World} {D : Nat} {a b c d : Int} {lo hi x1 x2 y1 y2 : Nat} (h : Bx4 w D W a b c d lo hi x1 x2 y1 y2) (u1 u2 v1 v2 : Nat) : Bx4 w D (set4 W (D + 1 + 1) u1 u2 v1 v2) a b c d lo hi u1 u2 v1 v2 where
  bel := h.bel.trans (set4_below W (D + 1 + 1) u1 u2 v1 v2 (by omega))
  pl := ((heap_set (by omega)).trans ((heap_set (by omega)).trans ((heap_set (by omega)).trans (heap_set (by omega))))).trans h.pl
  st := (((h.st.set' (by omega)).set' (by omega)).set' (by omega)).set' (by omega)
  one := ((h.one.set u1 u2).set' (by omega)).set' (by omega)
  two := ((h.two.set' (by omega)).set' (by omega)).set v1 v2
theorem Bx4.drew {w W : World} {D : Nat} {a b c d : Int} {lo hi x1 x2 y1 y2 : Nat} (h : Bx4 w D W a b c d lo hi x1 x2 y1 y2) : Bx4 w D W.drew a b c d lo hi x1 x2 y1 y2 := ⟨h.bel.drew, h.pl, h.st, h.one, h.two⟩

set_option maxRecDepth 100000 in
set_option maxHeartbeats 4000000 in
theorem two_bad (a b c d : Int) (lo hi : Nat) (hx : ¬ chk a b c d = 0) (w : World) :
    Calls Tryd.prog 17 #[.agg #[.int .i64 a, .int .i64 b, .int .i64 c, .int .i64 d], .agg #[.int .u64 lo, .int .u64 hi]] w fun e w' => e = .returned (.tuple #[.agg #[.int .u64 0, .int .u64 0], .agg #[.int .u64 0, .int .u64 0], .bool false, .int .i64 3]) ∧ Below w.heap.size w w' := by
  have hc := fun W => check_c a b c d W
  rw [chk_three hx] at hc
  have CC := Lib.hid hc
  clear hc hx
  have B0 := Bx4.start w a b c d lo hi
  obtain ⟨D, hD⟩ : ∃ D, w.heap.size = D := ⟨_, rfl⟩
  rw [hD] at B0 ⊢
  have HB0 := Lib.hid B0
  clear B0
  go_enter Tryd.func17, Tryd.ntmps17
  go_wp2_with fail
  refine (CC.out _).mono ?_
  rintro e v1 ⟨rfl, hb1⟩
  have B1 := HB0.out.below hb1 (by simp; omega)
  clear hb1
  have g0 := B1.one.fst
  have g1 := B1.one.snd
  have g2 := B1.one.f0
  have g3 := B1.one.f1
  have g4 := B1.two.fst
  have g5 := B1.two.snd
  have g6 := B1.two.f0
  have g7 := B1.two.f1
  go_wp2_with fail
  have B2 := B1.set4 0 0 0 0
  show bodyPost _ _ _ _ _ (set4 v1 (D + 1 + 1) 0 0 0 0)
  clear g0 g1 g2 g3 g4 g5 g6 g7 B1
  generalize set4 v1 (D + 1 + 1) 0 0 0 0 = U at *
  have g0 := B2.one.fst
  have g1 := B2.one.snd
  have g2 := B2.one.f0
  have g3 := B2.one.f1
  have g4 := B2.two.fst
  have g5 := B2.two.snd
  have g6 := B2.two.f0
  have g7 := B2.two.f1
  refine bodyPost_ret (v := .tuple #[.agg #[.int .u64 0, .int .u64 0], .agg #[.int .u64 0, .int .u64 0], .bool false, .int .i64 3]) (by simp [results, Tryd.results17, go_sem, g0, g1, g4, g5]) rfl ⟨rfl, B2.bel⟩

set_option maxRecDepth 100000 in
set_option maxHeartbeats 4000000 in
theorem two_ok (a b c d : Int) (lo hi x1 x2 y1 y2 : Nat) (r : Bool) (hx : chk a b c d = 0) (w : World) (G : Gl w)
    (fc : ∀ W, Gl W → Calls Tryd.prog 40 #[.agg #[.int .i64 a, .int .i64 b, .int .i64 c, .int .i64 d], .agg #[.int .u64 lo, .int .u64 hi]] W fun e w' => e = .returned (.tuple #[.agg #[.int .u64 x1, .int .u64 x2], .agg #[.int .u64 y1, .int .u64 y2], .bool r]) ∧ Below W.heap.size W w') :
    Calls Tryd.prog 17 #[.agg #[.int .i64 a, .int .i64 b, .int .i64 c, .int .i64 d], .agg #[.int .u64 lo, .int .u64 hi]] w fun e w' => e = .returned (.tuple #[.agg #[.int .u64 x1, .int .u64 x2], .agg #[.int .u64 y1, .int .u64 y2], .bool r, .int .i64 0]) ∧ Below w.heap.size w w' := by
  have hc := fun W => check_c a b c d W
  rw [hx] at hc
  have CC := Lib.hid hc
  have FC := Lib.hid fc
  clear hc hx fc
  have B0 := Bx4.start w a b c d lo hi
  obtain ⟨D, hD⟩ : ∃ D, w.heap.size = D := ⟨_, rfl⟩
  rw [hD] at B0 ⊢
  have HB0 := Lib.hid B0
  clear B0
  go_enter Tryd.func17, Tryd.ntmps17
  go_wp2_with fail
  refine (CC.out _).mono ?_
  rintro e v1 ⟨rfl, hb1⟩
  have B1 := HB0.out.below hb1 (by simp; omega)
  clear hb1
  have c0 := cell4_0 B1.pl
  have c1 := cell4_1 B1.pl
  have c2 := cell4_2 B1.pl
  have c3 := cell4_3 B1.pl
  have e0 := B1.st.fst
  have e1 := B1.st.snd
  have G2 : Gl v1 := G.below (by rw [hD]; exact B1.bel)
  go_wp2_with fail
  refine (FC.out _ G2).mono ?_
  rintro e v2 ⟨rfl, hb2⟩
  have B2 := B1.below hb2 (by rw [← hD]; exact B1.bel.size)
  clear c0 c1 c2 c3 e0 e1 hb2 B1
  have g0 := B2.one.fst
  have g1 := B2.one.snd
  have g2 := B2.one.f0
  have g3 := B2.one.f1
  have g4 := B2.two.fst
  have g5 := B2.two.snd
  have g6 := B2.two.f0
  have g7 := B2.two.f1
  go_wp2_with fail
  have B3 := B2.set4 x1 x2 y1 y2
  have e : ((((v2.setCell ⟨D + 1 + 1, 0, none⟩ (.int .u64 x1)).setCell ⟨D + 1 + 1, 1, none⟩ (.int .u64 x2)).setCell ⟨D + 1 + 1 + 1, 0, none⟩ (.int .u64 y1)).setCell ⟨D + 1 + 1 + 1, 1, none⟩ (.int .u64 y2)) = set4 v2 (D + 1 + 1) x1 x2 y1 y2 := rfl
  rw [e]
  clear e g0 g1 g2 g3 g4 g5 g6 g7 B2
  generalize set4 v2 (D + 1 + 1) x1 x2 y1 y2 = U at *
  have g0 := B3.one.fst
  have g1 := B3.one.snd
  have g2 := B3.one.f0
  have g3 := B3.one.f1
  have g4 := B3.two.fst
  have g5 := B3.two.snd
  have g6 := B3.two.f0
  have g7 := B3.two.f1
  go_region
  go_wp2
  have B4 := (B3.set4 x1 x2 y1 y2).drew
  show bodyPost _ _ _ _ _ (set4 U (D + 1 + 1) x1 x2 y1 y2).drew
  clear g0 g1 g2 g3 g4 g5 g6 g7 B3
  generalize (set4 U (D + 1 + 1) x1 x2 y1 y2).drew = X at *
  have g0 := B4.one.fst
  have g1 := B4.one.snd
  have g2 := B4.one.f0
  have g3 := B4.one.f1
  have g4 := B4.two.fst
  have g5 := B4.two.snd
  have g6 := B4.two.f0
  have g7 := B4.two.f1
  refine bodyPost_ret (v := .tuple #[.agg #[.int .u64 x1, .int .u64 x2], .agg #[.int .u64 y1, .int .u64 y2], .bool r, .int .i64 0]) (by simp [results, Tryd.results17, go_sem, g0, g1, g4, g5]) rfl ⟨rfl, B4.bel⟩
end Go.Proofs.YtinopmdefndhoaaDoor
/- All. -/
namespace Go.Proofs.YtinopmdefndhoaaDoor
open Go Go.RowKit Go.Shelf
attribute [local go_sem] Oper.semAt_some
attribute [local go_sem] wide_fn wide_depth

theorem notN_of {c : Array Value} {u : TypeId} {f : Nat × Nat} (h1 : u ≠ 26) (h2 : u ≠ 23) (h3 : u ≠ 90) : ¬ Rn.isN (.cells c u f) := by
  rintro ⟨c', u', f', e, h⟩
  cases e
  rcases h with h | h | h
  · exact h1 h
  · exact h2 h
  · exact h3 h
theorem kr_appended {n₁ b : Nat} {W w1 : World} {n₀ B : Nat} {t e : TypeId} {size : Nat} {v v' : Value} {k : Nat} {xs : List Value} {tmp : Obj}
    (hv : Boxed W B t v) (ht : ∀ c f, ¬ Rn.isN (.cells c t f)) (he : ∀ c f, ¬ Rn.isN (.cells c e f)) (hrow : W.ownsRow n₀ e size v k xs) (hgrow : (W.alloc tmp).grownBy w1 v.ownBlock) : Rn.Kr n₁ b W (w1.setCell ⟨B, 0, none⟩ v') where
  size := by
    have := hgrow.size
    simp [World.setCell] at this ⊢
    omega
  same := fun i o hi hc => by
    have hil := (Array.getElem?_eq_some_iff.1 hi).1
    have h1 : (W.alloc tmp).heap[i]? = some o := (Below.heap_alloc _ _ _ hil).trans hi
    have nB : i ≠ B := fun e' => by
      subst e'
      rw [show W.heap[i]? = _ from hv] at hi
      cases hi
      rcases hc with ⟨_, hc⟩ | ⟨_, hc⟩
      · cases hc
      · exact ht _ _ hc
    have hr : some i ≠ v.ownBlock := fun ei => by
      rcases hrow.2 with ⟨rfl, _⟩ | ⟨g, cap, cur, rfl, _, hg, _⟩
      · cases ei
      · simp [Value.ownBlock] at ei
        subst ei
        rw [hg] at hi
        cases hi
        rcases hc with ⟨_, hc⟩ | ⟨_, hc⟩
        · cases hc
        · exact he _ _ hc
    exact (heap_set nB).trans ((hgrow.block i (by simp; omega) hr).trans h1)
theorem step_owns {n₁ b : Nat} {A B : World} {base k size : Nat} {e : TypeId} {v : Value} {xs : List Value} (he : ∀ c f, ¬ Rn.isN (.cells c e f)) (h : A.ownsRow base e size v k xs) (st : Rn.Step n₁ b A B) : B.ownsRow base e size v k xs :=
  ⟨h.1, h.2.imp id fun ⟨g, cap, cur, h1, h2, h3, h4⟩ => ⟨g, cap, cur, h1, h2, st.same g _ h3 (he _ _) (.inr rfl), h4⟩⟩

def cut4 (L : List Nat) (t : Nat) : List Value := [.int .u64 ((ofN (L.take t)).1 : Nat), .int .u64 ((ofN (L.take t)).2 : Nat), .int .u64 ((ofN (L.drop t)).1 : Nat), .int .u64 ((ofN (L.drop t)).2 : Nat)]
theorem flat4 (f : Nat → List Value) (h : ∀ t, (f t).length = 4) : ∀ (T : List Nat) (i r : Nat) (_hi : i < T.length) (_hr : r < 4), (T.flatMap f)[i * 4 + r]? = (f (T.getD i 0))[r]?
  | [], i, r, hi, _ => by simp at hi
  | t :: T, 0, r, _, hr => by
    rw [List.flatMap_cons, List.getElem?_append_left (by rw [h]; omega)]
    simp
  | t :: T, i + 1, r, hi, hr => by
    rw [List.flatMap_cons, List.getElem?_append_right (by rw [h]; omega), h, show (i + 1) * 4 + r - 4 = i * 4 + r by omega, flat4 f h T i r (by simpa using hi) hr]
    simp
theorem flat4_len (f : Nat → List Value) (h : ∀ t, (f t).length = 4) (T : List Nat) : (T.flatMap f).length = T.length * 4 := by
  induction T with
  | nil => rfl
  | cons t T ih => rw [List.flatMap_cons, List.length_append, h, ih, List.length_cons]; omega
theorem owns_cell {W : World} {base k size g cap : Nat} {e : TypeId} {xs : List Value} (h : W.ownsRow base e size (.slice (some ⟨g, 0, none⟩) k cap) k xs) {j : Nat} {u : Value} (hj : xs[j]? = some u) : W.cell? ⟨g, j, none⟩ = some u := by
  rcases h.2 with ⟨h0, _⟩ | ⟨g', cap', cur, h1, _, h3, _, _, _, h7⟩
  · cases h0
  · cases h1
    rw [← h7] at hj
    have hlt : j < k * size := by
      rcases Nat.lt_or_ge j (k * size) with h | h
      · exact h
      · rw [List.getElem?_take_eq_none h] at hj; cases hj
    rw [List.getElem?_take_of_lt hlt] at hj
    simp only [World.cell?, h3]
    simpa using hj
theorem prs_of {W : World} {base : Nat} {v : Value} {L T : List Nat} (h : W.ownsRow base 57 4 v T.length (T.flatMap (cut4 L))) (h0 : T = [] → v = .slice none 0 0) :
    (T.length = 0 ∧ v = .slice none 0 0) ∨ ∃ g cap, v = .slice (some ⟨g, 0, none⟩) T.length cap ∧ T.length ≤ cap ∧ g < W.heap.size ∧ ∀ i, i < T.length →
      W.cell? ⟨g, i * 4, none⟩ = some (.int .u64 (ofN (L.take (T.getD i 0))).1) ∧ W.cell? ⟨g, i * 4 + 1, none⟩ = some (.int .u64 (ofN (L.take (T.getD i 0))).2) ∧ W.cell? ⟨g, i * 4 + 2, none⟩ = some (.int .u64 (ofN (L.drop (T.getD i 0))).1) ∧ W.cell? ⟨g, i * 4 + 3, none⟩ = some (.int .u64 (ofN (L.drop (T.getD i 0))).2) := by
  rcases hT : T with _ | ⟨t, T'⟩
  · exact .inl ⟨rfl, h0 hT⟩
  · rw [← hT]
    have hown := h
    rcases h.2 with ⟨_, h1⟩ | ⟨g, cap, cur, rfl, _, h3, h4, _⟩
    · rw [hT] at h1; cases h1
    · refine .inr ⟨g, cap, rfl, h4, (Array.getElem?_eq_some_iff.1 h3).1, fun i hi => ⟨?_, ?_, ?_, ?_⟩⟩
      · exact owns_cell hown (flat4 (cut4 L) (fun _ => rfl) T i 0 hi (by decide))
      · exact owns_cell hown (flat4 (cut4 L) (fun _ => rfl) T i 1 hi (by decide))
      · exact owns_cell hown (flat4 (cut4 L) (fun _ => rfl) T i 2 hi (by decide))
      · exact owns_cell hown (flat4 (cut4 L) (fun _ => rfl) T i 3 hi (by decide))

theorem Tryd.info57 : (Tryd.prog.info? 57).map (fun i => (i.zero, i.size, i.bytes)) = some (some (.agg #[.int .u64 0, .int .u64 0, .int .u64 0, .int .u64 0]), 4, 32) := by kernel_rfl

theorem cell_four_new (w : World) (x0 x1 x2 x3 : Value) (t : TypeId) : ∀ j u, [x0, x1, x2, x3][j]? = some u → (w.alloc (.cells #[x0, x1, x2, x3] t)).cell? ((⟨w.heap.size, 0, none⟩ : Addr).add j) = some u := by
  intro j u hj
  match j, hj with
  | 0, hj => simp at hj; subst hj; simp [Addr.add]
  | 1, hj => simp at hj; subst hj; simp [Addr.add]
  | 2, hj => simp at hj; subst hj; simp [Addr.add]
  | 3, hj => simp at hj; subst hj; simp [Addr.add]
  | _ + 4, hj => simp at hj

set_option maxHeartbeats 1000000 in
theorem all_bad (a b c d : Int) (lo hi : Nat) (hx : ¬ chk a b c d = 0) (w : World) :
    Calls Tryd.prog 18 #[.agg #[.int .i64 a, .int .i64 b, .int .i64 c, .int .i64 d], .agg #[.int .u64 lo, .int .u64 hi]] w fun e w' => e = .returned (.tuple #[.slice none 0 0, .int .i64 3]) ∧ Below w.heap.size w w' := by
  have hc := fun W => check_c a b c d W
  rw [chk_three hx] at hc
  have CC := Lib.hid hc
  clear hc hx
  obtain ⟨D, hD⟩ : ∃ D, w.heap.size = D := ⟨_, rfl⟩
  have hw1 : Below D w ((w.alloc (.cells #[.int .i64 a, .int .i64 b, .int .i64 c, .int .i64 d] 23)).alloc (.cells #[.int .u64 lo, .int .u64 hi] 26)) := ((Below.refl _ _).alloc (by omega) _).alloc (by simp; omega) _
  rw [hD]
  refine (callsIn_wide (n := 9)).1 ?_
  refine callsIn_of_wp_marks Tryd.func18 rfl trivial ?_ rfl
  simp only [Tryd.ntmps18, List.size_toArray, List.length_cons, List.length_nil, Nat.reduceAdd, Nat.reduceSub, Array.replicate_succ, Array.replicate_zero, List.push_toArray, List.append_toArray, List.nil_append, List.cons_append]
  gi_wp2_with fail
  refine (callsIn_wide.2 (CC.out _)).mono ?_
  rintro e v1 ⟨rfl, hb1⟩
  have hw2 : Below D w v1 := hw1.trans (hb1.mono (by simp; omega))
  gi_wp2
  exact ⟨_, results_tmp2 rfl _ _ _, rfl, hw2⟩

set_option maxRecDepth 100000 in
set_option maxHeartbeats 4000000 in
theorem all_ok (a b c d : Int) (lo hi : Nat) (hl : lo < 18446744073709551616) (hh : hi < 18446744073709551616) (hx : chk a b c d = 0) (w : World) (G : Gl w) :
    Calls Tryd.prog 18 #[.agg #[.int .i64 a, .int .i64 b, .int .i64 c, .int .i64 d], .agg #[.int .u64 lo, .int .u64 hi]] w fun e w' => (∃ v, e = .returned (.tuple #[v, .int .i64 0]) ∧ ∃ base, w'.ownsRow base 57 4 v (divU (nth (Ns.notes lo hi)) (Ns.notes lo hi).length a b ((Ns.notes lo hi).length + 1)).length ((divU (nth (Ns.notes lo hi)) (Ns.notes lo hi).length a b ((Ns.notes lo hi).length + 1)).flatMap (cut4 (Ns.notes lo hi))) ∧ (divU (nth (Ns.notes lo hi)) (Ns.notes lo hi).length a b ((Ns.notes lo hi).length + 1) = [] → v = .slice none 0 0)) ∧ Below w.heap.size w w' := by
  have hc := fun W => check_c a b c d W
  rw [hx] at hc
  have CC := Lib.hid hc
  have hTl : (divU (nth (Ns.notes lo hi)) (Ns.notes lo hi).length a b ((Ns.notes lo hi).length + 1)).length ≤ 129 := Nat.le_trans (divU_length _ _ _ _ _) (by have := Ns.notes_length lo hi; omega)
  have HG := fun (n₁ n Bs Bp : Nat) (hn : 2 ≤ n) (w : World) => div_gives n₁ a b c d lo hi (chk_b hx) hl hh n Bs Bp hn w
  clear hc hx
  generalize hT : divU (nth (Ns.notes lo hi)) (Ns.notes lo hi).length a b ((Ns.notes lo hi).length + 1) = T at *
  clear hT
  generalize hL : Ns.notes lo hi = L at *
  clear hL
  obtain ⟨D, hD⟩ : ∃ D, w.heap.size = D := ⟨_, rfl⟩
  rw [hD]
  have hw1 : Below D w ((w.alloc (.cells #[.int .i64 a, .int .i64 b, .int .i64 c, .int .i64 d] 23)).alloc (.cells #[.int .u64 lo, .int .u64 hi] 26)) := ((Below.refl _ _).alloc (by omega) _).alloc (by simp; omega) _
  have hP1 : PlAt ((w.alloc (.cells #[.int .i64 a, .int .i64 b, .int .i64 c, .int .i64 d] 23)).alloc (.cells #[.int .u64 lo, .int .u64 hi] 26)) D a b c d := heap_old (heap_new hD.symm)
  have hS1 : SetAt ((w.alloc (.cells #[.int .i64 a, .int .i64 b, .int .i64 c, .int .i64 d] 23)).alloc (.cells #[.int .u64 lo, .int .u64 hi] 26)) (D + 1) lo hi := heap_new (by simp [hD])
  refine (callsIn_wide (n := 9)).1 ?_
  refine callsIn_of_wp_marks Tryd.func18 rfl trivial ?_ rfl
  simp only [Tryd.ntmps18, List.size_toArray, List.length_cons, List.length_nil, Nat.reduceAdd, Nat.reduceSub, Array.replicate_succ, Array.replicate_zero, List.push_toArray, List.append_toArray, List.nil_append, List.cons_append]
  gi_wp2_with fail
  refine (callsIn_wide.2 (CC.out _)).mono ?_
  rintro e v1 ⟨rfl, hb1⟩
  have hw2 : Below D w v1 := hw1.trans (hb1.mono (by simp; omega))
  have hP2 := hP1.below hP1.lt hb1
  have hS2 := hS1.below hS1.lt hb1
  have hz1 := hb1.size
  simp only [World.size_alloc, hD] at hz1
  clear hw1 hP1 hS1 hb1
  obtain ⟨E, hE⟩ : ∃ E, v1.heap.size = E := ⟨_, rfl⟩
  rw [hE] at hz1
  obtain ⟨v2, hv2⟩ : ∃ v2, v1.alloc (.cells #[.slice none 0 0] 36) = v2 := ⟨_, rfl⟩
  have hb2 : Below v1.heap.size v1 v2 := by rw [← hv2]; exact (Below.refl _ _).alloc (Nat.le_refl _) _
  have hz2 : v2.heap.size = E + 1 := by rw [← hv2]; simp [hE]
  have hw3 : Below D w v2 := hw2.trans (hb2.mono (by omega))
  have hP3 := hP2.below hP2.lt hb2
  have hS3 := hS2.below hS2.lt hb2
  have hB3 : Boxed v2 E 36 (.slice none 0 0) := by rw [← hv2, ← hE]; exact Boxed.new v1 _ _
  clear hP2 hS2 hb2 hw2
  have c0 : (v1.alloc (.cells #[.slice none 0 0] 36)).cell? ⟨D, 0, none⟩ = some (.int .i64 a) := by rw [hv2]; exact cell4_0 hP3
  have c1 : (v1.alloc (.cells #[.slice none 0 0] 36)).cell? ⟨D, 1, none⟩ = some (.int .i64 b) := by rw [hv2]; exact cell4_1 hP3
  have c2 : (v1.alloc (.cells #[.slice none 0 0] 36)).cell? ⟨D, 2, none⟩ = some (.int .i64 c) := by rw [hv2]; exact cell4_2 hP3
  have c3 : (v1.alloc (.cells #[.slice none 0 0] 36)).cell? ⟨D, 3, none⟩ = some (.int .i64 d) := by rw [hv2]; exact cell4_3 hP3
  have e0 : (v1.alloc (.cells #[.slice none 0 0] 36)).cell? ⟨D + 1, 0, none⟩ = some (.int .u64 lo) := by rw [hv2]; exact hS3.fst
  have e1 : (v1.alloc (.cells #[.slice none 0 0] 36)).cell? ⟨D + 1, 1, none⟩ = some (.int .u64 hi) := by rw [hv2]; exact hS3.snd
  have HV2 := Lib.hid hv2
  clear hv2
  gi_wp2_with fail
  refine (callsIn_wide.2 (divisions_c a b c d lo hi _)).mono ?_
  clear c0 c1 c2 c3 e0 e1
  rw [HV2.out]
  rintro e w' ⟨rfl, rfl⟩
  obtain ⟨V, hV⟩ : ∃ V, (v2.alloc (.cells #[.int .i64 a, .int .i64 b, .int .i64 c, .int .i64 d] 23)).alloc (.cells #[.int .u64 lo, .int .u64 hi] 26) = V := ⟨_, rfl⟩
  have hzV : V.heap.size = E + 3 := by rw [← hV]; simp [hz2]
  have hb0 : Below v2.heap.size v2 V := by rw [← hV]; exact ((Below.refl _ _).alloc (Nat.le_refl _) _).alloc (by simp) _
  have hwV : Below D w V := hw3.trans (hb0.mono (by omega))
  have hPV : PlAt V (E + 1) a b c d := by rw [← hV]; exact heap_old (heap_new hz2.symm)
  have hSV : SetAt V (E + 1 + 1) lo hi := by rw [← hV]; exact heap_new (by simp [hz2])
  have hBV : Boxed V E 36 (.slice none 0 0) := (hb0.block E (by omega)).trans hB3
  rw [hV]
  clear hV hb0 hw3 hP3 hS3 hB3
  obtain ⟨i0, hi0, hz0, hzs1, hzs2⟩ := info_parts Tryd.info57
  gi_wp2_with fail
  refine Rn.range_all rfl (by omega) (gf := 56) (lb := #[.pointer (some ⟨E + 1 + 1, 0, none⟩), .pointer (some ⟨E + 1, 0, none⟩)]) rfl trivial (enters_of Tryd.func56 (by kernel_rfl) rfl) (n₁ := E + 1) (by omega)
    (HG (E + 1) 8 _ _ (by omega) V (by omega) (by omega) (by omega) hSV hPV) (fun _ => rfl)
    (fun pre A => ∃ v, Boxed A E 36 v ∧ A.ownsRow D 57 4 v pre.length (pre.flatMap (cut4 L)) ∧ (pre = [] → v = .slice none 0 0) ∧ Below D w A)
    (fun _ _ _ => False)
    (fun s A B ⟨v, h1, h2, h3, h4⟩ st => ⟨v, (st.below.block E (by omega)).trans h1, step_owns (fun _ _ => notN_of (by decide) (by decide) (by decide)) h2 st, h3, h4.trans (st.below.mono (by omega))⟩)
    (fun _ _ _ _ h _ => h)
    (fun s A ⟨v, h1, h2, h3, h4⟩ => G.below (by rw [hD]; exact h4))
    ⟨_, hBV, World.ownsRow_nil _ _ _ _, fun _ => rfl, hwV⟩
    (fun t a' A => ∃ b4 b5, E + 3 ≤ b4 ∧ E + 3 ≤ b5 ∧ SetAt A b4 (ofN (L.take t)).1 (ofN (L.take t)).2 ∧ SetAt A b5 (ofN (L.drop t)).1 (ofN (L.drop t)).2 ∧ a' = { tmps := #[.agg #[.int .i64 a, .int .i64 b, .int .i64 c, .int .i64 d], .agg #[.int .u64 lo, .int .u64 hi], .pointer (some ⟨D, 0, none⟩), .pointer (some ⟨D + 1, 0, none⟩), .slice none 0 0, .int .i64 0, .int .i64 0, .pointer (some ⟨E, 0, none⟩), .pointer (some ⟨b4, 0, none⟩), .pointer (some ⟨b5, 0, none⟩), .agg #[.int .i64 a, .int .i64 b, .int .i64 c, .int .i64 d], .int .i64 0, .int .i64 0, .bool false, undef, .agg #[.int .i64 a, .int .i64 b, .int .i64 c, .int .i64 d], .agg #[.int .u64 lo, .int .u64 hi], .func (.func 56) #[] #[.pointer (some ⟨E + 1 + 1, 0, none⟩), .pointer (some ⟨E + 1, 0, none⟩)], .agg #[.int .u64 ((ofN (L.take t)).1 : Nat), .int .u64 ((ofN (L.take t)).2 : Nat)], .agg #[.int .u64 ((ofN (L.drop t)).1 : Nat), .int .u64 ((ofN (L.drop t)).2 : Nat)], undef, undef, undef, undef, undef, undef, undef], defers := [] })
    (fun t a' A k o o' hk ho ⟨b4, b5, h1, h2, h4, h5, e⟩ => ⟨b4, b5, h1, h2, h4.putO o' hk ho, h5.putO o' hk ho, e⟩) ?assign ?body ?done ?stop
  case assign =>
    intro l' pre t A K _ hszA hK
    unfold cutE
    generalize (ofN (L.take t)).1 = t1 at *
    generalize (ofN (L.take t)).2 = t2 at *
    generalize (ofN (L.drop t)).1 = t3 at *
    generalize (ofN (L.drop t)).2 = t4 at *
    gi_wp2
    exact hK _ _ (((Below.refl _ A).alloc (Nat.le_refl _) _).alloc (by simp) _) ⟨_, _, by omega, by simp; omega, (SetAt.new A t1 t2).below (by simp) ((Below.refl _ _).alloc (Nat.le_refl _) _), SetAt.new _ t3 t4, by simp⟩
  case body =>
    rintro l' pre t a' A ⟨v, hbx, hrow, hnil, hwA⟩ ⟨post, hpost⟩ hszA ⟨b4, b5, hb4, hb5, h4, h5, rfl⟩
    have hlen : pre.length + 1 ≤ 129 := by rw [hpost] at hTl; simp at hTl; omega
    have hflat : (pre ++ [t]).flatMap (cut4 L) = pre.flatMap (cut4 L) ++ [.int .u64 ((ofN (L.take t)).1 : Nat), .int .u64 ((ofN (L.take t)).2 : Nat), .int .u64 ((ofN (L.drop t)).1 : Nat), .int .u64 ((ofN (L.drop t)).2 : Nat)] := by rw [List.flatMap_append]; simp [cut4]
    have HFL := Lib.hid hflat
    clear hflat hpost hTl
    have e0 := h4.fst
    have e1 := h4.snd
    have e2 := h5.fst
    have e3 := h5.snd
    have g0 := hbx.cell
    have g1 := hbx.frozen
    have hle := hwA.size
    gi_wp2_with (gi_at_builtin; refine wpListIn_append_own _ rfl _ _ 36 rfl D 57 i0 (.agg #[.int .u64 0, .int .u64 0, .int .u64 0, .int .u64 0]) 4 32 Tryd.underlying36 hi0 hz0 hzs1 hzs2 rfl (by decide) _ _ _ rfl (hrow.alloc _) ⟨A.heap.size, 0, none⟩ 1 1 [.int .u64 ((ofN (L.take t)).1 : Nat), .int .u64 ((ofN (L.take t)).2 : Nat), .int .u64 ((ofN (L.drop t)).1 : Nat), .int .u64 ((ofN (L.drop t)).2 : Nat)] rfl rfl (cell_four_new _ _ _ _ _ _) (by simp [Value.oneCell']) (by unfold maxLen; omega) (by omega) (by simp; omega) ?_; intro v' w1 hown' hgrow _; obtain ⟨g', cap', rfl⟩ := ownsRow_succ hown'; obtain ⟨hv1, hv2, hr2, hk2, hb2⟩ := hbx.appended (by decide) hrow (by omega) (by omega) hown' hgrow; have hc1 := hv1.cell; have hf1 := hv1.frozen)
    refine ⟨kr_appended hbx (fun _ _ => notN_of (by decide) (by decide) (by decide)) (fun _ _ => notN_of (by decide) (by decide) (by decide)) hrow hgrow, _, hv2, ?_, fun h => absurd h (by simp), hwA.trans hb2⟩
    rw [HFL.out, List.length_append, List.length_singleton]
    exact hr2
  case done =>
    rintro D2 A hD2 ⟨v, hbx, hrow, hnil, hwA⟩ hK
    have g0 := hbx.cell
    gi_wp2_with fail
    refine ⟨by simp, .inl ⟨_, _, rfl, run_takeDeferred hK, ?_⟩⟩
    have hst := Rn.Step.putObj (n₁ := E + 1) (b := E + 1) A _ (.deferred none) (by omega) (by omega) hK rfl
    exact ⟨_, results_tmp2 rfl _ _ _, ⟨v, rfl, D, ownsRow_putObj hrow _ hK rfl, hnil⟩, hwA.trans (hst.below.mono (by omega))⟩
  case stop => rintro D2 k pre A _ _ h; exact h.elim
end Go.Proofs.YtinopmdefndhoaaDoor
/- A region that draws its order, makes boxes of its own and stores into each of them once: what has come up stays right; boxes lie apart. -/
namespace Go.Proofs.YtinopmdefndhoaaDoor
open Go Go.RowKit Go.Shelf

section
variable {P : Program} {ops : Array Oper} {Q : Exit → Act → World → Prop} {F : (Nat → Value) → Act}

/-- D: the region's boxes lie from D on. bx j: number j makes a box (z at first), into which number s stores c. -/
structure BxI (ops : Array Oper) (D : Nat) (R : World → Prop) (Inv : Nat → Value → Prop) (T : TypeId) (z : Array Value) (bx : Nat → Option (Nat × Array Value)) (L : Nat → Bool) (ys : Nat → Value) (W : World) : Prop where
  rel : R W
  vals : ∀ j, j < ops.size → L j = true → Inv j (ys j)
  box : ∀ j s c, bx j = some (s, c) → L j = true → ∃ b, ys j = .pointer (some ⟨b, 0, none⟩) ∧ D ≤ b ∧ W.heap[b]? = some (.cells (if L s = true then c else z) T)
  apart : ∀ i j p q, bx i = some p → bx j = some q → i ≠ j → L i = true → L j = true → ys i ≠ ys j
  clo : ∀ j o, ops[j]? = some o → L j = true → ∀ e ∈ o.after, Region.binds .any e = true → L e.on = true

variable {D : Nat} {R : World → Prop} {Inv : Nat → Value → Prop} {T : TypeId} {z : Array Value} {bx : Nat → Option (Nat × Array Value)}

theorem BxI.start {ys : Nat → Value} {w : World} (hb : ∀ j s c, bx j = some (s, c) → j < ops.size) (hr : R w) : BxI ops D R Inv T z bx (fun i => decide (ops.size ≤ i)) ys w where
  rel := hr
  vals := fun j hj hL => by have := of_decide_eq_true hL; omega
  box := fun j s c h hL => by have := of_decide_eq_true hL; have := hb j s c h; omega
  apart := fun i j p q hi _ _ hL _ => by have := of_decide_eq_true hL; have := hb i p.1 p.2 hi; omega
  clo := fun j o ho hL => by have := of_decide_eq_true hL; have := (Array.getElem?_eq_some_iff.1 ho).1; omega

theorem SlotStep.boxV (hR : ∀ A B : World, Below A.heap.size A B → R A → R B) {i : Nat} {o : Oper} (ho : ops[i]? = some o) (h0 : bx i = none) (hs : ∀ j s c, bx j = some (s, c) → s ≠ i)
    (h : ∀ (ys : Nat → Value) (w : World), R w → (∀ j, waitsB .any o j = true → j < ops.size → Inv j (ys j)) →
      ∀ K : Act → World → Prop, (∀ v w', Below w.heap.size w w' → Inv i v → K (F (upd ys i v)) w') →
        if Region.wanted o (yielded ops (F ys).tmps) = true then Oper.wp P o (F ys) w K Q else K ((F ys).put o.dst undef) w) :
    SlotStep P .any ops Q F (BxI ops D R Inv T z bx) i o := by
  intro L ys w _ ha hI K hK
  refine h ys w hI.rel (fun j hw hj => hI.vals j hj (waits_at ha hw)) K (fun v w' hb hv => hK v w' ⟨hR _ _ hb hI.rel, fun j hj hL => ?_, fun j s c hj hL => ?_, fun k j p q hk hj hkj hL1 hL2 => ?_, clo_upd ho ha hI.clo⟩)
  · by_cases hji : j = i
    · subst hji; rw [upd_same]; exact hv
    · rw [upd_ne _ _ hji] at hL ⊢; exact hI.vals j hj hL
  · have hji : j ≠ i := fun e => by subst e; rw [h0] at hj; cases hj
    rw [upd_ne _ _ hji] at hL ⊢
    rw [upd_ne _ _ (hs j s c hj)]
    obtain ⟨b, h1, h2, h3⟩ := hI.box j s c hj hL
    exact ⟨b, h1, h2, (hb.block b (Array.getElem?_eq_some_iff.1 h3).1).trans h3⟩
  · have e1 : k ≠ i := fun e => by subst e; rw [h0] at hk; cases hk
    have e2 : j ≠ i := fun e => by subst e; rw [h0] at hj; cases hj
    rw [upd_ne _ _ e1] at hL1 ⊢
    rw [upd_ne _ _ e2] at hL2 ⊢
    exact hI.apart k j p q hk hj hkj hL1 hL2

theorem SlotStep.boxA (hR : ∀ A B : World, Below A.heap.size A B → R A → R B) (hD : ∀ A : World, R A → D ≤ A.heap.size) {i s : Nat} {c : Array Value} {o o' : Oper} (ho : ops[i]? = some o) (hb : bx i = some (s, c)) (ho' : ops[s]? = some o') (hw : waitsB .any o' i = true) (hs : ∀ j s' c', bx j = some (s', c') → s' ≠ i)
    (hv : ∀ v, Inv i v)
    (h : ∀ (ys : Nat → Value) (w : World), R w → ∀ K : Act → World → Prop, K (F (upd ys i (.pointer (some ⟨w.heap.size, 0, none⟩)))) (w.alloc (.cells z T)) →
        if Region.wanted o (yielded ops (F ys).tmps) = true then Oper.wp P o (F ys) w K Q else K ((F ys).put o.dst undef) w) :
    SlotStep P .any ops Q F (BxI ops D R Inv T z bx) i o := by
  intro L ys w hn ha hI K hK
  have hls : L s = false := by
    cases e : L s with
    | false => rfl
    | true => rw [waits_at (hI.clo s o' ho' e) hw] at hn; cases hn
  have hbel : Below w.heap.size w (w.alloc (.cells z T)) := (Below.refl _ _).alloc (Nat.le_refl _) _
  refine h ys w hI.rel K (hK _ _ ⟨hR _ _ hbel hI.rel, fun j hj hL => ?_, fun j s' c' hj hL => ?_, fun k j p q hk hj hkj hL1 hL2 => ?_, clo_upd ho ha hI.clo⟩)
  · by_cases hji : j = i
    · subst hji; exact hv _
    · rw [upd_ne _ _ hji] at hL ⊢; exact hI.vals j hj hL
  · rw [upd_ne _ _ (hs j s' c' hj)]
    by_cases hji : j = i
    · subst hji
      rw [hb] at hj
      cases hj
      rw [upd_same, hls]
      exact ⟨w.heap.size, rfl, hD _ hI.rel, World.alloc_heap_new w _⟩
    · rw [upd_ne _ _ hji] at hL ⊢
      obtain ⟨b, h1, h2, h3⟩ := hI.box j s' c' hj hL
      exact ⟨b, h1, h2, (hbel.block b (Array.getElem?_eq_some_iff.1 h3).1).trans h3⟩
  · have old : ∀ j q, bx j = some q → L j = true → ys j ≠ .pointer (some ⟨w.heap.size, 0, none⟩) := fun j q hj hL e => by
      obtain ⟨b, h1, _, h3⟩ := hI.box j q.1 q.2 hj hL
      rw [h1] at e
      cases e
      have := (Array.getElem?_eq_some_iff.1 h3).1
      omega
    by_cases e1 : k = i
    · subst e1
      have e2 : j ≠ k := Ne.symm hkj
      rw [upd_same, upd_ne _ _ e2]
      rw [upd_ne _ _ e2] at hL2
      exact (old j q hj hL2).symm
    · rw [upd_ne _ _ e1] at hL1 ⊢
      by_cases e2 : j = i
      · subst e2
        rw [upd_same]
        exact old k p hk hL1
      · rw [upd_ne _ _ e2] at hL2 ⊢
        exact hI.apart k j p q hk hj hkj hL1 hL2

theorem SlotStep.boxS (hR : ∀ A B : World, Below D A B → R A → R B) {i j : Nat} {c : Array Value} {o : Oper} (ho : ops[i]? = some o) (hb : bx j = some (i, c)) (h0 : bx i = none) (hs : ∀ k s c', bx k = some (s, c') → s = i → k = j) (hw : waitsB .any o j = true) (hv : ∀ v, Inv i v)
    (h : ∀ (ys : Nat → Value) (w : World) (b : Nat), R w → (∀ k, waitsB .any o k = true → k < ops.size → Inv k (ys k)) → ys j = .pointer (some ⟨b, 0, none⟩) → D ≤ b → w.heap[b]? = some (.cells z T) →
      ∀ K : Act → World → Prop, (∀ v w', Below D w w' → w'.heap[b]? = some (.cells c T) → (∀ k, k ≠ b → w'.heap[k]? = w.heap[k]?) → K (F (upd ys i v)) w') →
        if Region.wanted o (yielded ops (F ys).tmps) = true then Oper.wp P o (F ys) w K Q else K ((F ys).put o.dst undef) w) :
    SlotStep P .any ops Q F (BxI ops D R Inv T z bx) i o := by
  intro L ys w hn ha hI K hK
  have hLj : L j = true := waits_at ha hw
  obtain ⟨b, h1, h2, h3⟩ := hI.box j i c hb hLj
  rw [if_neg (by rw [hn]; exact Bool.false_ne_true)] at h3
  refine h ys w b hI.rel (fun k hk hkn => hI.vals k hkn (waits_at ha hk)) h1 h2 h3 K (fun v w' hbel hc hoth => hK v w' ⟨hR _ _ hbel hI.rel, fun k hk hL => ?_, fun k s c' hk hL => ?_, fun k l p q hk hl hkl hL1 hL2 => ?_, clo_upd ho ha hI.clo⟩)
  · by_cases hki : k = i
    · subst hki; exact hv _
    · rw [upd_ne _ _ hki] at hL ⊢; exact hI.vals k hk hL
  · have hki : k ≠ i := fun e => by subst e; rw [h0] at hk; cases hk
    rw [upd_ne _ _ hki] at hL ⊢
    by_cases hkj : k = j
    · subst hkj
      rw [hb] at hk
      cases hk
      rw [upd_same]
      exact ⟨b, h1, h2, hc⟩
    · have hsi : s ≠ i := fun e => hkj (hs k s c' hk e)
      rw [upd_ne _ _ hsi]
      obtain ⟨b', k1, k2, k3⟩ := hI.box k s c' hk hL
      refine ⟨b', k1, k2, ?_⟩
      have hne : b' ≠ b := fun e => by
        subst e
        exact hI.apart k j _ _ hk hb hkj hL hLj (k1.trans h1.symm)
      rw [hoth b' hne]
      exact k3
  · have e1 : k ≠ i := fun e => by subst e; rw [h0] at hk; cases hk
    have e2 : l ≠ i := fun e => by subst e; rw [h0] at hl; cases hl
    rw [upd_ne _ _ e1] at hL1 ⊢
    rw [upd_ne _ _ e2] at hL2 ⊢
    exact hI.apart k l p q hk hl hkl hL1 hL2
end
end Go.Proofs.YtinopmdefndhoaaDoor
/- Plain mathematics of moving sets of notes. -/
namespace Go.Proofs.YtinopmdefndhoaaDoor.Ns

def shl (a k : Nat) : Nat := a * 2 ^ k % 2 ^ 64
theorem shl_lt (a k : Nat) : shl a k < 18446744073709551616 := Nat.mod_lt _ (by decide)
theorem shr_lt {a : Nat} (k : Nat) (h : a < 18446744073709551616) : a / 2 ^ k < 18446744073709551616 := Nat.lt_of_le_of_lt (Nat.div_le_self _ _) h
theorem shl_testBit (a k i : Nat) (hi : i < 64) : (shl a k).testBit i = (decide (k ≤ i) && a.testBit (i - k)) := by
  unfold shl
  rw [Nat.testBit_mod_two_pow, Nat.testBit_mul_two_pow]
  simp [hi]

def upLo (lo k : Nat) : Nat := if 64 ≤ k then 0 else shl lo k
def upHi (lo hi k : Nat) : Nat := if 64 ≤ k then shl lo (k - 64) else shl hi k ||| lo / 2 ^ (64 - k)
def dnLo (lo hi k : Nat) : Nat := if 64 ≤ k then hi / 2 ^ (k - 64) else lo / 2 ^ k ||| shl hi (64 - k)
def dnHi (hi k : Nat) : Nat := if 64 ≤ k then 0 else hi / 2 ^ k

theorem up_lt (lo hi k : Nat) (hl : lo < 18446744073709551616) : upLo lo k < 18446744073709551616 ∧ upHi lo hi k < 18446744073709551616 := by
  unfold upLo upHi
  split
  · exact ⟨by decide, shl_lt _ _⟩
  · exact ⟨shl_lt _ _, or_lt (shl_lt _ _) (shr_lt _ hl)⟩
theorem dn_lt (lo hi k : Nat) (hl : lo < 18446744073709551616) (hh : hi < 18446744073709551616) : dnLo lo hi k < 18446744073709551616 ∧ dnHi hi k < 18446744073709551616 := by
  unfold dnLo dnHi
  split
  · exact ⟨shr_lt _ hh, by decide⟩
  · exact ⟨or_lt (shr_lt _ hl) (shl_lt _ _), shr_lt _ hh⟩

theorem has_up (lo hi k m : Nat) (hl : lo < 18446744073709551616) (hk : k < 128) (hm : m < 128) : has (upLo lo k) (upHi lo hi k) m = (decide (k ≤ m) && has lo hi (m - k)) := by
  unfold has upLo upHi
  by_cases h1 : 64 ≤ k
  · by_cases h2 : m < 64
    · simp [h1, h2]; omega
    · rw [if_neg h2, if_pos h1, shl_testBit _ _ _ (by omega), if_pos (by omega : m - k < 64)]
      rw [show m - 64 - (k - 64) = m - k by omega]
      congr 1
      rw [decide_eq_decide]; omega
  · by_cases h2 : m < 64
    · rw [if_pos h2, if_neg h1, shl_testBit _ _ _ h2, if_pos (by omega : m - k < 64)]
    · rw [if_neg h2, if_neg h1, Nat.testBit_or, shl_testBit _ _ _ (by omega), Nat.testBit_div_two_pow, show m - 64 + (64 - k) = m - k by omega]
      by_cases h3 : m - k < 64
      · rw [if_pos h3]
        simp [show ¬ k ≤ m - 64 by omega, show k ≤ m by omega]
      · rw [if_neg h3, testBit_ge hl (by omega : 64 ≤ m - k), show m - 64 - k = m - k - 64 by omega]
        simp [show k ≤ m - 64 by omega, show k ≤ m by omega]

theorem has_dn (lo hi k m : Nat) (hl : lo < 18446744073709551616) (hh : hi < 18446744073709551616) (hk : k < 128) (hm : m < 128) : has (dnLo lo hi k) (dnHi hi k) m = has lo hi (m + k) := by
  unfold has dnLo dnHi
  by_cases h1 : 64 ≤ k
  · by_cases h2 : m < 64
    · rw [if_pos h2, if_pos h1, Nat.testBit_div_two_pow, if_neg (by omega), show m + (k - 64) = m + k - 64 by omega]
    · rw [if_neg h2, if_pos h1, if_neg (by omega), testBit_ge hh (by omega)]
      exact Nat.zero_testBit _
  · by_cases h2 : m < 64
    · rw [if_pos h2, if_neg h1, Nat.testBit_or, Nat.testBit_div_two_pow, shl_testBit _ _ _ h2]
      by_cases h3 : m + k < 64
      · rw [if_pos h3]
        simp [show ¬ 64 - k ≤ m by omega]
      · rw [if_neg h3, testBit_ge hl (by omega : 64 ≤ m + k), show m - (64 - k) = m + k - 64 by omega]
        simp [show 64 - k ≤ m by omega]
    · rw [if_neg h2, if_neg h1, if_neg (by omega), Nat.testBit_div_two_pow, show m - 64 + k = m + k - 64 by omega]

/-- Whether a moved set has a note. -/
def movedB (lo hi : Nat) (by_ : Int) (k m : Nat) : Bool := decide (0 ≤ (m : Int) - by_ ∧ (m : Int) - by_ < k) && has lo hi ((m : Int) - by_).toNat

/-- The words of a moved set. -/
def shLo (lo hi : Nat) (b : Int) : Nat := if b < -127 ∨ 127 < b then 0 else if b < 0 then dnLo lo hi (-b).toNat else upLo lo b.toNat
def shHi (lo hi : Nat) (b : Int) : Nat := if b < -127 ∨ 127 < b then 0 else if b < 0 then dnHi hi (-b).toNat else upHi lo hi b.toNat
theorem sh_lt (lo hi : Nat) (b : Int) (hl : lo < 18446744073709551616) (hh : hi < 18446744073709551616) : shLo lo hi b < 18446744073709551616 ∧ shHi lo hi b < 18446744073709551616 := by
  unfold shLo shHi
  split
  · exact ⟨by decide, by decide⟩
  · split
    · exact dn_lt lo hi _ hl hh
    · exact up_lt lo hi _ hl
theorem has_ge {lo hi n : Nat} (hh : hi < 18446744073709551616) (h : 128 ≤ n) : has lo hi n = false := by
  unfold has; rw [if_neg (by omega)]; exact testBit_ge hh (by omega)
theorem has_sh (lo hi m : Nat) (b : Int) (hl : lo < 18446744073709551616) (hh : hi < 18446744073709551616) (hm : m < 128) : has (shLo lo hi b) (shHi lo hi b) m = movedB lo hi b 128 m := by
  unfold shLo shHi movedB
  by_cases h1 : b < -127 ∨ 127 < b
  · rw [if_pos h1, if_pos h1]
    have e : has 0 0 m = false := by unfold has; split <;> exact Nat.zero_testBit _
    rw [e]
    simp
    intro h2 h3
    omega
  · rw [if_neg h1, if_neg h1]
    by_cases h2 : b < 0
    · rw [if_pos h2, if_pos h2, has_dn lo hi _ m hl hh (by omega) hm]
      by_cases h3 : (m : Int) - b < 128
      · rw [show ((m : Int) - b).toNat = m + (-b).toNat by omega]
        simp [h3]; intro; omega
      · rw [has_ge hh (by omega : 128 ≤ m + (-b).toNat)]
        simp [h3]
    · rw [if_neg h2, if_neg h2, has_up lo hi _ m hl (by omega) hm, show ((m : Int) - b).toNat = m - b.toNat by omega]
      congr 1
      rw [decide_eq_decide]; omega

theorem moved_zero (lo hi : Nat) (b : Int) (m : Nat) : movedB lo hi b 0 m = false := by
  unfold movedB
  simp
  intro h1 h2; omega
theorem moved_hit (lo hi ol oh : Nat) (b : Int) (k x : Nat) (hx : x < 128) (e : (x : Int) = k + b) (h : has lo hi k = true) (hI : ∀ m, m < 128 → has ol oh m = movedB lo hi b k m) :
    ∀ m, m < 128 → has (ol ||| sLo x) (oh ||| sHi x) m = movedB lo hi b (k + 1) m := fun m hm => by
  rw [has_or, hI m hm, has_single x m hx hm]
  unfold movedB
  by_cases hmx : x = m
  · subst hmx
    rw [show ((x : Int) - b).toNat = k by omega, h]
    simp; omega
  · have : decide (0 ≤ (m : Int) - b ∧ (m : Int) - b < k) = decide (0 ≤ (m : Int) - b ∧ (m : Int) - b < (k + 1 : Nat)) := by rw [decide_eq_decide]; omega
    rw [this]; simp [hmx]
theorem moved_miss (lo hi : Nat) (b : Int) (k : Nat) (h : ¬ (has lo hi k = true ∧ 0 ≤ (k : Int) + b ∧ (k : Int) + b ≤ 127)) (m : Nat) (hm : m < 128) : movedB lo hi b (k + 1) m = movedB lo hi b k m := by
  unfold movedB
  by_cases e : (m : Int) = k + b
  · have hh : has lo hi k = false := by
      cases hc : has lo hi k with
      | false => rfl
      | true => exact absurd ⟨hc, by omega, by omega⟩ h
    rw [show ((m : Int) - b).toNat = k by omega, hh]
    simp
  · have : decide (0 ≤ (m : Int) - b ∧ (m : Int) - b < k) = decide (0 ≤ (m : Int) - b ∧ (m : Int) - b < (k + 1 : Nat)) := by rw [decide_eq_decide]; omega
    rw [this]
end Go.Proofs.YtinopmdefndhoaaDoor.Ns
