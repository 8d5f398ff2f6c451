/- The walk of Least. -/
import Derived.Test.YtinopmdefndhoaaDoorSpW
namespace Go.Proofs.YtinopmdefndhoaaDoor
open Go Go.RowKit Go.Shelf
attribute [local go_sem] Oper.semAt_some
attribute [local go_sem] wide_fn wide_depth

/-- An int and a bool are written. -/
def setIB (w : World) (k : Nat) (x : Int) (b : Bool) : World := (w.setCell ⟨k, 0, none⟩ (.int .i64 x)).setCell ⟨k + 1, 0, none⟩ (.bool b)
theorem setIB_heap (w : World) (k : Nat) (x : Int) (b : Bool) {j : Nat} (h : j ≠ k ∧ j ≠ k + 1) : (setIB w k x b).heap[j]? = w.heap[j]? := by
  unfold setIB
  rw [heap_set h.2, heap_set h.1]
theorem setIB_size (w : World) (k : Nat) (x : Int) (b : Bool) : (setIB w k x b).heap.size = w.heap.size := by simp [setIB, World.setCell]
theorem setIB_below (w : World) (k : Nat) (x : Int) (b : Bool) {D : Nat} (h : D ≤ k) : Below D w (setIB w k x b) :=
  ((Below.refl D w).setCell (p := ⟨k, 0, none⟩) h _).setCell (p := ⟨k + 1, 0, none⟩) (by show D ≤ k + 1; omega) _
theorem setIB_kr (w : World) (k : Nat) (x : Int) (b : Bool) {n₁ c : Nat} (h : k + 1 < n₁) (hb : n₁ ≤ c) : Rn.Kr n₁ c w (setIB w k x b) :=
  ⟨by rw [setIB_size]; exact Nat.le_refl _, fun j o hj hc => (setIB_heap w k x b (by rcases hc with ⟨hc, _⟩ | ⟨hc, _⟩ <;> omega)).trans hj⟩
theorem setIB_int {w : World} {k : Nat} {y : Int} (h : IntAt w k y) (x : Int) (b : Bool) : IntAt (setIB w k x b) k x := (h.set x).set' (by omega)
theorem setIB_bool {w : World} {k : Nat} {c : Bool} (h : BoolAt w (k + 1) c) (x : Int) (b : Bool) : BoolAt (setIB w k x b) (k + 1) b := (h.set' (by omega)).set b
theorem wdX_take (L : List Nat) (t : Nat) : wdX (nth (L.take t)) t = wdX (nth L) t := by
  unfold wdX
  by_cases h : t = 0
  · rw [if_pos h, if_pos h]
  · rw [if_neg h, if_neg h, nth_take L t _ (by omega), nth_take L t _ (by omega)]
theorem wdX_drop (L : List Nat) (t n : Nat) : wdX (nth (L.drop t)) n = wdX (fun j => nth L (t + j)) n := by
  unfold wdX
  simp only [nth_drop]
theorem intAt_put {w : World} {b k : Nat} {x : Int} {o : Obj} (o' : Obj) (h : IntAt w b x) (hk : w.heap[k]? = some o) (ho : o.isCells = false) : IntAt (w.putObj k o') b x :=
  (World.putObj_heap_other (fun e => by subst e; rw [show w.heap[b]? = _ from h] at hk; cases hk; cases ho)).trans h

def lsA (D : Nat) (a : Int) (t1 t2 _t3 _t4 t _r : Nat) : Nat → Value → World → Prop
  | 0, v, _ => v = .agg #[.int .u64 t1, .int .u64 t2]
  | 1, v, _ => v = .int .i64 (t : Nat)
  | 2, v, _ => v = .pointer (some ⟨D, 0, none⟩)
  | 3, v, _ => v = .int .i64 a
  | 4, v, _ => v = .bool true
  | 5, v, _ => v = .bool true
  | 6, v, _ => v = undef
  | 7, v, _ => v = undef
  | 8, v, _ => v = undef
  | 9, v, _ => v = undef
  | 10, v, _ => v = undef
  | 11, v, _ => v = .bool true
  | _, _, _ => True

theorem lsA_up (D : Nat) (a : Int) (t1 t2 t3 t4 t r : Nat) : ∀ (j : Nat) (v : Value) (A B : World), Below A.heap.size A B → lsA D a t1 t2 t3 t4 t r j v A → lsA D a t1 t2 t3 t4 t r j v B
  | 0, _, _, _, _, h => h
  | 1, _, _, _, _, h => h
  | 2, _, _, _, _, h => h
  | 3, _, _, _, _, h => h
  | 4, _, _, _, _, h => h
  | 5, _, _, _, _, h => h
  | 6, _, _, _, _, h => h
  | 7, _, _, _, _, h => h
  | 8, _, _, _, _, h => h
  | 9, _, _, _, _, h => h
  | 10, _, _, _, _, h => h
  | 11, _, _, _, _, h => h
  | _ + 12, _, _, _, _, _ => trivial

def lsB (D : Nat) (a : Int) (t1 t2 t3 t4 t r : Nat) : Nat → Value → World → Prop
  | 0, v, _ => v = .agg #[.int .u64 t1, .int .u64 t2]
  | 1, v, _ => v = .int .i64 (t : Nat)
  | 2, v, _ => v = .pointer (some ⟨D, 0, none⟩)
  | 3, v, _ => v = .int .i64 a
  | 4, v, _ => v = .bool false
  | 5, v, _ => v = .bool false
  | 6, v, _ => v = .agg #[.int .u64 t3, .int .u64 t4]
  | 7, v, _ => v = .int .i64 (r : Nat)
  | 8, v, _ => v = .pointer (some ⟨D, 0, none⟩)
  | 9, v, _ => v = .int .i64 a
  | 10, v, _ => v = .bool true
  | 11, v, _ => v = .bool true
  | _, _, _ => True

theorem lsB_up (D : Nat) (a : Int) (t1 t2 t3 t4 t r : Nat) : ∀ (j : Nat) (v : Value) (A B : World), Below A.heap.size A B → lsB D a t1 t2 t3 t4 t r j v A → lsB D a t1 t2 t3 t4 t r j v B
  | 0, _, _, _, _, h => h
  | 1, _, _, _, _, h => h
  | 2, _, _, _, _, h => h
  | 3, _, _, _, _, h => h
  | 4, _, _, _, _, h => h
  | 5, _, _, _, _, h => h
  | 6, _, _, _, _, h => h
  | 7, _, _, _, _, h => h
  | 8, _, _, _, _, h => h
  | 9, _, _, _, _, h => h
  | 10, _, _, _, _, h => h
  | 11, _, _, _, _, h => h
  | _ + 12, _, _, _, _, _ => trivial

def lsC (D : Nat) (a : Int) (t1 t2 t3 t4 t r : Nat) : Nat → Value → World → Prop
  | 0, v, _ => v = .agg #[.int .u64 t1, .int .u64 t2]
  | 1, v, _ => v = .int .i64 (t : Nat)
  | 2, v, _ => v = .pointer (some ⟨D, 0, none⟩)
  | 3, v, _ => v = .int .i64 a
  | 4, v, _ => v = .bool false
  | 5, v, _ => v = .bool false
  | 6, v, _ => v = .agg #[.int .u64 t3, .int .u64 t4]
  | 7, v, _ => v = .int .i64 (r : Nat)
  | 8, v, _ => v = .pointer (some ⟨D, 0, none⟩)
  | 9, v, _ => v = .int .i64 a
  | 10, v, _ => v = .bool false
  | 11, v, _ => v = .bool false
  | _, _, _ => True

theorem lsC_up (D : Nat) (a : Int) (t1 t2 t3 t4 t r : Nat) : ∀ (j : Nat) (v : Value) (A B : World), Below A.heap.size A B → lsC D a t1 t2 t3 t4 t r j v A → lsC D a t1 t2 t3 t4 t r j v B
  | 0, _, _, _, _, h => h
  | 1, _, _, _, _, h => h
  | 2, _, _, _, _, h => h
  | 3, _, _, _, _, h => h
  | 4, _, _, _, _, h => h
  | 5, _, _, _, _, h => h
  | 6, _, _, _, _, h => h
  | 7, _, _, _, _, h => h
  | 8, _, _, _, _, h => h
  | 9, _, _, _, _, h => h
  | 10, _, _, _, _, h => h
  | 11, _, _, _, _, h => h
  | _ + 12, _, _, _, _, _ => trivial

def lsW (t1 t2 t3 t4 : Nat) (wl wr : Int) : Nat → Value → World → Prop
  | 0, v, _ => v = .agg #[.int .u64 t1, .int .u64 t2]
  | 1, v, _ => v = .int .i64 wl
  | 2, v, _ => v = .agg #[.int .u64 t3, .int .u64 t4]
  | 3, v, _ => v = .int .i64 wr
  | 4, v, _ => v = .int .i64 (max wl wr)
  | 5, v, _ => v = .int .i64 (max wl wr)
  | _, _, _ => True

theorem lsW_up (t1 t2 t3 t4 : Nat) (wl wr : Int) : ∀ (j : Nat) (v : Value) (A B : World), Below A.heap.size A B → lsW t1 t2 t3 t4 wl wr j v A → lsW t1 t2 t3 t4 wl wr j v B
  | 0, _, _, _, _, h => h
  | 1, _, _, _, _, h => h
  | 2, _, _, _, _, h => h
  | 3, _, _, _, _, h => h
  | 4, _, _, _, _, h => h
  | 5, _, _, _, _, h => h
  | _ + 6, _, _, _, _, _ => trivial

set_option maxRecDepth 100000 in
set_option maxHeartbeats 4000000 in
theorem least_bad (a b c d : Int) (lo hi : Nat) (hx : ¬ chk a b c d = 0) (w : World) :
    Calls Tryd.prog 19 #[.agg #[.int .i64 a, .int .i64 b, .int .i64 c, .int .i64 d], .agg #[.int .u64 lo, .int .u64 hi]] w fun e w' => e = .returned (.tuple #[.int .i64 0, .bool false, .int .i64 3]) ∧ Below w.heap.size w w' := by
  have hc := fun W => check_c a b c d W
  rw [chk_three hx] at hc
  have CC := Lib.hid hc
  clear hc hx
  obtain ⟨D, hD⟩ : ∃ D, w.heap.size = D := ⟨_, rfl⟩
  have hw1 : Below D w ((((w.alloc (.cells #[.int .i64 a, .int .i64 b, .int .i64 c, .int .i64 d] 23)).alloc (.cells #[.int .u64 lo, .int .u64 hi] 26)).alloc (.cells #[.int .i64 0] 3)).alloc (.cells #[.bool false] 4)) := ((((Below.refl _ _).alloc (by omega) _).alloc (by simp; omega) _).alloc (by simp; omega) _).alloc (by simp; omega) _
  have hI1 : IntAt ((((w.alloc (.cells #[.int .i64 a, .int .i64 b, .int .i64 c, .int .i64 d] 23)).alloc (.cells #[.int .u64 lo, .int .u64 hi] 26)).alloc (.cells #[.int .i64 0] 3)).alloc (.cells #[.bool false] 4)) (D + 1 + 1) 0 := heap_old (heap_new (by simp [hD]))
  have hB1 : BoolAt ((((w.alloc (.cells #[.int .i64 a, .int .i64 b, .int .i64 c, .int .i64 d] 23)).alloc (.cells #[.int .u64 lo, .int .u64 hi] 26)).alloc (.cells #[.int .i64 0] 3)).alloc (.cells #[.bool false] 4)) (D + 1 + 1 + 1) false := heap_new (by simp [hD])
  rw [hD]
  refine (callsIn_wide (n := 9)).1 ?_
  refine callsIn_of_wp_marks Tryd.func19 rfl trivial ?_ rfl
  simp only [Tryd.ntmps19, List.size_toArray, List.length_cons, List.length_nil, Nat.reduceAdd, Nat.reduceSub, Array.replicate_succ, Array.replicate_zero, List.push_toArray, List.append_toArray, List.nil_append, List.cons_append]
  gi_wp2_with fail
  refine (callsIn_wide.2 (CC.out _)).mono ?_
  rintro e v1 ⟨rfl, hb1⟩
  have hw2 : Below D w v1 := hw1.trans (hb1.mono (by simp; omega))
  have hI2 := hI1.below hI1.lt hb1
  have hB2 := hB1.below hB1.lt hb1
  have g0 := hI2.cell
  have g1 := hI2.free
  have g2 := hB2.cell
  have g3 := hB2.free
  clear hw1 hI1 hB1
  gi_wp2_with fail
  have hU : Below D w ((v1.setCell ⟨D + 1 + 1, 0, none⟩ (.int .i64 0)).setCell ⟨D + 1 + 1 + 1, 0, none⟩ (.bool false)) := (hw2.setCell (p := ⟨D + 1 + 1, 0, none⟩) (by show D ≤ D + 1 + 1; omega) _).setCell (p := ⟨D + 1 + 1 + 1, 0, none⟩) (by show D ≤ D + 1 + 1 + 1; omega) _
  have hI3 := (hI2.set 0).set' (k := D + 1 + 1 + 1) (o := 0) (v := .bool false) (by omega)
  have hB3 := (hB2.set' (k := D + 1 + 1) (o := 0) (v := .int .i64 0) (by omega)).set false
  clear g0 g1 g2 g3
  generalize (v1.setCell ⟨D + 1 + 1, 0, none⟩ (.int .i64 0)).setCell ⟨D + 1 + 1 + 1, 0, none⟩ (.bool false) = U at *
  have g0 := hI3.cell
  have g2 := hB3.cell
  exact ⟨.tuple #[.int .i64 0, .bool false, .int .i64 3], by simp [results, Tryd.results19, go_sem, g0, g2], rfl, hU⟩

set_option maxRecDepth 100000 in
set_option maxHeartbeats 8000000 in
theorem least_ok (a b c d : Int) (lo hi : Nat) (hl : lo < 18446744073709551616) (hh : hi < 18446744073709551616) (hx : chk a b c d = 0) (w : World) (G : Gl w) :
    Calls Tryd.prog 19 #[.agg #[.int .i64 a, .int .i64 b, .int .i64 c, .int .i64 d], .agg #[.int .u64 lo, .int .u64 hi]] w fun e w' => e = .returned (.tuple #[.int .i64 (lsF (nth (Ns.notes lo hi)) (Ns.notes lo hi).length a (List.range' 0 ((Ns.notes lo hi).length + 1))).1, .bool (lsF (nth (Ns.notes lo hi)) (Ns.notes lo hi).length a (List.range' 0 ((Ns.notes lo hi).length + 1))).2, .int .i64 0]) ∧ Below w.heap.size w w' := by
  have hc := fun W => check_c a b c d W
  rw [hx] at hc
  have CC := Lib.hid hc
  clear hc hx
  have HG := fun (n₁ n Bs : Nat) (hn : 1 ≤ n) (w : World) => cuts_gives n₁ lo hi hl hh n Bs hn w
  have HL := Lib.hid (show Ns.notes lo hi = Ns.notes lo hi from rfl)
  have h1 := fun t => take_lt lo hi t
  have h2 := fun t => drop_lt lo hi t
  have l1 := fun t (ht : t ≤ (Ns.notes lo hi).length) => (show Ns.notes (ofN ((Ns.notes lo hi).take t)).1 (ofN ((Ns.notes lo hi).take t)).2 = (Ns.notes lo hi).take t from notes_ofN _ (fun x hx => Ns.notes_lt (List.mem_of_mem_take hx)) ((notes_inc lo hi).sublist (List.take_sublist _ _)))
  have l2 := fun t => (show Ns.notes (ofN ((Ns.notes lo hi).drop t)).1 (ofN ((Ns.notes lo hi).drop t)).2 = (Ns.notes lo hi).drop t from notes_ofN _ (fun x hx => Ns.notes_lt (List.mem_of_mem_drop hx)) ((notes_inc lo hi).sublist (List.drop_sublist _ _)))
  generalize hL : Ns.notes lo hi = L at *
  clear hL HL
  obtain ⟨D, hD⟩ : ∃ D, w.heap.size = D := ⟨_, rfl⟩
  rw [hD]
  have hw1 : Below D w ((((w.alloc (.cells #[.int .i64 a, .int .i64 b, .int .i64 c, .int .i64 d] 23)).alloc (.cells #[.int .u64 lo, .int .u64 hi] 26)).alloc (.cells #[.int .i64 0] 3)).alloc (.cells #[.bool false] 4)) := ((((Below.refl _ _).alloc (by omega) _).alloc (by simp; omega) _).alloc (by simp; omega) _).alloc (by simp; omega) _
  have hP1 : PlAt ((((w.alloc (.cells #[.int .i64 a, .int .i64 b, .int .i64 c, .int .i64 d] 23)).alloc (.cells #[.int .u64 lo, .int .u64 hi] 26)).alloc (.cells #[.int .i64 0] 3)).alloc (.cells #[.bool false] 4)) D a b c d := heap_old (heap_old (heap_old (heap_new hD.symm)))
  have hS1 : SetAt ((((w.alloc (.cells #[.int .i64 a, .int .i64 b, .int .i64 c, .int .i64 d] 23)).alloc (.cells #[.int .u64 lo, .int .u64 hi] 26)).alloc (.cells #[.int .i64 0] 3)).alloc (.cells #[.bool false] 4)) (D + 1) lo hi := heap_old (heap_old (heap_new (by simp [hD])))
  have hI1 : IntAt ((((w.alloc (.cells #[.int .i64 a, .int .i64 b, .int .i64 c, .int .i64 d] 23)).alloc (.cells #[.int .u64 lo, .int .u64 hi] 26)).alloc (.cells #[.int .i64 0] 3)).alloc (.cells #[.bool false] 4)) (D + 1 + 1) 0 := heap_old (heap_new (by simp [hD]))
  have hB1 : BoolAt ((((w.alloc (.cells #[.int .i64 a, .int .i64 b, .int .i64 c, .int .i64 d] 23)).alloc (.cells #[.int .u64 lo, .int .u64 hi] 26)).alloc (.cells #[.int .i64 0] 3)).alloc (.cells #[.bool false] 4)) (D + 1 + 1 + 1) false := heap_new (by simp [hD])
  refine (callsIn_wide (n := 9)).1 ?_
  refine callsIn_of_wp_marks Tryd.func19 rfl trivial ?_ rfl
  simp only [Tryd.ntmps19, List.size_toArray, List.length_cons, List.length_nil, Nat.reduceAdd, Nat.reduceSub, Array.replicate_succ, Array.replicate_zero, List.push_toArray, List.append_toArray, List.nil_append, List.cons_append]
  gi_wp2_with fail
  refine (callsIn_wide.2 (CC.out _)).mono ?_
  rintro e v1 ⟨rfl, hb1⟩
  have hw2 : Below D w v1 := hw1.trans (hb1.mono (by simp; omega))
  have hP2 := hP1.below hP1.lt hb1
  have hS2 := hS1.below hS1.lt hb1
  have hI2 := hI1.below hI1.lt hb1
  have hB2 := hB1.below hB1.lt hb1
  have hz1 := hb1.size
  simp only [World.size_alloc, hD] at hz1
  clear hw1 hP1 hS1 hI1 hB1 hb1
  obtain ⟨E, hE⟩ : ∃ E, v1.heap.size = E := ⟨_, rfl⟩
  rw [hE] at hz1
  have e0 := hS2.fst
  have e1 := hS2.snd
  gi_wp2_with fail
  refine (callsIn_wide.2 (cuts_c lo hi _)).mono ?_
  rintro e w' ⟨rfl, rfl⟩
  clear e0 e1
  obtain ⟨V, hV⟩ : ∃ V, v1.alloc (.cells #[.int .u64 lo, .int .u64 hi] 26) = V := ⟨_, rfl⟩
  have hzV : V.heap.size = E + 1 := by rw [← hV]; simp [hE]
  have hb0 : Below v1.heap.size v1 V := by rw [← hV]; exact (Below.refl _ _).alloc (Nat.le_refl _) _
  have hwV : Below D w V := hw2.trans (hb0.mono (by omega))
  have hSV : SetAt V E lo hi := by rw [← hV]; exact heap_new hE.symm
  have hPV := hP2.below hP2.lt hb0
  have hIV := hI2.below hI2.lt hb0
  have hBV := hB2.below hB2.lt hb0
  rw [hV]
  clear hV hb0 hw2 hP2 hS2 hI2 hB2
  gi_wp2_with fail
  refine Rn.range_all rfl (by omega) (gf := 57) (lb := #[.pointer (some ⟨E, 0, none⟩)]) rfl trivial (enters_of Tryd.func57 (by kernel_rfl) rfl) (n₁ := E) (by omega)
    (HG E 8 _ (by omega) V (by omega) (by omega) hSV) (fun _ => rfl)
    (fun pre A => IntAt A (D + 1 + 1) (lsF (nth L) L.length a pre).1 ∧ BoolAt A (D + 1 + 1 + 1) (lsF (nth L) L.length a pre).2 ∧ PlAt A D a b c d ∧ Below D w A)
    (fun _ _ _ => False)
    (fun s A B ⟨q1, q2, q3, q4⟩ st => ⟨q1.below (by omega) st.below, q2.below (by omega) st.below, q3.below (by omega) st.below, q4.trans (st.below.mono (by omega))⟩)
    (fun _ _ _ _ h _ => h)
    (fun s A ⟨_, _, _, h4⟩ => G.below (by rw [hD]; exact h4))
    ⟨hIV, hBV, hPV, hwV⟩
    (fun t a' A => ∃ b4 b5, E + 1 ≤ b4 ∧ E + 1 ≤ b5 ∧ SetAt A b4 (ofN (L.take t)).1 (ofN (L.take t)).2 ∧ SetAt A b5 (ofN (L.drop t)).1 (ofN (L.drop t)).2 ∧ a' = { tmps := #[.agg #[.int .i64 a, .int .i64 b, .int .i64 c, .int .i64 d], .agg #[.int .u64 lo, .int .u64 hi], .pointer (some ⟨D, 0, none⟩), .pointer (some ⟨D + 1, 0, none⟩), .pointer (some ⟨D + 1 + 1, 0, none⟩), .pointer (some ⟨D + 1 + 1 + 1, 0, none⟩), .int .i64 0, .int .i64 0, .pointer (some ⟨b4, 0, none⟩), .pointer (some ⟨b5, 0, none⟩), undef, .agg #[.int .i64 a, .int .i64 b, .int .i64 c, .int .i64 d], .int .i64 0, .int .i64 0, .bool false, undef, .agg #[.int .u64 lo, .int .u64 hi], .func (.func 57) #[] #[.pointer (some ⟨E, 0, none⟩)], .agg #[.int .u64 ((ofN (L.take t)).1 : Nat), .int .u64 ((ofN (L.take t)).2 : Nat)], .agg #[.int .u64 ((ofN (L.drop t)).1 : Nat), .int .u64 ((ofN (L.drop t)).2 : Nat)], undef, undef, undef, undef, undef, undef, undef, undef, undef, undef, undef, undef, undef, undef, undef, undef, undef, undef, undef, undef, undef, undef, undef, undef, undef, undef, undef], defers := [] })
    (fun t a' A k o o' hk ho ⟨b4, b5, h1, h2, h4, h5, e⟩ => ⟨b4, b5, h1, h2, h4.putO o' hk ho, h5.putO o' hk ho, e⟩) ?assign ?body ?done ?stop
  case assign =>
    intro l' pre t A K _ hszA hK
    unfold cutE
    generalize (ofN (L.take t)).1 = t1 at *
    generalize (ofN (L.take t)).2 = t2 at *
    generalize (ofN (L.drop t)).1 = t3 at *
    generalize (ofN (L.drop t)).2 = t4 at *
    gi_wp2
    exact hK _ _ (((Below.refl _ A).alloc (Nat.le_refl _) _).alloc (by simp) _) ⟨_, _, by omega, by simp; omega, (SetAt.new A t1 t2).below (by simp) ((Below.refl _ _).alloc (Nat.le_refl _) _), SetAt.new _ t3 t4, by simp⟩
  case body =>
    rintro l' pre t a' A ⟨hIb, hBb, hPb, hwA⟩ ⟨post, hpost⟩ hszA ⟨b4, b5, hb4, hb5, h4, h5, rfl⟩
    have ht : t ≤ L.length := by
      have : t ∈ List.range' 0 (L.length + 1) := by rw [hpost]; simp
      have := List.mem_range'_1.1 this
      omega
    have c1 := fun W => count_below _ _ (h1 t).1 (h1 t).2 W
    have c2 := fun W => count_below _ _ (h2 t).1 (h2 t).2 W
    have w1 := fun W g => width_any _ _ (h1 t).1 (h1 t).2 W g
    have w2 := fun W g => width_any _ _ (h2 t).1 (h2 t).2 W g
    rw [← notes_pc, l1 t ht, List.length_take, Nat.min_eq_left ht] at c1
    rw [← notes_pc, l2 t, List.length_drop] at c2
    rw [l1 t ht, List.length_take, Nat.min_eq_left ht, wdX_take] at w1
    rw [l2 t, List.length_drop, wdX_drop] at w2
    have HS := Lib.hid (lsF_snoc (nth L) L.length a pre t)
    have HWX := Lib.hid (show widX (nth L) L.length t = max (wdX (nth L) t) (wdX (fun j => nth L (t + j)) (L.length - t)) from rfl)
    unfold lsStep at HS
    have GX := Lib.hid (fun (W : World) (hR : Below A.heap.size A W) => G.below (by rw [hD]; exact hwA.trans (hR.mono (by have := hwA.size; omega))))
    generalize widX (nth L) L.length t = wx at *
    generalize wdX (nth L) t = wl at *
    generalize wdX (fun j => nth L (t + j)) (L.length - t) = wr at *
    generalize L.length - t = r at *
    obtain ⟨s2, hs2⟩ : ∃ s2, lsF (nth L) L.length a (pre ++ [t]) = s2 := ⟨_, rfl⟩
    rw [hs2] at HS
    have HS2 := Lib.hid hs2
    clear hs2
    generalize lsF (nth L) L.length a pre = s1 at *
    generalize (ofN (L.take t)).1 = t1 at *
    generalize (ofN (L.take t)).2 = t2 at *
    generalize (ofN (L.drop t)).1 = t3 at *
    generalize (ofN (L.drop t)).2 = t4 at *
    have C1 := Lib.hid c1
    have C2 := Lib.hid c2
    have W1 := Lib.hid w1
    have W2 := Lib.hid w2
    clear c1 c2 w1 w2 h1 h2 l1 l2 hpost ht
    by_cases k1 : a < (t : Int)
    · have H1 := Lib.hid (decide_eq_true k1)
      have HE := Lib.hid (show s2 = s1 from by rw [HS.out, if_pos k1])
      have H2 := Lib.hid (show True from trivial)
      clear k1
      gi_wp2_with fail
      refine wpIn_region_slots_at rfl rfl (fun base ys => (((((((((((base.set 20 (ys 0)).set 21 (ys 1)).set 22 (ys 2)).set 23 (ys 3)).set 24 (ys 4)).set 25 (ys 5)).set 26 (ys 6)).set 27 (ys 7)).set 28 (ys 8)).set 29 (ys 9)).set 30 (ys 10)).set 31 (ys 11)) (BelowI _ (fun B => Below A.heap.size A B) (lsA D a t1 t2 t3 t4 t r)) (fun _ => undef) (by kernel_rfl) (below_start ((Below.refl A.heap.size A).drew)) ?h21
      case h21 =>
        intro FF hFF
        simp only [List.set_cons_succ, List.set_cons_zero] at hFF
        subst hFF
        refine ⟨rfl, ?_, ?_⟩
        refine ⟨?_, ?_⟩
        · refine SlotStepIn.below (fun X Z hb h => h.trans (hb.mono h.size)) (lsA_up D a t1 t2 t3 t4 t r) ?_
          intro ys W hR hd K hK
          have u0 := (h4.below h4.lt hR).fst
          have u1 := (h4.below h4.lt hR).snd
          go_simp
          have hK2 := hK (.agg #[.int .u64 t1, .int .u64 t2]) _ (Below.refl _ _) rfl
          simp (config := { decide := true }) only [upd, if_true, if_false] at hK2
          first | exact hK2 | exact ⟨fun _ h => (by cases h), hK2⟩ | exact ⟨by simp, hK2⟩
        refine ⟨?_, ?_⟩
        · refine SlotStepIn.below (fun X Z hb h => h.trans (hb.mono h.size)) (lsA_up D a t1 t2 t3 t4 t r) ?_
          intro ys W hR hd K hK
          have dd0 : ys 0 = (.agg #[.int .u64 t1, .int .u64 t2]) := hd 0 (by kernel_rfl) (by decide)
          go_simp
          refine (CallsIn.inRound l' (callsIn_wide.2 (C1.out W))).mono ?_
          rintro e w5 ⟨rfl, hb5⟩
          have hK2 := hK (.int .i64 (t : Nat)) _ hb5 rfl
          simp (config := { decide := true }) only [upd, if_true, if_false, dd0] at hK2
          first | exact hK2 | exact ⟨fun _ h => (by cases h), hK2⟩ | exact ⟨by simp, hK2⟩
        refine ⟨?_, ?_⟩
        · refine SlotStepIn.below (fun X Z hb h => h.trans (hb.mono h.size)) (lsA_up D a t1 t2 t3 t4 t r) ?_
          intro ys W hR hd K hK
          go_simp
          have hK2 := hK (.pointer (some ⟨D, 0, none⟩)) _ (Below.refl _ _) rfl
          simp (config := { decide := true }) only [upd, if_true, if_false] at hK2
          first | exact hK2 | exact ⟨fun _ h => (by cases h), hK2⟩ | exact ⟨by simp, hK2⟩
        refine ⟨?_, ?_⟩
        · refine SlotStepIn.below (fun X Z hb h => h.trans (hb.mono h.size)) (lsA_up D a t1 t2 t3 t4 t r) ?_
          intro ys W hR hd K hK
          have dd2 : ys 2 = (.pointer (some ⟨D, 0, none⟩)) := hd 2 (by kernel_rfl) (by decide)
          have u0 := cell4_0 (hPb.below hPb.lt hR)
          go_simp
          have hK2 := hK (.int .i64 a) _ (Below.refl _ _) rfl
          simp (config := { decide := true }) only [upd, if_true, if_false, dd2] at hK2
          first | exact hK2 | exact ⟨fun _ h => (by cases h), hK2⟩ | exact ⟨by simp, hK2⟩
        refine ⟨?_, ?_⟩
        · refine SlotStepIn.below (fun X Z hb h => h.trans (hb.mono h.size)) (lsA_up D a t1 t2 t3 t4 t r) ?_
          intro ys W hR hd K hK
          have dd1 : ys 1 = (.int .i64 (t : Nat)) := hd 1 (by kernel_rfl) (by decide)
          have dd3 : ys 3 = (.int .i64 a) := hd 3 (by kernel_rfl) (by decide)
          have hh1 : decide (a < (t : Int)) = true := H1.out
          go_simp
          have hK2 := hK (.bool true) _ (Below.refl _ _) rfl
          simp (config := { decide := true }) only [upd, if_true, if_false, dd1, dd3] at hK2
          first | exact hK2 | exact ⟨fun _ h => (by cases h), hK2⟩ | exact ⟨by simp, hK2⟩
        refine ⟨?_, ?_⟩
        · refine SlotStepIn.below (fun X Z hb h => h.trans (hb.mono h.size)) (lsA_up D a t1 t2 t3 t4 t r) ?_
          intro ys W hR hd K hK
          have dd4 : ys 4 = (.bool true) := hd 4 (by kernel_rfl) (by decide)
          go_simp
          have hK2 := hK (.bool true) _ (Below.refl _ _) rfl
          simp (config := { decide := true }) only [upd, if_true, if_false, dd4] at hK2
          first | exact hK2 | exact ⟨fun _ h => (by cases h), hK2⟩ | exact ⟨by simp, hK2⟩
        refine ⟨?_, ?_⟩
        · refine SlotStepIn.below (fun X Z hb h => h.trans (hb.mono h.size)) (lsA_up D a t1 t2 t3 t4 t r) ?_
          intro ys W hR hd K hK
          have dd5 : ys 5 = (.bool true) := hd 5 (by kernel_rfl) (by decide)
          go_simp
          have hK2 := hK (undef) _ (Below.refl _ _) rfl
          simp (config := { decide := true }) only [upd, if_true, if_false, dd5] at hK2
          first | exact hK2 | exact ⟨fun _ h => (by cases h), hK2⟩ | exact ⟨by simp, hK2⟩
        refine ⟨?_, ?_⟩
        · refine SlotStepIn.below (fun X Z hb h => h.trans (hb.mono h.size)) (lsA_up D a t1 t2 t3 t4 t r) ?_
          intro ys W hR hd K hK
          have dd5 : ys 5 = (.bool true) := hd 5 (by kernel_rfl) (by decide)
          have dd6 : ys 6 = (undef) := hd 6 (by kernel_rfl) (by decide)
          go_simp
          have hK2 := hK (undef) _ (Below.refl _ _) rfl
          simp (config := { decide := true }) only [upd, if_true, if_false, dd5, dd6] at hK2
          first | exact hK2 | exact ⟨fun _ h => (by cases h), hK2⟩ | exact ⟨by simp, hK2⟩
        refine ⟨?_, ?_⟩
        · refine SlotStepIn.below (fun X Z hb h => h.trans (hb.mono h.size)) (lsA_up D a t1 t2 t3 t4 t r) ?_
          intro ys W hR hd K hK
          have dd5 : ys 5 = (.bool true) := hd 5 (by kernel_rfl) (by decide)
          go_simp
          have hK2 := hK (undef) _ (Below.refl _ _) rfl
          simp (config := { decide := true }) only [upd, if_true, if_false, dd5] at hK2
          first | exact hK2 | exact ⟨fun _ h => (by cases h), hK2⟩ | exact ⟨by simp, hK2⟩
        refine ⟨?_, ?_⟩
        · refine SlotStepIn.below (fun X Z hb h => h.trans (hb.mono h.size)) (lsA_up D a t1 t2 t3 t4 t r) ?_
          intro ys W hR hd K hK
          have dd5 : ys 5 = (.bool true) := hd 5 (by kernel_rfl) (by decide)
          have dd8 : ys 8 = (undef) := hd 8 (by kernel_rfl) (by decide)
          go_simp
          have hK2 := hK (undef) _ (Below.refl _ _) rfl
          simp (config := { decide := true }) only [upd, if_true, if_false, dd5, dd8] at hK2
          first | exact hK2 | exact ⟨fun _ h => (by cases h), hK2⟩ | exact ⟨by simp, hK2⟩
        refine ⟨?_, ?_⟩
        · refine SlotStepIn.below (fun X Z hb h => h.trans (hb.mono h.size)) (lsA_up D a t1 t2 t3 t4 t r) ?_
          intro ys W hR hd K hK
          have dd5 : ys 5 = (.bool true) := hd 5 (by kernel_rfl) (by decide)
          have dd7 : ys 7 = (undef) := hd 7 (by kernel_rfl) (by decide)
          have dd9 : ys 9 = (undef) := hd 9 (by kernel_rfl) (by decide)
          go_simp
          have hK2 := hK (undef) _ (Below.refl _ _) rfl
          simp (config := { decide := true }) only [upd, if_true, if_false, dd5, dd7, dd9] at hK2
          first | exact hK2 | exact ⟨fun _ h => (by cases h), hK2⟩ | exact ⟨by simp, hK2⟩
        refine ⟨?_, ?_⟩
        · refine SlotStepIn.below (fun X Z hb h => h.trans (hb.mono h.size)) (lsA_up D a t1 t2 t3 t4 t r) ?_
          intro ys W hR hd K hK
          have dd5 : ys 5 = (.bool true) := hd 5 (by kernel_rfl) (by decide)
          have dd10 : ys 10 = (undef) := hd 10 (by kernel_rfl) (by decide)
          go_simp
          have hK2 := hK (.bool true) _ (Below.refl _ _) rfl
          simp (config := { decide := true }) only [upd, if_true, if_false, dd5, dd10] at hK2
          first | exact hK2 | exact ⟨fun _ h => (by cases h), hK2⟩ | exact ⟨by simp, hK2⟩
        trivial
        · intro LL ys B hL hI
          obtain ⟨hR, hj⟩ := hI
          have y11 : ys 11 = .bool true := hj 11 (by decide) (hL 11 (by decide))
          have HRR := Lib.hid (show Below A.heap.size A B from hR)
          clear hR hj hL
          simp only [y11]
          gi_wp2
          have hBB := HRR.out
          exact ⟨Rn.Kr.of_below hBB, by rw [HS2.out, HE.out]; exact hIb.below hIb.lt hBB, by rw [HS2.out, HE.out]; exact hBb.below hBb.lt hBB, hPb.below hPb.lt hBB, hwA.trans (hBB.mono (by have := hwA.size; omega))⟩
    by_cases k2 : a < (r : Int)
    · have H1 := Lib.hid (decide_eq_false k1)
      have H2 := Lib.hid (decide_eq_true k2)
      have HE := Lib.hid (show s2 = s1 from by rw [HS.out, if_neg k1, if_pos k2])
      clear k1 k2
      gi_wp2_with fail
      refine wpIn_region_slots_at rfl rfl (fun base ys => (((((((((((base.set 20 (ys 0)).set 21 (ys 1)).set 22 (ys 2)).set 23 (ys 3)).set 24 (ys 4)).set 25 (ys 5)).set 26 (ys 6)).set 27 (ys 7)).set 28 (ys 8)).set 29 (ys 9)).set 30 (ys 10)).set 31 (ys 11)) (BelowI _ (fun B => Below A.heap.size A B) (lsB D a t1 t2 t3 t4 t r)) (fun _ => undef) (by kernel_rfl) (below_start ((Below.refl A.heap.size A).drew)) ?h22
      case h22 =>
        intro FF hFF
        simp only [List.set_cons_succ, List.set_cons_zero] at hFF
        subst hFF
        refine ⟨rfl, ?_, ?_⟩
        refine ⟨?_, ?_⟩
        · refine SlotStepIn.below (fun X Z hb h => h.trans (hb.mono h.size)) (lsB_up D a t1 t2 t3 t4 t r) ?_
          intro ys W hR hd K hK
          have u0 := (h4.below h4.lt hR).fst
          have u1 := (h4.below h4.lt hR).snd
          go_simp
          have hK2 := hK (.agg #[.int .u64 t1, .int .u64 t2]) _ (Below.refl _ _) rfl
          simp (config := { decide := true }) only [upd, if_true, if_false] at hK2
          first | exact hK2 | exact ⟨fun _ h => (by cases h), hK2⟩ | exact ⟨by simp, hK2⟩
        refine ⟨?_, ?_⟩
        · refine SlotStepIn.below (fun X Z hb h => h.trans (hb.mono h.size)) (lsB_up D a t1 t2 t3 t4 t r) ?_
          intro ys W hR hd K hK
          have dd0 : ys 0 = (.agg #[.int .u64 t1, .int .u64 t2]) := hd 0 (by kernel_rfl) (by decide)
          go_simp
          refine (CallsIn.inRound l' (callsIn_wide.2 (C1.out W))).mono ?_
          rintro e w5 ⟨rfl, hb5⟩
          have hK2 := hK (.int .i64 (t : Nat)) _ hb5 rfl
          simp (config := { decide := true }) only [upd, if_true, if_false, dd0] at hK2
          first | exact hK2 | exact ⟨fun _ h => (by cases h), hK2⟩ | exact ⟨by simp, hK2⟩
        refine ⟨?_, ?_⟩
        · refine SlotStepIn.below (fun X Z hb h => h.trans (hb.mono h.size)) (lsB_up D a t1 t2 t3 t4 t r) ?_
          intro ys W hR hd K hK
          go_simp
          have hK2 := hK (.pointer (some ⟨D, 0, none⟩)) _ (Below.refl _ _) rfl
          simp (config := { decide := true }) only [upd, if_true, if_false] at hK2
          first | exact hK2 | exact ⟨fun _ h => (by cases h), hK2⟩ | exact ⟨by simp, hK2⟩
        refine ⟨?_, ?_⟩
        · refine SlotStepIn.below (fun X Z hb h => h.trans (hb.mono h.size)) (lsB_up D a t1 t2 t3 t4 t r) ?_
          intro ys W hR hd K hK
          have dd2 : ys 2 = (.pointer (some ⟨D, 0, none⟩)) := hd 2 (by kernel_rfl) (by decide)
          have u0 := cell4_0 (hPb.below hPb.lt hR)
          go_simp
          have hK2 := hK (.int .i64 a) _ (Below.refl _ _) rfl
          simp (config := { decide := true }) only [upd, if_true, if_false, dd2] at hK2
          first | exact hK2 | exact ⟨fun _ h => (by cases h), hK2⟩ | exact ⟨by simp, hK2⟩
        refine ⟨?_, ?_⟩
        · refine SlotStepIn.below (fun X Z hb h => h.trans (hb.mono h.size)) (lsB_up D a t1 t2 t3 t4 t r) ?_
          intro ys W hR hd K hK
          have dd1 : ys 1 = (.int .i64 (t : Nat)) := hd 1 (by kernel_rfl) (by decide)
          have dd3 : ys 3 = (.int .i64 a) := hd 3 (by kernel_rfl) (by decide)
          have hh1 : decide (a < (t : Int)) = false := H1.out
          go_simp
          have hK2 := hK (.bool false) _ (Below.refl _ _) rfl
          simp (config := { decide := true }) only [upd, if_true, if_false, dd1, dd3] at hK2
          first | exact hK2 | exact ⟨fun _ h => (by cases h), hK2⟩ | exact ⟨by simp, hK2⟩
        refine ⟨?_, ?_⟩
        · refine SlotStepIn.below (fun X Z hb h => h.trans (hb.mono h.size)) (lsB_up D a t1 t2 t3 t4 t r) ?_
          intro ys W hR hd K hK
          have dd4 : ys 4 = (.bool false) := hd 4 (by kernel_rfl) (by decide)
          go_simp
          have hK2 := hK (.bool false) _ (Below.refl _ _) rfl
          simp (config := { decide := true }) only [upd, if_true, if_false, dd4] at hK2
          first | exact hK2 | exact ⟨fun _ h => (by cases h), hK2⟩ | exact ⟨by simp, hK2⟩
        refine ⟨?_, ?_⟩
        · refine SlotStepIn.below (fun X Z hb h => h.trans (hb.mono h.size)) (lsB_up D a t1 t2 t3 t4 t r) ?_
          intro ys W hR hd K hK
          have dd5 : ys 5 = (.bool false) := hd 5 (by kernel_rfl) (by decide)
          have u0 := (h5.below h5.lt hR).fst
          have u1 := (h5.below h5.lt hR).snd
          go_simp
          have hK2 := hK (.agg #[.int .u64 t3, .int .u64 t4]) _ (Below.refl _ _) rfl
          simp (config := { decide := true }) only [upd, if_true, if_false, dd5] at hK2
          first | exact hK2 | exact ⟨fun _ h => (by cases h), hK2⟩ | exact ⟨by simp, hK2⟩
        refine ⟨?_, ?_⟩
        · refine SlotStepIn.below (fun X Z hb h => h.trans (hb.mono h.size)) (lsB_up D a t1 t2 t3 t4 t r) ?_
          intro ys W hR hd K hK
          have dd5 : ys 5 = (.bool false) := hd 5 (by kernel_rfl) (by decide)
          have dd6 : ys 6 = (.agg #[.int .u64 t3, .int .u64 t4]) := hd 6 (by kernel_rfl) (by decide)
          go_simp
          refine (CallsIn.inRound l' (callsIn_wide.2 (C2.out W))).mono ?_
          rintro e w5 ⟨rfl, hb5⟩
          have hK2 := hK (.int .i64 (r : Nat)) _ hb5 rfl
          simp (config := { decide := true }) only [upd, if_true, if_false, dd5, dd6] at hK2
          first | exact hK2 | exact ⟨fun _ h => (by cases h), hK2⟩ | exact ⟨by simp, hK2⟩
        refine ⟨?_, ?_⟩
        · refine SlotStepIn.below (fun X Z hb h => h.trans (hb.mono h.size)) (lsB_up D a t1 t2 t3 t4 t r) ?_
          intro ys W hR hd K hK
          have dd5 : ys 5 = (.bool false) := hd 5 (by kernel_rfl) (by decide)
          go_simp
          have hK2 := hK (.pointer (some ⟨D, 0, none⟩)) _ (Below.refl _ _) rfl
          simp (config := { decide := true }) only [upd, if_true, if_false, dd5] at hK2
          first | exact hK2 | exact ⟨fun _ h => (by cases h), hK2⟩ | exact ⟨by simp, hK2⟩
        refine ⟨?_, ?_⟩
        · refine SlotStepIn.below (fun X Z hb h => h.trans (hb.mono h.size)) (lsB_up D a t1 t2 t3 t4 t r) ?_
          intro ys W hR hd K hK
          have dd5 : ys 5 = (.bool false) := hd 5 (by kernel_rfl) (by decide)
          have dd8 : ys 8 = (.pointer (some ⟨D, 0, none⟩)) := hd 8 (by kernel_rfl) (by decide)
          have u0 := cell4_0 (hPb.below hPb.lt hR)
          go_simp
          have hK2 := hK (.int .i64 a) _ (Below.refl _ _) rfl
          simp (config := { decide := true }) only [upd, if_true, if_false, dd5, dd8] at hK2
          first | exact hK2 | exact ⟨fun _ h => (by cases h), hK2⟩ | exact ⟨by simp, hK2⟩
        refine ⟨?_, ?_⟩
        · refine SlotStepIn.below (fun X Z hb h => h.trans (hb.mono h.size)) (lsB_up D a t1 t2 t3 t4 t r) ?_
          intro ys W hR hd K hK
          have dd5 : ys 5 = (.bool false) := hd 5 (by kernel_rfl) (by decide)
          have dd7 : ys 7 = (.int .i64 (r : Nat)) := hd 7 (by kernel_rfl) (by decide)
          have dd9 : ys 9 = (.int .i64 a) := hd 9 (by kernel_rfl) (by decide)
          have hh2 : decide (a < (r : Int)) = true := H2.out
          go_simp
          have hK2 := hK (.bool true) _ (Below.refl _ _) rfl
          simp (config := { decide := true }) only [upd, if_true, if_false, dd5, dd7, dd9] at hK2
          first | exact hK2 | exact ⟨fun _ h => (by cases h), hK2⟩ | exact ⟨by simp, hK2⟩
        refine ⟨?_, ?_⟩
        · refine SlotStepIn.below (fun X Z hb h => h.trans (hb.mono h.size)) (lsB_up D a t1 t2 t3 t4 t r) ?_
          intro ys W hR hd K hK
          have dd5 : ys 5 = (.bool false) := hd 5 (by kernel_rfl) (by decide)
          have dd10 : ys 10 = (.bool true) := hd 10 (by kernel_rfl) (by decide)
          go_simp
          have hK2 := hK (.bool true) _ (Below.refl _ _) rfl
          simp (config := { decide := true }) only [upd, if_true, if_false, dd5, dd10] at hK2
          first | exact hK2 | exact ⟨fun _ h => (by cases h), hK2⟩ | exact ⟨by simp, hK2⟩
        trivial
        · intro LL ys B hL hI
          obtain ⟨hR, hj⟩ := hI
          have y11 : ys 11 = .bool true := hj 11 (by decide) (hL 11 (by decide))
          have HRR := Lib.hid (show Below A.heap.size A B from hR)
          clear hR hj hL
          simp only [y11]
          gi_wp2
          have hBB := HRR.out
          exact ⟨Rn.Kr.of_below hBB, by rw [HS2.out, HE.out]; exact hIb.below hIb.lt hBB, by rw [HS2.out, HE.out]; exact hBb.below hBb.lt hBB, hPb.below hPb.lt hBB, hwA.trans (hBB.mono (by have := hwA.size; omega))⟩
    rw [if_neg k1, if_neg k2] at HS
    have H1 := Lib.hid (decide_eq_false k1)
    have H2 := Lib.hid (decide_eq_false k2)
    clear k1 k2
    gi_wp2_with fail
    refine wpIn_region_slots_at rfl rfl (fun base ys => (((((((((((base.set 20 (ys 0)).set 21 (ys 1)).set 22 (ys 2)).set 23 (ys 3)).set 24 (ys 4)).set 25 (ys 5)).set 26 (ys 6)).set 27 (ys 7)).set 28 (ys 8)).set 29 (ys 9)).set 30 (ys 10)).set 31 (ys 11)) (BelowI _ (fun B => Below A.heap.size A B) (lsC D a t1 t2 t3 t4 t r)) (fun _ => undef) (by kernel_rfl) (below_start ((Below.refl A.heap.size A).drew)) ?h23
    case h23 =>
      intro FF hFF
      simp only [List.set_cons_succ, List.set_cons_zero] at hFF
      subst hFF
      refine ⟨rfl, ?_, ?_⟩
      refine ⟨?_, ?_⟩
      · refine SlotStepIn.below (fun X Z hb h => h.trans (hb.mono h.size)) (lsC_up D a t1 t2 t3 t4 t r) ?_
        intro ys W hR hd K hK
        have u0 := (h4.below h4.lt hR).fst
        have u1 := (h4.below h4.lt hR).snd
        go_simp
        have hK2 := hK (.agg #[.int .u64 t1, .int .u64 t2]) _ (Below.refl _ _) rfl
        simp (config := { decide := true }) only [upd, if_true, if_false] at hK2
        first | exact hK2 | exact ⟨fun _ h => (by cases h), hK2⟩ | exact ⟨by simp, hK2⟩
      refine ⟨?_, ?_⟩
      · refine SlotStepIn.below (fun X Z hb h => h.trans (hb.mono h.size)) (lsC_up D a t1 t2 t3 t4 t r) ?_
        intro ys W hR hd K hK
        have dd0 : ys 0 = (.agg #[.int .u64 t1, .int .u64 t2]) := hd 0 (by kernel_rfl) (by decide)
        go_simp
        refine (CallsIn.inRound l' (callsIn_wide.2 (C1.out W))).mono ?_
        rintro e w5 ⟨rfl, hb5⟩
        have hK2 := hK (.int .i64 (t : Nat)) _ hb5 rfl
        simp (config := { decide := true }) only [upd, if_true, if_false, dd0] at hK2
        first | exact hK2 | exact ⟨fun _ h => (by cases h), hK2⟩ | exact ⟨by simp, hK2⟩
      refine ⟨?_, ?_⟩
      · refine SlotStepIn.below (fun X Z hb h => h.trans (hb.mono h.size)) (lsC_up D a t1 t2 t3 t4 t r) ?_
        intro ys W hR hd K hK
        go_simp
        have hK2 := hK (.pointer (some ⟨D, 0, none⟩)) _ (Below.refl _ _) rfl
        simp (config := { decide := true }) only [upd, if_true, if_false] at hK2
        first | exact hK2 | exact ⟨fun _ h => (by cases h), hK2⟩ | exact ⟨by simp, hK2⟩
      refine ⟨?_, ?_⟩
      · refine SlotStepIn.below (fun X Z hb h => h.trans (hb.mono h.size)) (lsC_up D a t1 t2 t3 t4 t r) ?_
        intro ys W hR hd K hK
        have dd2 : ys 2 = (.pointer (some ⟨D, 0, none⟩)) := hd 2 (by kernel_rfl) (by decide)
        have u0 := cell4_0 (hPb.below hPb.lt hR)
        go_simp
        have hK2 := hK (.int .i64 a) _ (Below.refl _ _) rfl
        simp (config := { decide := true }) only [upd, if_true, if_false, dd2] at hK2
        first | exact hK2 | exact ⟨fun _ h => (by cases h), hK2⟩ | exact ⟨by simp, hK2⟩
      refine ⟨?_, ?_⟩
      · refine SlotStepIn.below (fun X Z hb h => h.trans (hb.mono h.size)) (lsC_up D a t1 t2 t3 t4 t r) ?_
        intro ys W hR hd K hK
        have dd1 : ys 1 = (.int .i64 (t : Nat)) := hd 1 (by kernel_rfl) (by decide)
        have dd3 : ys 3 = (.int .i64 a) := hd 3 (by kernel_rfl) (by decide)
        have hh1 : decide (a < (t : Int)) = false := H1.out
        go_simp
        have hK2 := hK (.bool false) _ (Below.refl _ _) rfl
        simp (config := { decide := true }) only [upd, if_true, if_false, dd1, dd3] at hK2
        first | exact hK2 | exact ⟨fun _ h => (by cases h), hK2⟩ | exact ⟨by simp, hK2⟩
      refine ⟨?_, ?_⟩
      · refine SlotStepIn.below (fun X Z hb h => h.trans (hb.mono h.size)) (lsC_up D a t1 t2 t3 t4 t r) ?_
        intro ys W hR hd K hK
        have dd4 : ys 4 = (.bool false) := hd 4 (by kernel_rfl) (by decide)
        go_simp
        have hK2 := hK (.bool false) _ (Below.refl _ _) rfl
        simp (config := { decide := true }) only [upd, if_true, if_false, dd4] at hK2
        first | exact hK2 | exact ⟨fun _ h => (by cases h), hK2⟩ | exact ⟨by simp, hK2⟩
      refine ⟨?_, ?_⟩
      · refine SlotStepIn.below (fun X Z hb h => h.trans (hb.mono h.size)) (lsC_up D a t1 t2 t3 t4 t r) ?_
        intro ys W hR hd K hK
        have dd5 : ys 5 = (.bool false) := hd 5 (by kernel_rfl) (by decide)
        have u0 := (h5.below h5.lt hR).fst
        have u1 := (h5.below h5.lt hR).snd
        go_simp
        have hK2 := hK (.agg #[.int .u64 t3, .int .u64 t4]) _ (Below.refl _ _) rfl
        simp (config := { decide := true }) only [upd, if_true, if_false, dd5] at hK2
        first | exact hK2 | exact ⟨fun _ h => (by cases h), hK2⟩ | exact ⟨by simp, hK2⟩
      refine ⟨?_, ?_⟩
      · refine SlotStepIn.below (fun X Z hb h => h.trans (hb.mono h.size)) (lsC_up D a t1 t2 t3 t4 t r) ?_
        intro ys W hR hd K hK
        have dd5 : ys 5 = (.bool false) := hd 5 (by kernel_rfl) (by decide)
        have dd6 : ys 6 = (.agg #[.int .u64 t3, .int .u64 t4]) := hd 6 (by kernel_rfl) (by decide)
        go_simp
        refine (CallsIn.inRound l' (callsIn_wide.2 (C2.out W))).mono ?_
        rintro e w5 ⟨rfl, hb5⟩
        have hK2 := hK (.int .i64 (r : Nat)) _ hb5 rfl
        simp (config := { decide := true }) only [upd, if_true, if_false, dd5, dd6] at hK2
        first | exact hK2 | exact ⟨fun _ h => (by cases h), hK2⟩ | exact ⟨by simp, hK2⟩
      refine ⟨?_, ?_⟩
      · refine SlotStepIn.below (fun X Z hb h => h.trans (hb.mono h.size)) (lsC_up D a t1 t2 t3 t4 t r) ?_
        intro ys W hR hd K hK
        have dd5 : ys 5 = (.bool false) := hd 5 (by kernel_rfl) (by decide)
        go_simp
        have hK2 := hK (.pointer (some ⟨D, 0, none⟩)) _ (Below.refl _ _) rfl
        simp (config := { decide := true }) only [upd, if_true, if_false, dd5] at hK2
        first | exact hK2 | exact ⟨fun _ h => (by cases h), hK2⟩ | exact ⟨by simp, hK2⟩
      refine ⟨?_, ?_⟩
      · refine SlotStepIn.below (fun X Z hb h => h.trans (hb.mono h.size)) (lsC_up D a t1 t2 t3 t4 t r) ?_
        intro ys W hR hd K hK
        have dd5 : ys 5 = (.bool false) := hd 5 (by kernel_rfl) (by decide)
        have dd8 : ys 8 = (.pointer (some ⟨D, 0, none⟩)) := hd 8 (by kernel_rfl) (by decide)
        have u0 := cell4_0 (hPb.below hPb.lt hR)
        go_simp
        have hK2 := hK (.int .i64 a) _ (Below.refl _ _) rfl
        simp (config := { decide := true }) only [upd, if_true, if_false, dd5, dd8] at hK2
        first | exact hK2 | exact ⟨fun _ h => (by cases h), hK2⟩ | exact ⟨by simp, hK2⟩
      refine ⟨?_, ?_⟩
      · refine SlotStepIn.below (fun X Z hb h => h.trans (hb.mono h.size)) (lsC_up D a t1 t2 t3 t4 t r) ?_
        intro ys W hR hd K hK
        have dd5 : ys 5 = (.bool false) := hd 5 (by kernel_rfl) (by decide)
        have dd7 : ys 7 = (.int .i64 (r : Nat)) := hd 7 (by kernel_rfl) (by decide)
        have dd9 : ys 9 = (.int .i64 a) := hd 9 (by kernel_rfl) (by decide)
        have hh2 : decide (a < (r : Int)) = false := H2.out
        go_simp
        have hK2 := hK (.bool false) _ (Below.refl _ _) rfl
        simp (config := { decide := true }) only [upd, if_true, if_false, dd5, dd7, dd9] at hK2
        first | exact hK2 | exact ⟨fun _ h => (by cases h), hK2⟩ | exact ⟨by simp, hK2⟩
      refine ⟨?_, ?_⟩
      · refine SlotStepIn.below (fun X Z hb h => h.trans (hb.mono h.size)) (lsC_up D a t1 t2 t3 t4 t r) ?_
        intro ys W hR hd K hK
        have dd5 : ys 5 = (.bool false) := hd 5 (by kernel_rfl) (by decide)
        have dd10 : ys 10 = (.bool false) := hd 10 (by kernel_rfl) (by decide)
        go_simp
        have hK2 := hK (.bool false) _ (Below.refl _ _) rfl
        simp (config := { decide := true }) only [upd, if_true, if_false, dd5, dd10] at hK2
        first | exact hK2 | exact ⟨fun _ h => (by cases h), hK2⟩ | exact ⟨by simp, hK2⟩
      trivial
      · intro LL ys B hL hI
        obtain ⟨hR, hj⟩ := hI
        have y11 : ys 11 = .bool false := hj 11 (by decide) (hL 11 (by decide))
        have hR0 : Below A.heap.size A B := hR
        clear hR hj hL
        simp only [y11]
        gi_wp2_with fail
        refine wpIn_region_slots_at rfl rfl (fun base ys => (((((base.set 32 (ys 0)).set 33 (ys 1)).set 34 (ys 2)).set 35 (ys 3)).set 36 (ys 4)).set 10 (ys 5)) (BelowI _ (fun B => Below A.heap.size A B) (lsW t1 t2 t3 t4 wl wr)) (fun _ => undef) (by kernel_rfl) (below_start (hR0.drew)) ?h24
        case h24 =>
          intro FF hFF
          simp only [List.set_cons_succ, List.set_cons_zero] at hFF
          subst hFF
          refine ⟨rfl, ?_, ?_⟩
          refine ⟨?_, ?_⟩
          · refine SlotStepIn.below (fun X Z hb h => h.trans (hb.mono h.size)) (lsW_up t1 t2 t3 t4 wl wr) ?_
            intro ys W hR hd K hK
            have u0 := (h4.below h4.lt hR).fst
            have u1 := (h4.below h4.lt hR).snd
            go_simp
            have hK2 := hK (.agg #[.int .u64 t1, .int .u64 t2]) _ (Below.refl _ _) rfl
            simp (config := { decide := true }) only [upd, if_true, if_false] at hK2
            first | exact hK2 | exact ⟨fun _ h => (by cases h), hK2⟩ | exact ⟨by simp, hK2⟩
          refine ⟨?_, ?_⟩
          · refine SlotStepIn.below (fun X Z hb h => h.trans (hb.mono h.size)) (lsW_up t1 t2 t3 t4 wl wr) ?_
            intro ys W hR hd K hK
            have dd0 : ys 0 = (.agg #[.int .u64 t1, .int .u64 t2]) := hd 0 (by kernel_rfl) (by decide)
            go_simp
            refine (CallsIn.inRound l' (callsIn_wide.2 (W1.out W (GX.out W hR)))).mono ?_
            rintro e w5 ⟨rfl, hb5⟩
            have hK2 := hK (.int .i64 wl) _ hb5 rfl
            simp (config := { decide := true }) only [upd, if_true, if_false, dd0] at hK2
            first | exact hK2 | exact ⟨fun _ h => (by cases h), hK2⟩ | exact ⟨by simp, hK2⟩
          refine ⟨?_, ?_⟩
          · refine SlotStepIn.below (fun X Z hb h => h.trans (hb.mono h.size)) (lsW_up t1 t2 t3 t4 wl wr) ?_
            intro ys W hR hd K hK
            have u0 := (h5.below h5.lt hR).fst
            have u1 := (h5.below h5.lt hR).snd
            go_simp
            have hK2 := hK (.agg #[.int .u64 t3, .int .u64 t4]) _ (Below.refl _ _) rfl
            simp (config := { decide := true }) only [upd, if_true, if_false] at hK2
            first | exact hK2 | exact ⟨fun _ h => (by cases h), hK2⟩ | exact ⟨by simp, hK2⟩
          refine ⟨?_, ?_⟩
          · refine SlotStepIn.below (fun X Z hb h => h.trans (hb.mono h.size)) (lsW_up t1 t2 t3 t4 wl wr) ?_
            intro ys W hR hd K hK
            have dd2 : ys 2 = (.agg #[.int .u64 t3, .int .u64 t4]) := hd 2 (by kernel_rfl) (by decide)
            go_simp
            refine (CallsIn.inRound l' (callsIn_wide.2 (W2.out W (GX.out W hR)))).mono ?_
            rintro e w5 ⟨rfl, hb5⟩
            have hK2 := hK (.int .i64 wr) _ hb5 rfl
            simp (config := { decide := true }) only [upd, if_true, if_false, dd2] at hK2
            first | exact hK2 | exact ⟨fun _ h => (by cases h), hK2⟩ | exact ⟨by simp, hK2⟩
          refine ⟨?_, ?_⟩
          · refine SlotStepIn.below (fun X Z hb h => h.trans (hb.mono h.size)) (lsW_up t1 t2 t3 t4 wl wr) ?_
            intro ys W hR hd K hK
            have dd1 : ys 1 = (.int .i64 wl) := hd 1 (by kernel_rfl) (by decide)
            have dd3 : ys 3 = (.int .i64 wr) := hd 3 (by kernel_rfl) (by decide)
            go_simp
            have hK2 := hK (.int .i64 (max wl wr)) _ (Below.refl _ _) rfl
            simp (config := { decide := true }) only [upd, if_true, if_false, dd1, dd3] at hK2
            first | exact hK2 | exact ⟨fun _ h => (by cases h), hK2⟩ | exact ⟨by simp, hK2⟩
          refine ⟨?_, ?_⟩
          · refine SlotStepIn.below (fun X Z hb h => h.trans (hb.mono h.size)) (lsW_up t1 t2 t3 t4 wl wr) ?_
            intro ys W hR hd K hK
            have dd4 : ys 4 = (.int .i64 (max wl wr)) := hd 4 (by kernel_rfl) (by decide)
            go_simp
            have hK2 := hK (.int .i64 (max wl wr)) _ (Below.refl _ _) rfl
            simp (config := { decide := true }) only [upd, if_true, if_false, dd4] at hK2
            first | exact hK2 | exact ⟨fun _ h => (by cases h), hK2⟩ | exact ⟨by simp, hK2⟩
          trivial
          · intro LL2 ys2 B2 hL2 hI2
            obtain ⟨hR2, hj2⟩ := hI2
            have y5 : ys2 5 = .int .i64 (max wl wr) := hj2 5 (by decide) (hL2 5 (by decide))
            have hBB : Below A.heap.size A B2 := hR2
            clear hR2 hj2 hL2 hR0
            have hIc := hIb.below hIb.lt hBB
            have hBc := hBb.below hBb.lt hBB
            have hwB := hwA.trans (hBB.mono (by have := hwA.size; omega))
            have hPc := hPb.below hPb.lt hBB
            have hltI := hIc.lt
            have hltB := hBc.lt
            have g0 := hIc.cell
            have g1 := hIc.free
            have g2 := hBc.cell
            have g3 := hBc.free
            have zB := hBB.size
            have zA := hwA.size
            simp only [y5, ← HWX.out]
            obtain ⟨m, f⟩ := s1
            simp only at HS g0 g2
            cases f with
            | false =>
              rw [if_pos rfl] at HS
              gi_wp2_with fail
              have kk := setIB_kr B2 (D + 1 + 1) wx true (n₁ := E) (c := E + 1) (by omega) (by omega)
              refine ⟨(Rn.Kr.of_below hBB).trans kk, ?_, ?_, (setIB_heap B2 (D + 1 + 1) wx true (by omega)).trans hPc, hwB.trans (setIB_below B2 (D + 1 + 1) wx true (by omega))⟩
              · rw [HS2.out, HS.out]; exact setIB_int hIc wx true
              · rw [HS2.out, HS.out]; exact setIB_bool hBc wx true
            | true =>
              rw [if_neg (by decide)] at HS
              by_cases k3 : wx < m
              · rw [if_pos k3] at HS
                gi_wp2_with fail
                have kk := setIB_kr B2 (D + 1 + 1) wx true (n₁ := E) (c := E + 1) (by omega) (by omega)
                refine ⟨(Rn.Kr.of_below hBB).trans kk, ?_, ?_, (setIB_heap B2 (D + 1 + 1) wx true (by omega)).trans hPc, hwB.trans (setIB_below B2 (D + 1 + 1) wx true (by omega))⟩
                · rw [HS2.out, HS.out]; exact setIB_int hIc wx true
                · rw [HS2.out, HS.out]; exact setIB_bool hBc wx true
              · rw [if_neg k3] at HS
                gi_wp2_with fail
                exact ⟨Rn.Kr.of_below hBB, by rw [HS2.out, HS.out]; exact hIc, by rw [HS2.out, HS.out]; exact hBc, hPc, hwB⟩
  case done =>
    rintro D2 A hD2 ⟨hI, hB, _, hwA⟩ hK
    obtain ⟨⟨m, f⟩, hs⟩ : ∃ s, lsF (nth L) L.length a (List.range' 0 (L.length + 1)) = s := ⟨_, rfl⟩
    rw [hs] at hI hB
    have HSS := Lib.hid hs
    clear hs
    simp only at hI hB
    simp only
    have g0 := hI.cell
    have g1 := hI.free
    have g2 := hB.cell
    have g3 := hB.free
    gi_wp2_with fail
    refine wpIn_wide.2 ?_
    go_region
    gi_wp2
    show bodyPostM _ _ _ _ _ _ _ (setIB A (D + 1 + 1) m f).drew
    have hI2 := setIB_int hI m f
    have hB2 := setIB_bool hB m f
    have hKU : (setIB A (D + 1 + 1) m f).drew.heap[D2]? = some (.deferred (some [])) := (setIB_heap A (D + 1 + 1) m f (by omega)).trans hK
    have hwU := (hwA.trans (setIB_below A (D + 1 + 1) m f (by omega))).drew
    have hI3 : IntAt (setIB A (D + 1 + 1) m f).drew (D + 1 + 1) m := hI2
    have hB3 : BoolAt (setIB A (D + 1 + 1) m f).drew (D + 1 + 1 + 1) f := hB2
    clear g0 g1 g2 g3 hI2 hB2
    generalize (setIB A (D + 1 + 1) m f).drew = U at *
    refine ⟨by simp, .inl ⟨_, U.putObj D2 (.deferred none), rfl, run_takeDeferred hKU, ?_⟩⟩
    have hst := Rn.Step.putObj (n₁ := E) (b := E) U _ (.deferred none) (by omega) (by omega) hKU rfl
    have y0 := (hI3.below (by omega) hst.below).cell
    have y1 := (hB3.below (by omega) hst.below).cell
    exact ⟨.tuple #[.int .i64 m, .bool f, .int .i64 0], by simp [results, Tryd.results19, go_sem, y0, y1], by rw [HSS.out], hwU.trans (hst.below.mono (by omega))⟩
  case stop => rintro D2 k pre A _ _ h; exact h.elim
end Go.Proofs.YtinopmdefndhoaaDoor
