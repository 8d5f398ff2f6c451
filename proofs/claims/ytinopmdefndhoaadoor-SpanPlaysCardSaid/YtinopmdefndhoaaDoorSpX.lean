/- The walk of SpanCrosses, over what the package's functions answer. -/
import Derived.Test.YtinopmdefndhoaaDoorSpQ
import Derived.Maps.AppendAt
namespace Go.Proofs.YtinopmdefndhoaaDoor
open Go Go.RowKit Go.Shelf

/-- The elements whose bit is b. -/
def selL (F : Nat → Nat) (k b m : Nat) : List Nat := ((List.range m).filter fun i => decide (k / 2 ^ i % 2 = b)).map F
theorem selL_succ (F : Nat → Nat) (k b m : Nat) : selL F k b (m + 1) = if k / 2 ^ m % 2 = b then selL F k b m ++ [F m] else selL F k b m := by
  unfold selL
  rw [List.range_succ, List.filter_append, List.map_append]
  by_cases h : k / 2 ^ m % 2 = b <;> simp [h]
theorem selL_length (F : Nat → Nat) (k b m : Nat) : (selL F k b m).length ≤ m := by
  unfold selL
  rw [List.length_map]
  exact Nat.le_trans (List.length_filter_le _ _) (by simp)
theorem selL_bd (F : Nat → Nat) (k b m j : Nat) (h : ∀ i, i < m → F i ≤ 127) (hj : j < (selL F k b m).length) : 0 ≤ nth (selL F k b m) j ∧ nth (selL F k b m) j ≤ 127 := by
  have hm := List.getElem_mem hj
  unfold selL at hm
  obtain ⟨i, hi, he⟩ := List.mem_map.1 hm
  have := h i (List.mem_range.1 (List.mem_filter.1 hi).1)
  unfold nth
  rw [List.getD_eq_getElem?_getD, List.getElem?_eq_getElem hj]
  simp only [Option.getD_some]
  have e : (selL F k b m)[j] = F i := he.symm
  rw [e]
  omega
/-- Two hands can hold the two parts. -/
def splA (F : Nat → Nat) (n : Nat) (a b : Int) (k : Nat) : Bool := holdX (nth (selL F k 1 n)) (selL F k 1 n).length a b
def splB (F : Nat → Nat) (n : Nat) (a b : Int) (k : Nat) : Bool := holdX (nth (selL F k 0 n)) (selL F k 0 n).length a b
def anyS (F : Nat → Nat) (n : Nat) (a b : Int) (m : Nat) : Bool := (List.range m).any fun k => splA F n a b k && splB F n a b k
theorem anyS_succ (F : Nat → Nat) (n : Nat) (a b : Int) (m : Nat) : anyS F n a b (m + 1) = (anyS F n a b m || (splA F n a b m && splB F n a b m)) := by
  unfold anyS
  rw [List.range_succ, List.any_append]
  simp
theorem anyS_mono (F : Nat → Nat) (n : Nat) (a b : Int) (m K : Nat) (h : m ≤ K) (ht : anyS F n a b m = true) : anyS F n a b K = true := by
  unfold anyS at *
  obtain ⟨k, hk, hb⟩ := List.any_eq_true.1 ht
  exact List.any_eq_true.2 ⟨k, List.mem_range.2 (Nat.lt_of_lt_of_le (List.mem_range.1 hk) h), hb⟩
theorem and_one_some : ∀ E : Fin 1024, bits BinOp.and IntKind.i64 ((E.val : Nat) : Int) 1 = ((E.val % 2 : Nat) : Int) := by decide +kernel
theorem bit_some (k i : Nat) (hk : k < 1024) : bits BinOp.and IntKind.i64 ((k : Int) / 2 ^ i) 1 = ((k / 2 ^ i % 2 : Nat) : Int) := by
  have h := and_one_some ⟨k / 2 ^ i, Nat.lt_of_le_of_lt (Nat.div_le_self _ _) hk⟩
  simpa using h
theorem shl_some (x : Nat) (hx : x < 11) : IntKind.i64.wrap (2 ^ x) = ((2 ^ x : Nat) : Int) ∧ 2 ^ x ≤ 1024 := by
  have : ∀ x : Fin 11, IntKind.i64.wrap (2 ^ x.val) = ((2 ^ x.val : Nat) : Int) ∧ 2 ^ x.val ≤ 1024 := by decide +kernel
  exact this ⟨x, hx⟩
/-- Two rows of the call's own, which lie apart. -/
def Rows2 (W : World) (E : Nat) (av bv : Value) (la lb : List Nat) : Prop :=
  W.ownsRow E 3 1 av la.length (ints la) ∧ W.ownsRow E 3 1 bv lb.length (ints lb) ∧ (av.ownBlock = none ∨ av.ownBlock ≠ bv.ownBlock)
theorem row_lt {W : World} {E e size n : Nat} {v : Value} {xs : List Value} (h : W.ownsRow E e size v n xs) {g : Nat} (hg : v.ownBlock = some g) : g < W.heap.size := by
  rcases h.2 with ⟨rfl, _⟩ | ⟨g', cap, cur, rfl, h1, h2, _⟩
  · cases hg
  · simp [Value.ownBlock] at hg
    subst hg
    exact (Array.getElem?_eq_some_iff.1 h2).1
theorem rows_swap {W : World} {E : Nat} {av bv : Value} {la lb : List Nat} (h : Rows2 W E av bv la lb) : Rows2 W E bv av lb la := by
  refine ⟨h.2.1, h.1, ?_⟩
  rcases h.2.2 with k | k
  · rw [k]
    cases bv.ownBlock with
    | none => exact .inl rfl
    | some g => exact .inr (by simp)
  · exact .inr (Ne.symm k)
theorem rows_left {W w' : World} {E y : Nat} {av bv v' : Value} {la lb : List Nat} {o : Obj} (h : Rows2 W E av bv la lb) (hown : w'.ownsRow E 3 1 v' (la.length + 1) (ints la ++ [.int .i64 (y : Int)]))
    (hg : (W.alloc o).grownBy w' av.ownBlock) (hat : v'.ownBlock = av.ownBlock ∨ v'.ownBlock = some (W.alloc o).heap.size) : Rows2 w' E v' bv (la ++ [y]) lb := by
  have h3 := h.2.2
  refine ⟨by simpa [ints] using hown, (h.2.1.alloc o).kept hg ?_, ?_⟩
  · rcases h3 with k | k
    · rw [k]
      cases bv.ownBlock with
      | none => exact .inl rfl
      | some g => exact .inr (by simp)
    · exact .inr (Ne.symm k)
  · rcases hat with k | k
    · rw [k]; exact h3
    · rw [k]
      refine .inr fun he => ?_
      have := row_lt h.2.1 he.symm
      simp at this
      omega
theorem holds_c (v : Value) (l : List Nat) (k wd : Int) (E : Nat) (w : World) (h : w.ownsRow E 3 1 v l.length (ints l)) (hn : l.length ≤ 1000) (hX : ∀ j, j < l.length → 0 ≤ nth l j ∧ nth l j ≤ 127) :
    Calls Tryd.prog 22 #[v, .int .i64 k, .int .i64 wd] w fun e w' => e = .returned (.bool (holdX (nth l) l.length k wd)) ∧ Below w.heap.size w w' :=
  (holds_any v l.length (nth l) k wd w (lst_of h).row hn hX).mono fun _ _ ⟨k1, nn, k2⟩ => ⟨k1, by rw [k2]; exact drew_below' w nn⟩
set_option maxRecDepth 100000 in
set_option maxHeartbeats 4000000 in
theorem crosses_walk (a b c d : Int) (pb pq lo hi : Nat) (hl : lo < 18446744073709551616) (hh : hi < 18446744073709551616) (w : World) (G : Gl w) (kn : KnB Tryd.prog 12)
    (n : Nat) (F : Nat → Nat) (fnd : Bool) (hn : (Ns.notes lo hi).length = n) (hF : nth (Ns.notes lo hi) = fun i => ((F i : Nat) : Int))
    (mk : ∀ W, Calls Tryd.prog 27 #[.agg #[.int .u8 pb, .int .u16 pq]] W fun e w' => e = .returned (.agg #[.int .u64 lo, .int .u64 hi]) ∧ Below W.heap.size W w')
    (tw : chk a b c d = 0 → n ≤ 10 → (anyS F n a b (2 ^ n) = fnd) ∧ ∀ W, Gl W → Calls Tryd.prog 17 #[.agg #[.int .i64 a, .int .i64 b, .int .i64 c, .int .i64 d], .agg #[.int .u64 lo, .int .u64 hi]] W fun e w' => (∃ q1 q2 q3 q4 : Nat, e = .returned (.tuple #[.agg #[.int .u64 q1, .int .u64 q2], .agg #[.int .u64 q3, .int .u64 q4], .bool fnd, .int .i64 0])) ∧ Below W.heap.size W w') :
    Calls Tryd.prog 7 #[.agg #[.int .i64 a, .int .i64 b, .int .i64 c, .int .i64 d], .agg #[.int .u8 pb, .int .u16 pq]] w fun e w' => e = .returned (.bool true) ∧ Below w.heap.size w w' := by
  have KN := Lib.hid kn
  have MK := Lib.hid mk
  have CH := Lib.hid (fun W => chkp_any a b c d W)
  have nb := notes_bd lo hi
  have li := fun W => list_c lo hi hl hh W
  rw [hn, hF] at nb li
  have LI := Lib.hid li
  obtain ⟨hn1, hnX⟩ := nb
  have hnF : ∀ i, i < n → F i ≤ 127 := fun i hi => by have h5 : ((F i : Nat) : Int) ≤ 127 := (hnX i hi).2; omega
  clear li hn hF kn hl hh mk hnX
  obtain ⟨D, hD⟩ : ∃ D, w.heap.size = D := ⟨_, rfl⟩
  by_cases hx : chk a b c d = 0
  · rw [hx] at CH
    by_cases h10 : n ≤ 10
    · obtain ⟨hfn, t2⟩ := tw hx h10
      have TW := Lib.hid t2
      have FN := Lib.hid hfn
      clear tw t2 hfn hx
      have h10i : ¬ (10 : Int) < n := by omega
      go_enter Tryd.func7, Tryd.ntmps7
      have ld1 : ((w.alloc (.cells #[.int .i64 a, .int .i64 b, .int .i64 c, .int .i64 d] 23)).alloc (.cells #[.int .u8 pb, .int .u16 pq] 61)).heap[D + 1]? = some (.cells #[.int .u8 pb, .int .u16 pq] 61) := (heap_new (by first | omega | (simp; omega)))
      have y1_0 := cell2_0 ld1
      have y1_1 := cell2_1 ld1
      clear ld1
      go_wp2_with fail
      refine (MK.out _).mono ?_
      rintro e v2 ⟨rfl, hb_v2⟩
      have cP_v2 : v2.heap[D]? = some (.cells #[.int .i64 a, .int .i64 b, .int .i64 c, .int .i64 d] 23) := (hb_v2.block (D) (Array.getElem?_eq_some_iff.1 (show ((w.alloc (.cells #[.int .i64 a, .int .i64 b, .int .i64 c, .int .i64 d] 23)).alloc (.cells #[.int .u8 pb, .int .u16 pq] 61)).heap[D]? = some (.cells #[.int .i64 a, .int .i64 b, .int .i64 c, .int .i64 d] 23) from (heap_old (o := .cells #[.int .u8 pb, .int .u16 pq] 61) (heap_new (by first | omega | (simp; omega)))))).1).trans (heap_old (o := .cells #[.int .u8 pb, .int .u16 pq] 61) (heap_new (by first | omega | (simp; omega))))
      have cX_v2 : v2.heap[D + 1]? = some (.cells #[.int .u8 pb, .int .u16 pq] 61) := (hb_v2.block (D + 1) (Array.getElem?_eq_some_iff.1 (show ((w.alloc (.cells #[.int .i64 a, .int .i64 b, .int .i64 c, .int .i64 d] 23)).alloc (.cells #[.int .u8 pb, .int .u16 pq] 61)).heap[D + 1]? = some (.cells #[.int .u8 pb, .int .u16 pq] 61) from (heap_new (by first | omega | (simp; omega))))).1).trans (heap_new (by first | omega | (simp; omega)))
      have hbb_v2 := hb_v2
      have hw_v2 : Below D w v2 := ((((Below.refl _ w).alloc (by first | omega | (simp; omega)) (.cells #[.int .i64 a, .int .i64 b, .int .i64 c, .int .i64 d] 23)).alloc (by first | omega | (simp; omega)) (.cells #[.int .u8 pb, .int .u16 pq] 61))).trans (hb_v2.mono (by first | omega | (simp; omega)))
      clear hb_v2 y1_0 y1_1
      obtain ⟨ES, hES⟩ : ∃ E, v2.heap.size = E := ⟨_, rfl⟩
      have ld3 : (v2.alloc (.cells #[.int .u64 lo, .int .u64 hi] 26)).heap[ES]? = some (.cells #[.int .u64 lo, .int .u64 hi] 26) := (heap_new (by first | omega | (simp; omega)))
      have y3_0 := cell2_0 ld3
      have y3_1 := cell2_1 ld3
      clear ld3
      go_wp2_with fail
      refine (LI.out _).mono ?_
      rintro e v4 ⟨⟨lv, rfl, hlv⟩, hb_v4⟩
      have hs_v4 := hw_v2.size
      have cP_v4 : v4.heap[D]? = some (.cells #[.int .i64 a, .int .i64 b, .int .i64 c, .int .i64 d] 23) := (hb_v4.block (D) (Array.getElem?_eq_some_iff.1 (show (v2.alloc (.cells #[.int .u64 lo, .int .u64 hi] 26)).heap[D]? = some (.cells #[.int .i64 a, .int .i64 b, .int .i64 c, .int .i64 d] 23) from (heap_old (o := .cells #[.int .u64 lo, .int .u64 hi] 26) cP_v2))).1).trans (heap_old (o := .cells #[.int .u64 lo, .int .u64 hi] 26) cP_v2)
      have cX_v4 : v4.heap[D + 1]? = some (.cells #[.int .u8 pb, .int .u16 pq] 61) := (hb_v4.block (D + 1) (Array.getElem?_eq_some_iff.1 (show (v2.alloc (.cells #[.int .u64 lo, .int .u64 hi] 26)).heap[D + 1]? = some (.cells #[.int .u8 pb, .int .u16 pq] 61) from (heap_old (o := .cells #[.int .u64 lo, .int .u64 hi] 26) cX_v2))).1).trans (heap_old (o := .cells #[.int .u64 lo, .int .u64 hi] 26) cX_v2)
      have cS_v4 : v4.heap[ES]? = some (.cells #[.int .u64 lo, .int .u64 hi] 26) := (hb_v4.block (ES) (Array.getElem?_eq_some_iff.1 (show (v2.alloc (.cells #[.int .u64 lo, .int .u64 hi] 26)).heap[ES]? = some (.cells #[.int .u64 lo, .int .u64 hi] 26) from (heap_new (by first | omega | (simp; omega))))).1).trans (heap_new (by first | omega | (simp; omega)))
      have hbb_v4 := hb_v4
      have hw_v4 : Below D w v4 := ((hw_v2.alloc (by have := hw_v2.size; first | omega | (simp; omega)) (.cells #[.int .u64 lo, .int .u64 hi] 26))).trans (hb_v4.mono (by first | omega | (simp; omega)))
      clear cP_v2 cX_v2 hb_v4 y3_0 y3_1 hw_v2 hs_v4
      obtain ⟨la, lc, rfl⟩ := hlv.len
      have G1 : Gl v4 := G.below (by rw [hD]; exact hw_v4)
      go_wp2_with fail
      refine (KN.out _ G1).mono ?_
      rintro e v5 ⟨rfl, hb_v5⟩
      have hs_v5 := hw_v4.size
      have cP_v5 : v5.heap[D]? = some (.cells #[.int .i64 a, .int .i64 b, .int .i64 c, .int .i64 d] 23) := (hb_v5.block (D) (Array.getElem?_eq_some_iff.1 (show v4.heap[D]? = some (.cells #[.int .i64 a, .int .i64 b, .int .i64 c, .int .i64 d] 23) from cP_v4)).1).trans cP_v4
      have cX_v5 : v5.heap[D + 1]? = some (.cells #[.int .u8 pb, .int .u16 pq] 61) := (hb_v5.block (D + 1) (Array.getElem?_eq_some_iff.1 (show v4.heap[D + 1]? = some (.cells #[.int .u8 pb, .int .u16 pq] 61) from cX_v4)).1).trans cX_v4
      have cS_v5 : v5.heap[ES]? = some (.cells #[.int .u64 lo, .int .u64 hi] 26) := (hb_v5.block (ES) (Array.getElem?_eq_some_iff.1 (show v4.heap[ES]? = some (.cells #[.int .u64 lo, .int .u64 hi] 26) from cS_v4)).1).trans cS_v4
      have hbb_v5 := hb_v5
      have hw_v5 : Below D w v5 := (hw_v4).trans (hb_v5.mono (by first | omega | (simp; omega)))
      clear cP_v4 cX_v4 cS_v4 hb_v5 hw_v4 hs_v5
      have ld6 : v5.heap[D]? = some (.cells #[.int .i64 a, .int .i64 b, .int .i64 c, .int .i64 d] 23) := cP_v5
      have y6_0 := cell4_0 ld6
      have y6_1 := cell4_1 ld6
      have y6_2 := cell4_2 ld6
      have y6_3 := cell4_3 ld6
      clear ld6
      go_wp2_with fail
      refine (CH.out _).mono ?_
      rintro e v7 ⟨rfl, hb_v7⟩
      have hs_v7 := hw_v5.size
      have cP_v7 : v7.heap[D]? = some (.cells #[.int .i64 a, .int .i64 b, .int .i64 c, .int .i64 d] 23) := (hb_v7.block (D) (Array.getElem?_eq_some_iff.1 (show v5.heap[D]? = some (.cells #[.int .i64 a, .int .i64 b, .int .i64 c, .int .i64 d] 23) from cP_v5)).1).trans cP_v5
      have cX_v7 : v7.heap[D + 1]? = some (.cells #[.int .u8 pb, .int .u16 pq] 61) := (hb_v7.block (D + 1) (Array.getElem?_eq_some_iff.1 (show v5.heap[D + 1]? = some (.cells #[.int .u8 pb, .int .u16 pq] 61) from cX_v5)).1).trans cX_v5
      have cS_v7 : v7.heap[ES]? = some (.cells #[.int .u64 lo, .int .u64 hi] 26) := (hb_v7.block (ES) (Array.getElem?_eq_some_iff.1 (show v5.heap[ES]? = some (.cells #[.int .u64 lo, .int .u64 hi] 26) from cS_v5)).1).trans cS_v5
      have hbb_v7 := hb_v7
      have hw_v7 : Below D w v7 := (hw_v5).trans (hb_v7.mono (by first | omega | (simp; omega)))
      clear cP_v5 cX_v5 cS_v5 hb_v7 y6_0 y6_1 y6_2 y6_3 hw_v5 hs_v7
      have G2 : Gl v7 := G.below (by rw [hD]; exact hw_v7)
      have ld8 : v7.heap[D]? = some (.cells #[.int .i64 a, .int .i64 b, .int .i64 c, .int .i64 d] 23) := cP_v7
      have y8_0 := cell4_0 ld8
      have y8_1 := cell4_1 ld8
      have y8_2 := cell4_2 ld8
      have y8_3 := cell4_3 ld8
      clear ld8
      have ld9 : v7.heap[ES]? = some (.cells #[.int .u64 lo, .int .u64 hi] 26) := cS_v7
      have y9_0 := cell2_0 ld9
      have y9_1 := cell2_1 ld9
      clear ld9
      go_wp2_with fail
      refine (TW.out _ G2).mono ?_
      rintro e v10 ⟨⟨q1, q2, q3, q4, rfl⟩, hb_v10⟩
      have hs_v10 := hw_v7.size
      have cP_v10 : v10.heap[D]? = some (.cells #[.int .i64 a, .int .i64 b, .int .i64 c, .int .i64 d] 23) := (hb_v10.block (D) (Array.getElem?_eq_some_iff.1 (show v7.heap[D]? = some (.cells #[.int .i64 a, .int .i64 b, .int .i64 c, .int .i64 d] 23) from cP_v7)).1).trans cP_v7
      have cX_v10 : v10.heap[D + 1]? = some (.cells #[.int .u8 pb, .int .u16 pq] 61) := (hb_v10.block (D + 1) (Array.getElem?_eq_some_iff.1 (show v7.heap[D + 1]? = some (.cells #[.int .u8 pb, .int .u16 pq] 61) from cX_v7)).1).trans cX_v7
      have cS_v10 : v10.heap[ES]? = some (.cells #[.int .u64 lo, .int .u64 hi] 26) := (hb_v10.block (ES) (Array.getElem?_eq_some_iff.1 (show v7.heap[ES]? = some (.cells #[.int .u64 lo, .int .u64 hi] 26) from cS_v7)).1).trans cS_v7
      have hbb_v10 := hb_v10
      have hw_v10 : Below D w v10 := (hw_v7).trans (hb_v10.mono (by first | omega | (simp; omega)))
      clear cP_v7 cX_v7 cS_v7 hb_v10 y8_0 y8_1 y8_2 y8_3 y9_0 y9_1 hw_v7 hs_v10
      obtain ⟨EL, hEL⟩ : ∃ E, v10.heap.size = E := ⟨_, rfl⟩
      obtain ⟨V, hV⟩ : ∃ V : World, ((v10.alloc (.cells #[.int .u64 q1, .int .u64 q2] 26)).alloc (.cells #[.int .u64 q3, .int .u64 q4] 26)) = V := ⟨_, rfl⟩
      have k0 : Lst v4 (.slice la n lc) n _ := hlv
      have k1 : Lst v5 (.slice la n lc) n _ := k0.below hbb_v5
      have k2 : Lst v7 (.slice la n lc) n _ := k1.below hbb_v7
      have k3 : Lst v10 (.slice la n lc) n _ := k2.below hbb_v10
      have kV : Lst V (.slice la n lc) n _ := k3.below (by rw [← hV]; exact ((Below.refl _ _).alloc (Nat.le_refl _) _).alloc (by simp) _)
      have hP := Lib.hid (show V.heap[D]? = some (.cells #[.int .i64 a, .int .i64 b, .int .i64 c, .int .i64 d] 23) from by rw [← hV]; exact (heap_old (o := .cells #[.int .u64 q3, .int .u64 q4] 26) (heap_old (o := .cells #[.int .u64 q1, .int .u64 q2] 26) cP_v10)))
      have hWV := Lib.hid (show Below D w V from by rw [← hV]; exact ((hw_v10.alloc (by have := hw_v10.size; first | omega | (simp; omega)) (.cells #[.int .u64 q1, .int .u64 q2] 26)).alloc (by have := hw_v10.size; first | omega | (simp; omega)) (.cells #[.int .u64 q3, .int .u64 q4] 26)))
      have HL := Lib.hid kV
      obtain ⟨s1, s2⟩ := shl_some n (by omega)
      obtain ⟨K, hK⟩ : ∃ K, 2 ^ n = K := ⟨_, rfl⟩
      rw [hK] at s1 s2 FN
      have zP := (Array.getElem?_eq_some_iff.1 hP.out).1
      clear kV k0 k1 k2 k3 hbb_v2 hbb_v4 hbb_v5 hbb_v7 hbb_v10 hw_v10 cP_v10 cX_v10 cS_v10 G1 G2 hlv KN MK CH LI TW
      have h10j : (n : Int) ≤ 10 := by omega
      obtain ⟨i0, hi0, hz0, hz1, hz2⟩ := info_parts info_int
      go_wp2_with fail
      try rw [hV]
      clear hV
      go_loopw [11, 12] (fun av bt wr => ∃ k : Nat, k ≤ K ∧ av = .bool (anyS F n a b k) ∧ bt = .int .i64 (k : Int) ∧ Below V.heap.size V wr) (fun _ bt _ => K - (intOf bt).toNat)
      case atStart => exact ⟨0, Nat.zero_le _, rfl, rfl, Below.refl _ _⟩
      case round =>
        obtain ⟨k, hk, rfl, rfl, hw⟩ := hrel
        obtain ⟨W1, hW1⟩ : ∃ W1, W1 = wr := ⟨_, rfl⟩
        subst hW1
        by_cases h1 : k < K
        · have h1i : (k : Int) < K := by omega
          have AS := Lib.hid (anyS_succ F n a b k)
          have AM := Lib.hid (anyS_mono F n a b k K (by omega))
          cases hany : anyS F n a b k with
          | true =>
            rw [hany] at AM
            have HWW := Lib.hid hw
            have FN2 := Lib.hid (FN.out.symm.trans (AM.out rfl))
            have hf := FN2.out
            subst hf
            clear hw AM AS FN
            go_wp2
            go_ret
            exact ⟨rfl, by first | exact hWV.out.trans (HWW.out.mono (by have := hWV.out.size; omega)) | (rw [hD]; exact hWV.out.trans (HWW.out.mono (by have := hWV.out.size; omega)))⟩
          | false =>
            rw [hany] at AS
            clear AM hany
            obtain ⟨E, hE⟩ : ∃ E, W1.heap.size = E := ⟨_, rfl⟩
            have hzw := hw.size
            go_wp2_with fail
            go_loopw [13, 14, 15] (fun av bv it ws => ∃ j : Nat, j ≤ n ∧ it = .int .i64 (j : Int) ∧ Rows2 ws E av bv (selL F k 1 j) (selL F k 0 j) ∧ Below E W1 ws) (fun _ _ it _ => n - (intOf it).toNat)
            case atStart => exact ⟨0, Nat.zero_le _, rfl, ⟨World.ownsRow_nil _ _ _ _, World.ownsRow_nil _ _ _ _, .inl rfl⟩, by rw [← hE]; exact Below.refl _ _⟩
            case round =>
              obtain ⟨j, hj, rfl, hrow, hw2⟩ := hrel
              have hz3 := hw2.size
              have hs1 := selL_length F k 1 j
              have hs0 := selL_length F k 0 j
              have HRW := Lib.hid hrow
              have HW2 := Lib.hid hw2
              clear hrow hw2
              by_cases h2 : j < n
              · have h2i : (j : Int) < n := by omega
                obtain ⟨g, rfl, hgl⟩ : ∃ g, la = some ⟨g, 0, none⟩ ∧ wr.cell? ⟨g, j, none⟩ = some (.int .i64 ((F j : Nat) : Int)) := by
                  rcases HL.out with ⟨h0, _⟩ | ⟨g, cap, h3, h4, h5, h6⟩
                  · omega
                  · cases h3
                    refine ⟨g, rfl, ?_⟩
                    have h7 := h6 j h2
                    rw [Nat.zero_add] at h7
                    exact (HW2.out.cell (p := ⟨g, j, none⟩) (show g < E by omega)).trans ((hw.cell (p := ⟨g, j, none⟩) h5).trans h7)
                have SA := Lib.hid (selL_succ F k 1 j)
                have SB := Lib.hid (selL_succ F k 0 j)
                have hbit := bit_some k j (by omega)
                by_cases h3 : k / 2 ^ j % 2 = 1
                · rw [h3] at hbit
                  have sa := SA.out
                  have sb := SB.out
                  rw [if_pos h3] at sa
                  rw [if_neg (by omega)] at sb
                  have TA := Lib.hid sa
                  have TB := Lib.hid sb
                  clear sa sb SA SB h3
                  have hrow5 := HRW.out.1
                  go_wp2_with (at_builtin; refine wpList_append_own_at _ rfl _ _ 48 rfl E 3 i0 (.int .i64 0) 1 8 Tryd.underlying48 hi0 hz0 hz1 hz2 rfl (by decide) _ _ _ rfl (hrow5.alloc _) ⟨wr.heap.size, 0, none⟩ 1 1 [.int .i64 ((F j : Nat) : Int)] rfl rfl (cell_one_new _ _ _) (by simp [Value.oneCell']) (by unfold maxLen; omega) (by omega) (by simp; omega) ?_; intro v' w6 hown' hgrow _ hat')
                  have hb6 := grown_below (by omega) hrow5 hgrow
                  go_roundw
                  case rel => exact ⟨j + 1, by omega, by go_num, by rw [TA.out, TB.out]; exact rows_left HRW.out hown' hgrow hat', HW2.out.trans hb6⟩
                  case measure => simp [intOf] <;> omega
                · have h30 : k / 2 ^ j % 2 = 0 := by omega
                  rw [h30] at hbit
                  have sa := SA.out
                  have sb := SB.out
                  rw [if_neg h3] at sa
                  rw [if_pos h30] at sb
                  have TA := Lib.hid sa
                  have TB := Lib.hid sb
                  clear sa sb SA SB h3 h30
                  have hrow5 := HRW.out.2.1
                  go_wp2_with (at_builtin; refine wpList_append_own_at _ rfl _ _ 48 rfl E 3 i0 (.int .i64 0) 1 8 Tryd.underlying48 hi0 hz0 hz1 hz2 rfl (by decide) _ _ _ rfl (hrow5.alloc _) ⟨wr.heap.size, 0, none⟩ 1 1 [.int .i64 ((F j : Nat) : Int)] rfl rfl (cell_one_new _ _ _) (by simp [Value.oneCell']) (by unfold maxLen; omega) (by omega) (by simp; omega) ?_; intro v' w6 hown' hgrow _ hat')
                  have hb6 := grown_below (by omega) hrow5 hgrow
                  go_roundw
                  case rel => exact ⟨j + 1, by omega, by go_num, by rw [TA.out, TB.out]; exact rows_swap (rows_left (rows_swap HRW.out) hown' hgrow hat'), HW2.out.trans hb6⟩
                  case measure => simp [intOf] <;> omega
              · obtain rfl : j = n := by omega
                have h2i : ¬ (j : Int) < j := by omega
                have hp2 := ((HW2.out).block D (by omega)).trans ((hw.block D zP).trans hP.out)
                have p0 := cell4_0 hp2
                have p1 := cell4_1 hp2
                have HA := Lib.hid (holds_c _ _ a b E wr HRW.out.1 (by omega) (fun i hi => selL_bd F k 1 j i hnF hi))
                have HB := Lib.hid (fun W (h : Below wr.heap.size wr W) => holds_c _ _ a b E W (ownsRow_step HRW.out.2.1 (t := 26) (b := 0) (by decide) (Step.of_below (Nat.zero_le _) h)) (by omega) (fun i hi => selL_bd F k 0 j i hnF hi))
                rw [show holdX (nth (selL F k 1 j)) (selL F k 1 j).length a b = splA F j a b k from rfl] at HA
                simp only [show holdX (nth (selL F k 0 j)) (selL F k 0 j).length a b = splB F j a b k from rfl] at HB
                have HP2 := Lib.hid hp2
                clear hp2
                cases hsa : splA F j a b k with
                | false =>
                  rw [hsa] at HA AS
                  go_wp2_with fail
                  refine HA.out.mono ?_
                  rintro e w7 ⟨rfl, hb7⟩
                  go_wp2_with fail
                  go_roundw
                  case rel => exact ⟨k + 1, by omega, by rw [AS.out]; rfl, by go_num, hw.trans ((HW2.out.trans (hb7.mono (by omega))).mono (by omega))⟩
                  case measure => simp [intOf] <;> omega
                | true =>
                  rw [hsa] at HA AS
                  go_wp2_with fail
                  refine HA.out.mono ?_
                  rintro e w7 ⟨rfl, hb7⟩
                  clear p0 p1
                  have hp3 := (hb7.block D (by omega)).trans HP2.out
                  have p0 := cell4_0 hp3
                  have p1 := cell4_1 hp3
                  clear hp3
                  have hz7 := hb7.size
                  go_wp2_with fail
                  refine (HB.out _ hb7).mono ?_
                  rintro e w8 ⟨rfl, hb8⟩
                  go_wp2_with fail
                  go_roundw
                  case rel => exact ⟨k + 1, by omega, by rw [AS.out]; simp, by go_num, hw.trans ((HW2.out.trans ((hb7.trans (hb8.mono (by omega))).mono (by omega))).mono (by omega))⟩
                  case measure => simp [intOf] <;> omega
        · obtain rfl : k = K := by omega
          have h1i : ¬ ((k : Nat) : Int) < k := by omega
          have HWW := Lib.hid hw
          have hf := FN.out
          rw [hf]
          clear hw FN hf
          go_wp2
          go_ret
          exact ⟨rfl, by first | exact hWV.out.trans (HWW.out.mono (by have := hWV.out.size; omega)) | (rw [hD]; exact hWV.out.trans (HWW.out.mono (by have := hWV.out.size; omega)))⟩
    · have h10i : (10 : Int) < n := by omega
      clear tw hx
      go_enter Tryd.func7, Tryd.ntmps7
      have ld1 : ((w.alloc (.cells #[.int .i64 a, .int .i64 b, .int .i64 c, .int .i64 d] 23)).alloc (.cells #[.int .u8 pb, .int .u16 pq] 61)).heap[D + 1]? = some (.cells #[.int .u8 pb, .int .u16 pq] 61) := (heap_new (by first | omega | (simp; omega)))
      have y1_0 := cell2_0 ld1
      have y1_1 := cell2_1 ld1
      clear ld1
      go_wp2_with fail
      refine (MK.out _).mono ?_
      rintro e v2 ⟨rfl, hb_v2⟩
      have cP_v2 : v2.heap[D]? = some (.cells #[.int .i64 a, .int .i64 b, .int .i64 c, .int .i64 d] 23) := (hb_v2.block (D) (Array.getElem?_eq_some_iff.1 (show ((w.alloc (.cells #[.int .i64 a, .int .i64 b, .int .i64 c, .int .i64 d] 23)).alloc (.cells #[.int .u8 pb, .int .u16 pq] 61)).heap[D]? = some (.cells #[.int .i64 a, .int .i64 b, .int .i64 c, .int .i64 d] 23) from (heap_old (o := .cells #[.int .u8 pb, .int .u16 pq] 61) (heap_new (by first | omega | (simp; omega)))))).1).trans (heap_old (o := .cells #[.int .u8 pb, .int .u16 pq] 61) (heap_new (by first | omega | (simp; omega))))
      have cX_v2 : v2.heap[D + 1]? = some (.cells #[.int .u8 pb, .int .u16 pq] 61) := (hb_v2.block (D + 1) (Array.getElem?_eq_some_iff.1 (show ((w.alloc (.cells #[.int .i64 a, .int .i64 b, .int .i64 c, .int .i64 d] 23)).alloc (.cells #[.int .u8 pb, .int .u16 pq] 61)).heap[D + 1]? = some (.cells #[.int .u8 pb, .int .u16 pq] 61) from (heap_new (by first | omega | (simp; omega))))).1).trans (heap_new (by first | omega | (simp; omega)))
      have hw_v2 : Below D w v2 := ((((Below.refl _ w).alloc (by first | omega | (simp; omega)) (.cells #[.int .i64 a, .int .i64 b, .int .i64 c, .int .i64 d] 23)).alloc (by first | omega | (simp; omega)) (.cells #[.int .u8 pb, .int .u16 pq] 61))).trans (hb_v2.mono (by first | omega | (simp; omega)))
      clear hb_v2 y1_0 y1_1
      obtain ⟨ES, hES⟩ : ∃ E, v2.heap.size = E := ⟨_, rfl⟩
      have ld3 : (v2.alloc (.cells #[.int .u64 lo, .int .u64 hi] 26)).heap[ES]? = some (.cells #[.int .u64 lo, .int .u64 hi] 26) := (heap_new (by first | omega | (simp; omega)))
      have y3_0 := cell2_0 ld3
      have y3_1 := cell2_1 ld3
      clear ld3
      go_wp2_with fail
      refine (LI.out _).mono ?_
      rintro e v4 ⟨⟨lv, rfl, hlv⟩, hb_v4⟩
      have hs_v4 := hw_v2.size
      have cP_v4 : v4.heap[D]? = some (.cells #[.int .i64 a, .int .i64 b, .int .i64 c, .int .i64 d] 23) := (hb_v4.block (D) (Array.getElem?_eq_some_iff.1 (show (v2.alloc (.cells #[.int .u64 lo, .int .u64 hi] 26)).heap[D]? = some (.cells #[.int .i64 a, .int .i64 b, .int .i64 c, .int .i64 d] 23) from (heap_old (o := .cells #[.int .u64 lo, .int .u64 hi] 26) cP_v2))).1).trans (heap_old (o := .cells #[.int .u64 lo, .int .u64 hi] 26) cP_v2)
      have cX_v4 : v4.heap[D + 1]? = some (.cells #[.int .u8 pb, .int .u16 pq] 61) := (hb_v4.block (D + 1) (Array.getElem?_eq_some_iff.1 (show (v2.alloc (.cells #[.int .u64 lo, .int .u64 hi] 26)).heap[D + 1]? = some (.cells #[.int .u8 pb, .int .u16 pq] 61) from (heap_old (o := .cells #[.int .u64 lo, .int .u64 hi] 26) cX_v2))).1).trans (heap_old (o := .cells #[.int .u64 lo, .int .u64 hi] 26) cX_v2)
      have cS_v4 : v4.heap[ES]? = some (.cells #[.int .u64 lo, .int .u64 hi] 26) := (hb_v4.block (ES) (Array.getElem?_eq_some_iff.1 (show (v2.alloc (.cells #[.int .u64 lo, .int .u64 hi] 26)).heap[ES]? = some (.cells #[.int .u64 lo, .int .u64 hi] 26) from (heap_new (by first | omega | (simp; omega))))).1).trans (heap_new (by first | omega | (simp; omega)))
      have hw_v4 : Below D w v4 := ((hw_v2.alloc (by have := hw_v2.size; first | omega | (simp; omega)) (.cells #[.int .u64 lo, .int .u64 hi] 26))).trans (hb_v4.mono (by first | omega | (simp; omega)))
      clear cP_v2 cX_v2 hb_v4 y3_0 y3_1 hw_v2 hs_v4
      obtain ⟨la, lc, rfl⟩ := hlv.len
      have G1 : Gl v4 := G.below (by rw [hD]; exact hw_v4)
      go_wp2_with fail
      refine (KN.out _ G1).mono ?_
      rintro e v5 ⟨rfl, hb_v5⟩
      have hs_v5 := hw_v4.size
      have cP_v5 : v5.heap[D]? = some (.cells #[.int .i64 a, .int .i64 b, .int .i64 c, .int .i64 d] 23) := (hb_v5.block (D) (Array.getElem?_eq_some_iff.1 (show v4.heap[D]? = some (.cells #[.int .i64 a, .int .i64 b, .int .i64 c, .int .i64 d] 23) from cP_v4)).1).trans cP_v4
      have cX_v5 : v5.heap[D + 1]? = some (.cells #[.int .u8 pb, .int .u16 pq] 61) := (hb_v5.block (D + 1) (Array.getElem?_eq_some_iff.1 (show v4.heap[D + 1]? = some (.cells #[.int .u8 pb, .int .u16 pq] 61) from cX_v4)).1).trans cX_v4
      have cS_v5 : v5.heap[ES]? = some (.cells #[.int .u64 lo, .int .u64 hi] 26) := (hb_v5.block (ES) (Array.getElem?_eq_some_iff.1 (show v4.heap[ES]? = some (.cells #[.int .u64 lo, .int .u64 hi] 26) from cS_v4)).1).trans cS_v4
      have hw_v5 : Below D w v5 := (hw_v4).trans (hb_v5.mono (by first | omega | (simp; omega)))
      clear cP_v4 cX_v4 cS_v4 hb_v5 hw_v4 hs_v5
      have ld6 : v5.heap[D]? = some (.cells #[.int .i64 a, .int .i64 b, .int .i64 c, .int .i64 d] 23) := cP_v5
      have y6_0 := cell4_0 ld6
      have y6_1 := cell4_1 ld6
      have y6_2 := cell4_2 ld6
      have y6_3 := cell4_3 ld6
      clear ld6
      go_wp2_with fail
      refine (CH.out _).mono ?_
      rintro e v7 ⟨rfl, hb_v7⟩
      have hs_v7 := hw_v5.size
      have cP_v7 : v7.heap[D]? = some (.cells #[.int .i64 a, .int .i64 b, .int .i64 c, .int .i64 d] 23) := (hb_v7.block (D) (Array.getElem?_eq_some_iff.1 (show v5.heap[D]? = some (.cells #[.int .i64 a, .int .i64 b, .int .i64 c, .int .i64 d] 23) from cP_v5)).1).trans cP_v5
      have cX_v7 : v7.heap[D + 1]? = some (.cells #[.int .u8 pb, .int .u16 pq] 61) := (hb_v7.block (D + 1) (Array.getElem?_eq_some_iff.1 (show v5.heap[D + 1]? = some (.cells #[.int .u8 pb, .int .u16 pq] 61) from cX_v5)).1).trans cX_v5
      have cS_v7 : v7.heap[ES]? = some (.cells #[.int .u64 lo, .int .u64 hi] 26) := (hb_v7.block (ES) (Array.getElem?_eq_some_iff.1 (show v5.heap[ES]? = some (.cells #[.int .u64 lo, .int .u64 hi] 26) from cS_v5)).1).trans cS_v5
      have hw_v7 : Below D w v7 := (hw_v5).trans (hb_v7.mono (by first | omega | (simp; omega)))
      clear cP_v5 cX_v5 cS_v5 hb_v7 y6_0 y6_1 y6_2 y6_3 hw_v5 hs_v7
      have G2 : Gl v7 := G.below (by rw [hD]; exact hw_v7)
      go_wp2_with fail
      refine (KN.out _ G2).mono ?_
      rintro e v8 ⟨rfl, hb_v8⟩
      have hs_v8 := hw_v7.size
      have cP_v8 : v8.heap[D]? = some (.cells #[.int .i64 a, .int .i64 b, .int .i64 c, .int .i64 d] 23) := (hb_v8.block (D) (Array.getElem?_eq_some_iff.1 (show v7.heap[D]? = some (.cells #[.int .i64 a, .int .i64 b, .int .i64 c, .int .i64 d] 23) from cP_v7)).1).trans cP_v7
      have cX_v8 : v8.heap[D + 1]? = some (.cells #[.int .u8 pb, .int .u16 pq] 61) := (hb_v8.block (D + 1) (Array.getElem?_eq_some_iff.1 (show v7.heap[D + 1]? = some (.cells #[.int .u8 pb, .int .u16 pq] 61) from cX_v7)).1).trans cX_v7
      have cS_v8 : v8.heap[ES]? = some (.cells #[.int .u64 lo, .int .u64 hi] 26) := (hb_v8.block (ES) (Array.getElem?_eq_some_iff.1 (show v7.heap[ES]? = some (.cells #[.int .u64 lo, .int .u64 hi] 26) from cS_v7)).1).trans cS_v7
      have hw_v8 : Below D w v8 := (hw_v7).trans (hb_v8.mono (by first | omega | (simp; omega)))
      clear cP_v7 cX_v7 cS_v7 hb_v8 hw_v7 hs_v8
      have HW := Lib.hid (hw_v8)
      clear KN CH MK LI
      go_wp2
      go_ret
      exact ⟨rfl, by first | exact HW.out | (rw [hD]; exact HW.out)⟩
  · rw [chk_ne a b c d hx] at CH
    clear hx tw
    go_enter Tryd.func7, Tryd.ntmps7
    have ld1 : ((w.alloc (.cells #[.int .i64 a, .int .i64 b, .int .i64 c, .int .i64 d] 23)).alloc (.cells #[.int .u8 pb, .int .u16 pq] 61)).heap[D + 1]? = some (.cells #[.int .u8 pb, .int .u16 pq] 61) := (heap_new (by first | omega | (simp; omega)))
    have y1_0 := cell2_0 ld1
    have y1_1 := cell2_1 ld1
    clear ld1
    go_wp2_with fail
    refine (MK.out _).mono ?_
    rintro e v2 ⟨rfl, hb_v2⟩
    have cP_v2 : v2.heap[D]? = some (.cells #[.int .i64 a, .int .i64 b, .int .i64 c, .int .i64 d] 23) := (hb_v2.block (D) (Array.getElem?_eq_some_iff.1 (show ((w.alloc (.cells #[.int .i64 a, .int .i64 b, .int .i64 c, .int .i64 d] 23)).alloc (.cells #[.int .u8 pb, .int .u16 pq] 61)).heap[D]? = some (.cells #[.int .i64 a, .int .i64 b, .int .i64 c, .int .i64 d] 23) from (heap_old (o := .cells #[.int .u8 pb, .int .u16 pq] 61) (heap_new (by first | omega | (simp; omega)))))).1).trans (heap_old (o := .cells #[.int .u8 pb, .int .u16 pq] 61) (heap_new (by first | omega | (simp; omega))))
    have cX_v2 : v2.heap[D + 1]? = some (.cells #[.int .u8 pb, .int .u16 pq] 61) := (hb_v2.block (D + 1) (Array.getElem?_eq_some_iff.1 (show ((w.alloc (.cells #[.int .i64 a, .int .i64 b, .int .i64 c, .int .i64 d] 23)).alloc (.cells #[.int .u8 pb, .int .u16 pq] 61)).heap[D + 1]? = some (.cells #[.int .u8 pb, .int .u16 pq] 61) from (heap_new (by first | omega | (simp; omega))))).1).trans (heap_new (by first | omega | (simp; omega)))
    have hw_v2 : Below D w v2 := ((((Below.refl _ w).alloc (by first | omega | (simp; omega)) (.cells #[.int .i64 a, .int .i64 b, .int .i64 c, .int .i64 d] 23)).alloc (by first | omega | (simp; omega)) (.cells #[.int .u8 pb, .int .u16 pq] 61))).trans (hb_v2.mono (by first | omega | (simp; omega)))
    clear hb_v2 y1_0 y1_1
    obtain ⟨ES, hES⟩ : ∃ E, v2.heap.size = E := ⟨_, rfl⟩
    have ld3 : (v2.alloc (.cells #[.int .u64 lo, .int .u64 hi] 26)).heap[ES]? = some (.cells #[.int .u64 lo, .int .u64 hi] 26) := (heap_new (by first | omega | (simp; omega)))
    have y3_0 := cell2_0 ld3
    have y3_1 := cell2_1 ld3
    clear ld3
    go_wp2_with fail
    refine (LI.out _).mono ?_
    rintro e v4 ⟨⟨lv, rfl, hlv⟩, hb_v4⟩
    have hs_v4 := hw_v2.size
    have cP_v4 : v4.heap[D]? = some (.cells #[.int .i64 a, .int .i64 b, .int .i64 c, .int .i64 d] 23) := (hb_v4.block (D) (Array.getElem?_eq_some_iff.1 (show (v2.alloc (.cells #[.int .u64 lo, .int .u64 hi] 26)).heap[D]? = some (.cells #[.int .i64 a, .int .i64 b, .int .i64 c, .int .i64 d] 23) from (heap_old (o := .cells #[.int .u64 lo, .int .u64 hi] 26) cP_v2))).1).trans (heap_old (o := .cells #[.int .u64 lo, .int .u64 hi] 26) cP_v2)
    have cX_v4 : v4.heap[D + 1]? = some (.cells #[.int .u8 pb, .int .u16 pq] 61) := (hb_v4.block (D + 1) (Array.getElem?_eq_some_iff.1 (show (v2.alloc (.cells #[.int .u64 lo, .int .u64 hi] 26)).heap[D + 1]? = some (.cells #[.int .u8 pb, .int .u16 pq] 61) from (heap_old (o := .cells #[.int .u64 lo, .int .u64 hi] 26) cX_v2))).1).trans (heap_old (o := .cells #[.int .u64 lo, .int .u64 hi] 26) cX_v2)
    have cS_v4 : v4.heap[ES]? = some (.cells #[.int .u64 lo, .int .u64 hi] 26) := (hb_v4.block (ES) (Array.getElem?_eq_some_iff.1 (show (v2.alloc (.cells #[.int .u64 lo, .int .u64 hi] 26)).heap[ES]? = some (.cells #[.int .u64 lo, .int .u64 hi] 26) from (heap_new (by first | omega | (simp; omega))))).1).trans (heap_new (by first | omega | (simp; omega)))
    have hw_v4 : Below D w v4 := ((hw_v2.alloc (by have := hw_v2.size; first | omega | (simp; omega)) (.cells #[.int .u64 lo, .int .u64 hi] 26))).trans (hb_v4.mono (by first | omega | (simp; omega)))
    clear cP_v2 cX_v2 hb_v4 y3_0 y3_1 hw_v2 hs_v4
    obtain ⟨la, lc, rfl⟩ := hlv.len
    have G1 : Gl v4 := G.below (by rw [hD]; exact hw_v4)
    go_wp2_with fail
    refine (KN.out _ G1).mono ?_
    rintro e v5 ⟨rfl, hb_v5⟩
    have hs_v5 := hw_v4.size
    have cP_v5 : v5.heap[D]? = some (.cells #[.int .i64 a, .int .i64 b, .int .i64 c, .int .i64 d] 23) := (hb_v5.block (D) (Array.getElem?_eq_some_iff.1 (show v4.heap[D]? = some (.cells #[.int .i64 a, .int .i64 b, .int .i64 c, .int .i64 d] 23) from cP_v4)).1).trans cP_v4
    have cX_v5 : v5.heap[D + 1]? = some (.cells #[.int .u8 pb, .int .u16 pq] 61) := (hb_v5.block (D + 1) (Array.getElem?_eq_some_iff.1 (show v4.heap[D + 1]? = some (.cells #[.int .u8 pb, .int .u16 pq] 61) from cX_v4)).1).trans cX_v4
    have cS_v5 : v5.heap[ES]? = some (.cells #[.int .u64 lo, .int .u64 hi] 26) := (hb_v5.block (ES) (Array.getElem?_eq_some_iff.1 (show v4.heap[ES]? = some (.cells #[.int .u64 lo, .int .u64 hi] 26) from cS_v4)).1).trans cS_v4
    have hw_v5 : Below D w v5 := (hw_v4).trans (hb_v5.mono (by first | omega | (simp; omega)))
    clear cP_v4 cX_v4 cS_v4 hb_v5 hw_v4 hs_v5
    have ld6 : v5.heap[D]? = some (.cells #[.int .i64 a, .int .i64 b, .int .i64 c, .int .i64 d] 23) := cP_v5
    have y6_0 := cell4_0 ld6
    have y6_1 := cell4_1 ld6
    have y6_2 := cell4_2 ld6
    have y6_3 := cell4_3 ld6
    clear ld6
    go_wp2_with fail
    refine (CH.out _).mono ?_
    rintro e v7 ⟨rfl, hb_v7⟩
    have hs_v7 := hw_v5.size
    have cP_v7 : v7.heap[D]? = some (.cells #[.int .i64 a, .int .i64 b, .int .i64 c, .int .i64 d] 23) := (hb_v7.block (D) (Array.getElem?_eq_some_iff.1 (show v5.heap[D]? = some (.cells #[.int .i64 a, .int .i64 b, .int .i64 c, .int .i64 d] 23) from cP_v5)).1).trans cP_v5
    have cX_v7 : v7.heap[D + 1]? = some (.cells #[.int .u8 pb, .int .u16 pq] 61) := (hb_v7.block (D + 1) (Array.getElem?_eq_some_iff.1 (show v5.heap[D + 1]? = some (.cells #[.int .u8 pb, .int .u16 pq] 61) from cX_v5)).1).trans cX_v5
    have cS_v7 : v7.heap[ES]? = some (.cells #[.int .u64 lo, .int .u64 hi] 26) := (hb_v7.block (ES) (Array.getElem?_eq_some_iff.1 (show v5.heap[ES]? = some (.cells #[.int .u64 lo, .int .u64 hi] 26) from cS_v5)).1).trans cS_v5
    have hw_v7 : Below D w v7 := (hw_v5).trans (hb_v7.mono (by first | omega | (simp; omega)))
    clear cP_v5 cX_v5 cS_v5 hb_v7 y6_0 y6_1 y6_2 y6_3 hw_v5 hs_v7
    have G2 : Gl v7 := G.below (by rw [hD]; exact hw_v7)
    go_wp2_with fail
    refine (KN.out _ G2).mono ?_
    rintro e v8 ⟨rfl, hb_v8⟩
    have hs_v8 := hw_v7.size
    have cP_v8 : v8.heap[D]? = some (.cells #[.int .i64 a, .int .i64 b, .int .i64 c, .int .i64 d] 23) := (hb_v8.block (D) (Array.getElem?_eq_some_iff.1 (show v7.heap[D]? = some (.cells #[.int .i64 a, .int .i64 b, .int .i64 c, .int .i64 d] 23) from cP_v7)).1).trans cP_v7
    have cX_v8 : v8.heap[D + 1]? = some (.cells #[.int .u8 pb, .int .u16 pq] 61) := (hb_v8.block (D + 1) (Array.getElem?_eq_some_iff.1 (show v7.heap[D + 1]? = some (.cells #[.int .u8 pb, .int .u16 pq] 61) from cX_v7)).1).trans cX_v7
    have cS_v8 : v8.heap[ES]? = some (.cells #[.int .u64 lo, .int .u64 hi] 26) := (hb_v8.block (ES) (Array.getElem?_eq_some_iff.1 (show v7.heap[ES]? = some (.cells #[.int .u64 lo, .int .u64 hi] 26) from cS_v7)).1).trans cS_v7
    have hw_v8 : Below D w v8 := (hw_v7).trans (hb_v8.mono (by first | omega | (simp; omega)))
    clear cP_v7 cX_v7 cS_v7 hb_v8 hw_v7 hs_v8
    have HW := Lib.hid (hw_v8)
    clear KN CH MK LI
    go_wp2
    go_ret
    exact ⟨rfl, by first | exact HW.out | (rw [hD]; exact HW.out)⟩
end Go.Proofs.YtinopmdefndhoaaDoor
