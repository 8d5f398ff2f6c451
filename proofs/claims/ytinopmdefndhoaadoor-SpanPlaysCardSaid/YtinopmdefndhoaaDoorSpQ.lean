/- The walk of SpanCounts, over what the package's functions answer. -/
import Derived.Test.YtinopmdefndhoaaDoorNsM
namespace Go.Proofs.YtinopmdefndhoaaDoor
open Go Go.RowKit Go.Shelf

def subL (l0 k m : Nat) : List Nat := ((List.range m).filter fun i => decide (k / 2 ^ i % 2 = 1)).map fun i => l0 + i
theorem subL_succ (l0 k m : Nat) : subL l0 k (m + 1) = if k / 2 ^ m % 2 = 1 then subL l0 k m ++ [l0 + m] else subL l0 k m := by
  unfold subL
  rw [List.range_succ, List.filter_append, List.map_append]
  by_cases h : k / 2 ^ m % 2 = 1 <;> simp [h]
theorem subL_length (l0 k m : Nat) : (subL l0 k m).length ≤ m := by
  unfold subL
  rw [List.length_map]
  exact Nat.le_trans (List.length_filter_le _ _) (by simp)
theorem subL_bd (l0 k m j : Nat) (h : l0 + m ≤ 128) (hj : j < (subL l0 k m).length) : 0 ≤ nth (subL l0 k m) j ∧ nth (subL l0 k m) j ≤ 127 := by
  have hm := List.getElem_mem hj
  unfold subL at hm
  obtain ⟨i, hi, he⟩ := List.mem_map.1 hm
  have := List.mem_range.1 (List.mem_filter.1 hi).1
  unfold nth
  rw [List.getD_eq_getElem?_getD, List.getElem?_eq_getElem hj]
  simp only [Option.getD_some]
  have e : (subL l0 k m)[j] = l0 + i := he.symm
  rw [e]
  omega
/-- How many divisions a subset has. -/
def dvN (a b : Int) (l0 x k : Nat) : Nat := (divU (nth (subL l0 k (x + 1))) (subL l0 k (x + 1)).length a b ((subL l0 k (x + 1)).length + 1)).length
/-- How many subsets of a compass two hands can hold. -/
def cntU (a b : Int) (l0 x m : Nat) : Nat := ((List.range m).filter fun k => decide (0 < dvN a b l0 x k)).length
theorem cntU_succ (a b : Int) (l0 x m : Nat) : cntU a b l0 x (m + 1) = if 0 < dvN a b l0 x m then cntU a b l0 x m + 1 else cntU a b l0 x m := by
  unfold cntU
  rw [List.range_succ, List.filter_append]
  by_cases h : 0 < dvN a b l0 x m <;> simp [h]
theorem cntU_le (a b : Int) (l0 x m : Nat) : cntU a b l0 x m ≤ m := by
  unfold cntU
  exact Nat.le_trans (List.length_filter_le _ _) (by simp)
theorem and_one_small : ∀ E : Fin 256, bits BinOp.and IntKind.i64 ((E.val : Nat) : Int) 1 = ((E.val % 2 : Nat) : Int) := by decide +kernel
theorem bit_any (k i : Nat) (hk : k < 256) : bits BinOp.and IntKind.i64 ((k : Int) / 2 ^ i) 1 = ((k / 2 ^ i % 2 : Nat) : Int) := by
  have h := and_one_small ⟨k / 2 ^ i, Nat.lt_of_le_of_lt (Nat.div_le_self _ _) hk⟩
  simpa using h
theorem shl_any (x : Nat) (hx : x < 8) : IntKind.i64.wrap (2 ^ (x + 1)) = ((2 ^ (x + 1) : Nat) : Int) ∧ 2 ^ (x + 1) ≤ 256 := by
  have : ∀ x : Fin 8, IntKind.i64.wrap (2 ^ (x.val + 1)) = ((2 ^ (x.val + 1) : Nat) : Int) ∧ 2 ^ (x.val + 1) ≤ 256 := by decide +kernel
  exact this ⟨x, hx⟩
theorem right_c (l h : Int) (w : World) : Calls Tryd.prog 30 #[.agg #[.int .i64 l, .int .i64 h]] w fun e w' => e = .returned (.int .i64 (compE l h)) ∧ Below w.heap.size w w' :=
  (right_any l h w).mono fun _ _ ⟨k1, k2⟩ => ⟨k1, by rw [k2]; exact (Below.refl _ _).alloc (Nat.le_refl _) _⟩
set_option maxRecDepth 100000 in
set_option maxHeartbeats 4000000 in
theorem counts_walk (a b c d l h : Int) (w : World) (G : Gl w) (kn : KnB Tryd.prog 12)
    (c1 : chk a b c d = 0 → compE l h ≠ 0 → ∀ W, Gl W → Calls Tryd.prog 21 #[.agg #[.int .i64 a, .int .i64 b, .int .i64 c, .int .i64 d], .agg #[.int .i64 l, .int .i64 h]] W fun e w' => e = .returned (.tuple #[.int .i64 0, .int .i64 (compE l h)]) ∧ Below W.heap.size W w')
    (c2 : chk a b c d = 0 → compE l h = 0 → 16 ≤ h - l → ∀ W, Gl W → Calls Tryd.prog 21 #[.agg #[.int .i64 a, .int .i64 b, .int .i64 c, .int .i64 d], .agg #[.int .i64 l, .int .i64 h]] W fun e w' => e = .returned (.tuple #[.int .i64 0, .int .i64 4]) ∧ Below W.heap.size W w')
    (c3 : chk a b c d = 0 → compE l h = 0 → 8 ≤ h - l → h - l < 16 → ∃ N : Nat, 1 ≤ N ∧ N ≤ 65536 ∧ ∀ W, Gl W → Calls Tryd.prog 21 #[.agg #[.int .i64 a, .int .i64 b, .int .i64 c, .int .i64 d], .agg #[.int .i64 l, .int .i64 h]] W fun e w' => e = .returned (.tuple #[.int .i64 (N : Int), .int .i64 0]) ∧ Below W.heap.size W w')
    (c4 : chk a b c d = 0 → compE l h = 0 → h - l < 8 → ∀ W, Gl W → Calls Tryd.prog 21 #[.agg #[.int .i64 a, .int .i64 b, .int .i64 c, .int .i64 d], .agg #[.int .i64 l, .int .i64 h]] W fun e w' => e = .returned (.tuple #[.int .i64 (cntU a b l.toNat (h - l).toNat (2 ^ ((h - l).toNat + 1)) : Nat), .int .i64 0]) ∧ Below W.heap.size W w') :
    Calls Tryd.prog 10 #[.agg #[.int .i64 a, .int .i64 b, .int .i64 c, .int .i64 d], .agg #[.int .i64 l, .int .i64 h]] w fun e w' => e = .returned (.bool true) ∧ Below w.heap.size w w' := by
  have KN := Lib.hid kn
  have CH := Lib.hid (fun W => chkp_any a b c d W)
  have RI := Lib.hid (fun W => right_c l h W)
  obtain ⟨D, hD⟩ : ∃ D, w.heap.size = D := ⟨_, rfl⟩
  clear kn
  by_cases hx : chk a b c d = 0
  · have C1 := Lib.hid (c1 hx)
    have C2 := Lib.hid (c2 hx)
    have C3 := Lib.hid (c3 hx)
    have C4 := Lib.hid (c4 hx)
    rw [hx] at CH
    clear hx c1 c2 c3 c4
    go_enter Tryd.func10, Tryd.ntmps10
    have G1 : Gl ((w.alloc (.cells #[.int .i64 a, .int .i64 b, .int .i64 c, .int .i64 d] 23)).alloc (.cells #[.int .i64 l, .int .i64 h] 45)) := G.below (by rw [hD]; exact (((Below.refl _ w).alloc (by first | omega | (simp; omega)) (.cells #[.int .i64 a, .int .i64 b, .int .i64 c, .int .i64 d] 23)).alloc (by first | omega | (simp; omega)) (.cells #[.int .i64 l, .int .i64 h] 45)))
    go_wp2_with fail
    refine (KN.out _ G1).mono ?_
    rintro e v1 ⟨rfl, hb_v1⟩
    have cP_v1 : v1.heap[D]? = some (.cells #[.int .i64 a, .int .i64 b, .int .i64 c, .int .i64 d] 23) := (hb_v1.block (D) (Array.getElem?_eq_some_iff.1 (show ((w.alloc (.cells #[.int .i64 a, .int .i64 b, .int .i64 c, .int .i64 d] 23)).alloc (.cells #[.int .i64 l, .int .i64 h] 45)).heap[D]? = some (.cells #[.int .i64 a, .int .i64 b, .int .i64 c, .int .i64 d] 23) from (heap_old (o := .cells #[.int .i64 l, .int .i64 h] 45) (heap_new (by first | omega | (simp; omega)))))).1).trans (heap_old (o := .cells #[.int .i64 l, .int .i64 h] 45) (heap_new (by first | omega | (simp; omega))))
    have cC_v1 : v1.heap[D + 1]? = some (.cells #[.int .i64 l, .int .i64 h] 45) := (hb_v1.block (D + 1) (Array.getElem?_eq_some_iff.1 (show ((w.alloc (.cells #[.int .i64 a, .int .i64 b, .int .i64 c, .int .i64 d] 23)).alloc (.cells #[.int .i64 l, .int .i64 h] 45)).heap[D + 1]? = some (.cells #[.int .i64 l, .int .i64 h] 45) from (heap_new (by first | omega | (simp; omega))))).1).trans (heap_new (by first | omega | (simp; omega)))
    have hw_v1 : Below D w v1 := ((((Below.refl _ w).alloc (by first | omega | (simp; omega)) (.cells #[.int .i64 a, .int .i64 b, .int .i64 c, .int .i64 d] 23)).alloc (by first | omega | (simp; omega)) (.cells #[.int .i64 l, .int .i64 h] 45))).trans (hb_v1.mono (by first | omega | (simp; omega)))
    clear hb_v1
    have ld2 : v1.heap[D]? = some (.cells #[.int .i64 a, .int .i64 b, .int .i64 c, .int .i64 d] 23) := cP_v1
    have y2_0 := cell4_0 ld2
    have y2_1 := cell4_1 ld2
    have y2_2 := cell4_2 ld2
    have y2_3 := cell4_3 ld2
    clear ld2
    go_wp2_with fail
    refine (CH.out _).mono ?_
    rintro e v3 ⟨rfl, hb_v3⟩
    have hs_v3 := hw_v1.size
    have cP_v3 : v3.heap[D]? = some (.cells #[.int .i64 a, .int .i64 b, .int .i64 c, .int .i64 d] 23) := (hb_v3.block (D) (Array.getElem?_eq_some_iff.1 (show v1.heap[D]? = some (.cells #[.int .i64 a, .int .i64 b, .int .i64 c, .int .i64 d] 23) from cP_v1)).1).trans cP_v1
    have cC_v3 : v3.heap[D + 1]? = some (.cells #[.int .i64 l, .int .i64 h] 45) := (hb_v3.block (D + 1) (Array.getElem?_eq_some_iff.1 (show v1.heap[D + 1]? = some (.cells #[.int .i64 l, .int .i64 h] 45) from cC_v1)).1).trans cC_v1
    have hw_v3 : Below D w v3 := (hw_v1).trans (hb_v3.mono (by first | omega | (simp; omega)))
    clear cP_v1 cC_v1 hb_v3 y2_0 y2_1 y2_2 y2_3 hw_v1 hs_v3
    have ld4 : v3.heap[D + 1]? = some (.cells #[.int .i64 l, .int .i64 h] 45) := cC_v3
    have y4_0 := cell2_0 ld4
    have y4_1 := cell2_1 ld4
    clear ld4
    go_wp2_with fail
    refine (RI.out _).mono ?_
    rintro e v5 ⟨rfl, hb_v5⟩
    have hs_v5 := hw_v3.size
    have cP_v5 : v5.heap[D]? = some (.cells #[.int .i64 a, .int .i64 b, .int .i64 c, .int .i64 d] 23) := (hb_v5.block (D) (Array.getElem?_eq_some_iff.1 (show v3.heap[D]? = some (.cells #[.int .i64 a, .int .i64 b, .int .i64 c, .int .i64 d] 23) from cP_v3)).1).trans cP_v3
    have cC_v5 : v5.heap[D + 1]? = some (.cells #[.int .i64 l, .int .i64 h] 45) := (hb_v5.block (D + 1) (Array.getElem?_eq_some_iff.1 (show v3.heap[D + 1]? = some (.cells #[.int .i64 l, .int .i64 h] 45) from cC_v3)).1).trans cC_v3
    have hw_v5 : Below D w v5 := (hw_v3).trans (hb_v5.mono (by first | omega | (simp; omega)))
    clear cP_v3 cC_v3 hb_v5 y4_0 y4_1 hw_v3 hs_v5
    by_cases hc : compE l h = 0
    · have hb : 0 ≤ l ∧ l ≤ h ∧ h ≤ 127 := by
        unfold compE at hc
        split at hc
        · cases hc
        · split at hc
          · cases hc
          · omega
      obtain ⟨hb0, hb1, hb2⟩ := hb
      by_cases h16 : 16 ≤ h - l
      · simp only [hc]
        have CC := Lib.hid (C2.out hc h16)
        clear C1 C2 C3 C4 RI CH KN
        have ld6 : v5.heap[D + 1]? = some (.cells #[.int .i64 l, .int .i64 h] 45) := cC_v5
        have y6_0 := cell2_0 ld6
        have y6_1 := cell2_1 ld6
        clear ld6
        have G3 : Gl v5 := G.below (by rw [hD]; exact hw_v5)
        have ld7 : v5.heap[D]? = some (.cells #[.int .i64 a, .int .i64 b, .int .i64 c, .int .i64 d] 23) := cP_v5
        have y7_0 := cell4_0 ld7
        have y7_1 := cell4_1 ld7
        have y7_2 := cell4_2 ld7
        have y7_3 := cell4_3 ld7
        clear ld7
        go_wp2_with fail
        refine (CC.out _ G3).mono ?_
        rintro e v8 ⟨rfl, hb_v8⟩
        have hs_v8 := hw_v5.size
        have cP_v8 : v8.heap[D]? = some (.cells #[.int .i64 a, .int .i64 b, .int .i64 c, .int .i64 d] 23) := (hb_v8.block (D) (Array.getElem?_eq_some_iff.1 (show v5.heap[D]? = some (.cells #[.int .i64 a, .int .i64 b, .int .i64 c, .int .i64 d] 23) from cP_v5)).1).trans cP_v5
        have cC_v8 : v8.heap[D + 1]? = some (.cells #[.int .i64 l, .int .i64 h] 45) := (hb_v8.block (D + 1) (Array.getElem?_eq_some_iff.1 (show v5.heap[D + 1]? = some (.cells #[.int .i64 l, .int .i64 h] 45) from cC_v5)).1).trans cC_v5
        have hw_v8 : Below D w v8 := (hw_v5).trans (hb_v8.mono (by first | omega | (simp; omega)))
        clear cP_v5 cC_v5 hb_v8 y6_0 y6_1 y7_0 y7_1 y7_2 y7_3 hw_v5 hs_v8
        have HW := Lib.hid (hw_v8)
        clear hc
        go_wp2
        go_ret
        exact ⟨rfl, by first | exact HW.out | (rw [hD]; exact HW.out)⟩
      · by_cases h8 : 8 ≤ h - l
        · simp only [hc]
          obtain ⟨N, n1, n2, CN⟩ := C3.out hc h8 (by omega)
          have n3 : (1 : Int) ≤ N := by omega
          have n4 : (N : Int) ≤ 65536 := by omega
          have CC := Lib.hid (CN)
          clear C1 C2 C3 C4 RI CH KN
          have ld6 : v5.heap[D + 1]? = some (.cells #[.int .i64 l, .int .i64 h] 45) := cC_v5
          have y6_0 := cell2_0 ld6
          have y6_1 := cell2_1 ld6
          clear ld6
          have G3 : Gl v5 := G.below (by rw [hD]; exact hw_v5)
          have ld7 : v5.heap[D]? = some (.cells #[.int .i64 a, .int .i64 b, .int .i64 c, .int .i64 d] 23) := cP_v5
          have y7_0 := cell4_0 ld7
          have y7_1 := cell4_1 ld7
          have y7_2 := cell4_2 ld7
          have y7_3 := cell4_3 ld7
          clear ld7
          go_wp2_with fail
          refine (CC.out _ G3).mono ?_
          rintro e v8 ⟨rfl, hb_v8⟩
          have hs_v8 := hw_v5.size
          have cP_v8 : v8.heap[D]? = some (.cells #[.int .i64 a, .int .i64 b, .int .i64 c, .int .i64 d] 23) := (hb_v8.block (D) (Array.getElem?_eq_some_iff.1 (show v5.heap[D]? = some (.cells #[.int .i64 a, .int .i64 b, .int .i64 c, .int .i64 d] 23) from cP_v5)).1).trans cP_v5
          have cC_v8 : v8.heap[D + 1]? = some (.cells #[.int .i64 l, .int .i64 h] 45) := (hb_v8.block (D + 1) (Array.getElem?_eq_some_iff.1 (show v5.heap[D + 1]? = some (.cells #[.int .i64 l, .int .i64 h] 45) from cC_v5)).1).trans cC_v5
          have hw_v8 : Below D w v8 := (hw_v5).trans (hb_v8.mono (by first | omega | (simp; omega)))
          clear cP_v5 cC_v5 hb_v8 y6_0 y6_1 y7_0 y7_1 y7_2 y7_3 hw_v5 hs_v8
          have ld9 : v8.heap[D + 1]? = some (.cells #[.int .i64 l, .int .i64 h] 45) := cC_v8
          have y9_0 := cell2_0 ld9
          have y9_1 := cell2_1 ld9
          clear ld9
          have HW := Lib.hid (hw_v8)
          clear hc
          go_wp2
          go_ret
          exact ⟨rfl, by first | exact HW.out | (rw [hD]; exact HW.out)⟩
        · simp only [hc]
          obtain ⟨l0, rfl⟩ : ∃ l0 : Nat, l = l0 := ⟨l.toNat, by omega⟩
          obtain ⟨x, hxx⟩ : ∃ x : Nat, h - l0 = x := ⟨(h - l0).toNat, by omega⟩
          have CC := Lib.hid (show ∀ W, Gl W → Calls Tryd.prog 21 #[.agg #[.int .i64 a, .int .i64 b, .int .i64 c, .int .i64 d], .agg #[.int .i64 (l0 : Int), .int .i64 h]] W fun e w' => e = .returned (.tuple #[.int .i64 (cntU a b l0 x (2 ^ (x + 1)) : Nat), .int .i64 0]) ∧ Below W.heap.size W w' from by have := C4.out hc (by omega); rwa [hxx, Int.toNat_natCast, Int.toNat_natCast] at this)
          clear C1 C2 C3 C4 RI CH KN
          have ld6 : v5.heap[D + 1]? = some (.cells #[.int .i64 (l0 : Int), .int .i64 h] 45) := cC_v5
          have y6_0 := cell2_0 ld6
          have y6_1 := cell2_1 ld6
          clear ld6
          have G3 : Gl v5 := G.below (by rw [hD]; exact hw_v5)
          have ld7 : v5.heap[D]? = some (.cells #[.int .i64 a, .int .i64 b, .int .i64 c, .int .i64 d] 23) := cP_v5
          have y7_0 := cell4_0 ld7
          have y7_1 := cell4_1 ld7
          have y7_2 := cell4_2 ld7
          have y7_3 := cell4_3 ld7
          clear ld7
          go_wp2_with fail
          refine (CC.out _ G3).mono ?_
          rintro e v8 ⟨rfl, hb_v8⟩
          have hs_v8 := hw_v5.size
          have cP_v8 : v8.heap[D]? = some (.cells #[.int .i64 a, .int .i64 b, .int .i64 c, .int .i64 d] 23) := (hb_v8.block (D) (Array.getElem?_eq_some_iff.1 (show v5.heap[D]? = some (.cells #[.int .i64 a, .int .i64 b, .int .i64 c, .int .i64 d] 23) from cP_v5)).1).trans cP_v5
          have cC_v8 : v8.heap[D + 1]? = some (.cells #[.int .i64 (l0 : Int), .int .i64 h] 45) := (hb_v8.block (D + 1) (Array.getElem?_eq_some_iff.1 (show v5.heap[D + 1]? = some (.cells #[.int .i64 (l0 : Int), .int .i64 h] 45) from cC_v5)).1).trans cC_v5
          have hw_v8 : Below D w v8 := (hw_v5).trans (hb_v8.mono (by first | omega | (simp; omega)))
          clear cP_v5 cC_v5 hb_v8 y6_0 y6_1 y7_0 y7_1 y7_2 y7_3 hw_v5 hs_v8
          have x8 : x < 8 := by omega
          obtain ⟨s1, s2⟩ := shl_any x x8
          obtain ⟨K, hK⟩ : ∃ K, 2 ^ (x + 1) = K := ⟨_, rfl⟩
          rw [hK] at s1 s2
          rw [hK]
          clear CC h16 h8 hc
          have hP := Lib.hid cP_v8
          have hC := Lib.hid cC_v8
          have zP := (Array.getElem?_eq_some_iff.1 cP_v8).1
          have zC := (Array.getElem?_eq_some_iff.1 cC_v8).1
          have hWV := Lib.hid hw_v8
          have x8i : (x : Int) < 8 := by omega
          clear cP_v8 cC_v8 hw_v8 G1 G3
          obtain ⟨i0, hi0, hz0, hz1, hz2⟩ := info_parts info_int
          have y9_0 := cell2_0 hC.out
          have y9_1 := cell2_1 hC.out
          go_wp2_with fail
          go_loopw [8, 9] (fun ct bt wr => ∃ k : Nat, k ≤ K ∧ ct = .int .i64 (cntU a b l0 x k : Nat) ∧ bt = .int .i64 (k : Int) ∧ Below v8.heap.size v8 wr) (fun _ bt _ => K - (intOf bt).toNat)
          case atStart => exact ⟨0, Nat.zero_le _, rfl, rfl, Below.refl _ _⟩
          case round =>
            obtain ⟨k, hk, rfl, rfl, hw⟩ := hrel
            obtain ⟨W1, hW1⟩ : ∃ W1, W1 = wr := ⟨_, rfl⟩
            subst hW1
            clear y9_0 y9_1
            have hc1 := (hw.block (D + 1) zC).trans hC.out
            have u0 := cell2_0 hc1
            have u1 := cell2_1 hc1
            have hcl := cntU_le a b l0 x k
            by_cases h1 : k < K
            · have h1i : (k : Int) < K := by omega
              have HCS := Lib.hid (cntU_succ a b l0 x k)
              obtain ⟨E, hE⟩ : ∃ E, W1.heap.size = E := ⟨_, rfl⟩
              have hzw := hw.size
              go_wp2_with fail
              go_loopw [10, 11] (fun lv it ws => ∃ j : Nat, j ≤ x + 1 ∧ it = .int .i64 (j : Int) ∧ ws.ownsRow E 3 1 lv (subL l0 k j).length (ints (subL l0 k j)) ∧ Below E W1 ws) (fun _ it _ => x + 1 - (intOf it).toNat)
              case atStart => exact ⟨0, Nat.zero_le _, rfl, World.ownsRow_nil _ _ _ _, by rw [← hE]; exact Below.refl _ _⟩
              case round =>
                obtain ⟨j, hj, rfl, hrow, hw2⟩ := hrel
                clear u0 u1
                have hc2 := (hw2.block (D + 1) (by omega)).trans hc1
                have u0 := cell2_0 hc2
                have u1 := cell2_1 hc2
                have hz3 := hw2.size
                have hsl := subL_length l0 k j
                have HRW := Lib.hid hrow
                have HW2 := Lib.hid hw2
                clear hrow hw2 hc2
                by_cases h2 : j ≤ x
                · have h2i : (j : Int) ≤ x := by omega
                  have HSS := Lib.hid (subL_succ l0 k j)
                  have hbit := bit_any k j (by omega)
                  by_cases h3 : k / 2 ^ j % 2 = 1
                  · rw [h3] at hbit
                    have hss := HSS.out
                    rw [if_pos h3] at hss
                    have HST := Lib.hid hss
                    clear hss HSS h3
                    have hrow5 := HRW.out
                    go_wp2_with (at_builtin; refine wpList_append_own _ rfl _ _ 48 rfl E 3 i0 (.int .i64 0) 1 8 Tryd.underlying48 hi0 hz0 hz1 hz2 rfl (by decide) _ _ _ rfl (hrow5.alloc _) ⟨wr.heap.size, 0, none⟩ 1 1 [.int .i64 ((l0 : Int) + j)] rfl rfl (cell_one_new _ _ _) (by simp [Value.oneCell']) (by unfold maxLen; omega) (by omega) (by simp; omega) ?_; intro v' w6 hown' hgrow _)
                    have hb6 := grown_below (by omega) hrow5 hgrow
                    go_roundw
                    case rel => exact ⟨j + 1, by omega, by go_num, by rw [HST.out]; simpa [ints] using hown', HW2.out.trans hb6⟩
                    case measure => simp [intOf] <;> omega
                  · have h30 : k / 2 ^ j % 2 = 0 := by omega
                    rw [h30] at hbit
                    have hss := HSS.out
                    rw [if_neg h3] at hss
                    have HST := Lib.hid hss
                    clear hss HSS h3 h30
                    go_wp2_with fail
                    go_roundw
                    case rel => exact ⟨j + 1, by omega, by go_num, by rw [HST.out]; exact HRW.out, HW2.out⟩
                    case measure => simp [intOf] <;> omega
                · obtain rfl : j = x + 1 := by omega
                  have h2i : ¬ ((x + 1 : Nat) : Int) ≤ x := by omega
                  have hL := lst_of HRW.out
                  have DV := Lib.hid (divisions_any _ _ _ a b c d wr hL (by omega) (fun i hi => subL_bd l0 k (x + 1) i (by omega) hi))
                  obtain ⟨q, hq⟩ : ∃ q, dvN a b l0 x k = q := ⟨_, rfl⟩
                  rw [show (divU (nth (subL l0 k (x + 1))) (subL l0 k (x + 1)).length a b ((subL l0 k (x + 1)).length + 1)).length = q from hq] at DV
                  have hcs := HCS.out
                  rw [hq] at hcs
                  have hp2 := ((HW2.out).block D (by omega)).trans ((hw.block D zP).trans hP.out)
                  have p0 := cell4_0 hp2
                  have p1 := cell4_1 hp2
                  have p2 := cell4_2 hp2
                  have p3 := cell4_3 hp2
                  clear hp2 HRW hL HCS hq hc1
                  by_cases h4 : 0 < q
                  · have h4i : (0 : Int) < q := by omega
                    rw [if_pos h4] at hcs
                    have HST := Lib.hid hcs
                    clear hcs
                    go_wp2_with fail
                    refine DV.out.mono ?_
                    rintro e w7 ⟨⟨dv, rfl, hdv⟩, hb7⟩
                    obtain ⟨a1, e1, rfl⟩ := hdv.len
                    clear hdv DV
                    go_wp2_with fail
                    go_roundw
                    case rel => exact ⟨k + 1, by omega, by rw [HST.out]; go_num, by go_num, hw.trans ((HW2.out.trans (hb7.mono (by omega))).mono (by omega))⟩
                    case measure => simp [intOf] <;> omega
                  · have h4i : ¬ (0 : Int) < q := by omega
                    rw [if_neg h4] at hcs
                    have HST := Lib.hid hcs
                    clear hcs
                    go_wp2_with fail
                    refine DV.out.mono ?_
                    rintro e w7 ⟨⟨dv, rfl, hdv⟩, hb7⟩
                    obtain ⟨a1, e1, rfl⟩ := hdv.len
                    clear hdv DV
                    go_wp2_with fail
                    go_roundw
                    case rel => exact ⟨k + 1, by omega, by rw [HST.out], by go_num, hw.trans ((HW2.out.trans (hb7.mono (by omega))).mono (by omega))⟩
                    case measure => simp [intOf] <;> omega
            · obtain rfl : k = K := by omega
              have h1i : ¬ ((k : Nat) : Int) < k := by omega
              have HWW := Lib.hid hw
              clear hw hc1
              go_wp2
              go_ret
              exact ⟨rfl, by first | exact hWV.out.trans (HWW.out.mono (by have := hWV.out.size; omega)) | (rw [hD]; exact hWV.out.trans (HWW.out.mono (by have := hWV.out.size; omega)))⟩
    · have CC := Lib.hid (C1.out hc)
      clear C1 C2 C3 C4 RI CH KN
      have ld6 : v5.heap[D + 1]? = some (.cells #[.int .i64 l, .int .i64 h] 45) := cC_v5
      have y6_0 := cell2_0 ld6
      have y6_1 := cell2_1 ld6
      clear ld6
      have G3 : Gl v5 := G.below (by rw [hD]; exact hw_v5)
      have ld7 : v5.heap[D]? = some (.cells #[.int .i64 a, .int .i64 b, .int .i64 c, .int .i64 d] 23) := cP_v5
      have y7_0 := cell4_0 ld7
      have y7_1 := cell4_1 ld7
      have y7_2 := cell4_2 ld7
      have y7_3 := cell4_3 ld7
      clear ld7
      go_wp2_with fail
      refine (CC.out _ G3).mono ?_
      rintro e v8 ⟨rfl, hb_v8⟩
      have hs_v8 := hw_v5.size
      have cP_v8 : v8.heap[D]? = some (.cells #[.int .i64 a, .int .i64 b, .int .i64 c, .int .i64 d] 23) := (hb_v8.block (D) (Array.getElem?_eq_some_iff.1 (show v5.heap[D]? = some (.cells #[.int .i64 a, .int .i64 b, .int .i64 c, .int .i64 d] 23) from cP_v5)).1).trans cP_v5
      have cC_v8 : v8.heap[D + 1]? = some (.cells #[.int .i64 l, .int .i64 h] 45) := (hb_v8.block (D + 1) (Array.getElem?_eq_some_iff.1 (show v5.heap[D + 1]? = some (.cells #[.int .i64 l, .int .i64 h] 45) from cC_v5)).1).trans cC_v5
      have hw_v8 : Below D w v8 := (hw_v5).trans (hb_v8.mono (by first | omega | (simp; omega)))
      clear cP_v5 cC_v5 hb_v8 y6_0 y6_1 y7_0 y7_1 y7_2 y7_3 hw_v5 hs_v8
      have HW := Lib.hid (hw_v8)
      go_wp2
      go_ret
      exact ⟨rfl, by first | exact HW.out | (rw [hD]; exact HW.out)⟩
  · rw [chk_ne a b c d hx] at CH
    clear hx c1 c2 c3 c4 RI
    go_enter Tryd.func10, Tryd.ntmps10
    have G1 : Gl ((w.alloc (.cells #[.int .i64 a, .int .i64 b, .int .i64 c, .int .i64 d] 23)).alloc (.cells #[.int .i64 l, .int .i64 h] 45)) := G.below (by rw [hD]; exact (((Below.refl _ w).alloc (by first | omega | (simp; omega)) (.cells #[.int .i64 a, .int .i64 b, .int .i64 c, .int .i64 d] 23)).alloc (by first | omega | (simp; omega)) (.cells #[.int .i64 l, .int .i64 h] 45)))
    go_wp2_with fail
    refine (KN.out _ G1).mono ?_
    rintro e v1 ⟨rfl, hb_v1⟩
    have cP_v1 : v1.heap[D]? = some (.cells #[.int .i64 a, .int .i64 b, .int .i64 c, .int .i64 d] 23) := (hb_v1.block (D) (Array.getElem?_eq_some_iff.1 (show ((w.alloc (.cells #[.int .i64 a, .int .i64 b, .int .i64 c, .int .i64 d] 23)).alloc (.cells #[.int .i64 l, .int .i64 h] 45)).heap[D]? = some (.cells #[.int .i64 a, .int .i64 b, .int .i64 c, .int .i64 d] 23) from (heap_old (o := .cells #[.int .i64 l, .int .i64 h] 45) (heap_new (by first | omega | (simp; omega)))))).1).trans (heap_old (o := .cells #[.int .i64 l, .int .i64 h] 45) (heap_new (by first | omega | (simp; omega))))
    have cC_v1 : v1.heap[D + 1]? = some (.cells #[.int .i64 l, .int .i64 h] 45) := (hb_v1.block (D + 1) (Array.getElem?_eq_some_iff.1 (show ((w.alloc (.cells #[.int .i64 a, .int .i64 b, .int .i64 c, .int .i64 d] 23)).alloc (.cells #[.int .i64 l, .int .i64 h] 45)).heap[D + 1]? = some (.cells #[.int .i64 l, .int .i64 h] 45) from (heap_new (by first | omega | (simp; omega))))).1).trans (heap_new (by first | omega | (simp; omega)))
    have hw_v1 : Below D w v1 := ((((Below.refl _ w).alloc (by first | omega | (simp; omega)) (.cells #[.int .i64 a, .int .i64 b, .int .i64 c, .int .i64 d] 23)).alloc (by first | omega | (simp; omega)) (.cells #[.int .i64 l, .int .i64 h] 45))).trans (hb_v1.mono (by first | omega | (simp; omega)))
    clear hb_v1
    have ld2 : v1.heap[D]? = some (.cells #[.int .i64 a, .int .i64 b, .int .i64 c, .int .i64 d] 23) := cP_v1
    have y2_0 := cell4_0 ld2
    have y2_1 := cell4_1 ld2
    have y2_2 := cell4_2 ld2
    have y2_3 := cell4_3 ld2
    clear ld2
    go_wp2_with fail
    refine (CH.out _).mono ?_
    rintro e v3 ⟨rfl, hb_v3⟩
    have hs_v3 := hw_v1.size
    have cP_v3 : v3.heap[D]? = some (.cells #[.int .i64 a, .int .i64 b, .int .i64 c, .int .i64 d] 23) := (hb_v3.block (D) (Array.getElem?_eq_some_iff.1 (show v1.heap[D]? = some (.cells #[.int .i64 a, .int .i64 b, .int .i64 c, .int .i64 d] 23) from cP_v1)).1).trans cP_v1
    have cC_v3 : v3.heap[D + 1]? = some (.cells #[.int .i64 l, .int .i64 h] 45) := (hb_v3.block (D + 1) (Array.getElem?_eq_some_iff.1 (show v1.heap[D + 1]? = some (.cells #[.int .i64 l, .int .i64 h] 45) from cC_v1)).1).trans cC_v1
    have hw_v3 : Below D w v3 := (hw_v1).trans (hb_v3.mono (by first | omega | (simp; omega)))
    clear cP_v1 cC_v1 hb_v3 y2_0 y2_1 y2_2 y2_3 hw_v1 hs_v3
    have G2 : Gl v3 := G.below (by rw [hD]; exact hw_v3)
    go_wp2_with fail
    refine (KN.out _ G2).mono ?_
    rintro e v4 ⟨rfl, hb_v4⟩
    have hs_v4 := hw_v3.size
    have cP_v4 : v4.heap[D]? = some (.cells #[.int .i64 a, .int .i64 b, .int .i64 c, .int .i64 d] 23) := (hb_v4.block (D) (Array.getElem?_eq_some_iff.1 (show v3.heap[D]? = some (.cells #[.int .i64 a, .int .i64 b, .int .i64 c, .int .i64 d] 23) from cP_v3)).1).trans cP_v3
    have cC_v4 : v4.heap[D + 1]? = some (.cells #[.int .i64 l, .int .i64 h] 45) := (hb_v4.block (D + 1) (Array.getElem?_eq_some_iff.1 (show v3.heap[D + 1]? = some (.cells #[.int .i64 l, .int .i64 h] 45) from cC_v3)).1).trans cC_v3
    have hw_v4 : Below D w v4 := (hw_v3).trans (hb_v4.mono (by first | omega | (simp; omega)))
    clear cP_v3 cC_v3 hb_v4 hw_v3 hs_v4
    have HW := Lib.hid (hw_v4)
    clear KN CH
    go_wp2
    go_ret
    exact ⟨rfl, by first | exact HW.out | (rw [hD]; exact HW.out)⟩
end Go.Proofs.YtinopmdefndhoaaDoor
