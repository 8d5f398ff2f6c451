/- Count. -/
import Derived.Test.YtinopmdefndhoaaDoorSpWa
import Derived.Test.YtinopmdefndhoaaDoorSpQ
namespace Go.Proofs.YtinopmdefndhoaaDoor
open Go Go.RowKit Go.Shelf

/-- How many sets of the lowest notes two hands can hold. -/
def cntP (a b : Int) (m : Nat) : Nat := ((List.range m).filter fun k => fndU (nth (Ns.notes k 0)) (Ns.notes k 0).length a b).length
theorem cntP_succ (a b : Int) (m : Nat) : cntP a b (m + 1) = if fndU (nth (Ns.notes m 0)) (Ns.notes m 0).length a b = true then cntP a b m + 1 else cntP a b m := by
  unfold cntP
  rw [List.range_succ, List.filter_append]
  by_cases h : fndU (nth (Ns.notes m 0)) (Ns.notes m 0).length a b = true <;> simp [h]
theorem cntP_le (a b : Int) (m : Nat) : cntP a b m ≤ m := by
  unfold cntP
  exact Nat.le_trans (List.length_filter_le _ _) (by simp)
theorem cntP_mono (a b : Int) (m k : Nat) (h : m ≤ k) : cntP a b m ≤ cntP a b k := by
  induction k with
  | zero => have : m = 0 := by omega
            subst this; exact Nat.le_refl _
  | succ k ih =>
    by_cases e : m = k + 1
    · subst e; exact Nat.le_refl _
    · have := ih (by omega)
      rw [cntP_succ]
      split <;> omega
theorem cntP_pos (a b : Int) (ha : 0 ≤ a) (hb : 0 ≤ b) (m : Nat) (hm : 1 ≤ m) : 1 ≤ cntP a b m := by
  have h1 : cntP a b 1 = 1 := by
    rw [cntP_succ, if_pos]
    · rfl
    · rw [Ns.notes_nil, fnd_iff]
      refine ⟨0, by simp, ?_⟩
      unfold divB
      rw [holdX_is _ _ _ _ hb, holdX_is _ _ _ _ hb]
      simp [wdX, ha, hb]
  have := cntP_mono a b 1 m hm
  omega
theorem subL_notes (k x : Nat) (hx : x < 16) (hk : k < 2 ^ (x + 1)) : subL 0 k (x + 1) = Ns.notes k 0 := by
  have h64 : k < 18446744073709551616 := Nat.lt_of_lt_of_le hk (Nat.le_trans (Nat.pow_le_pow_right (by decide) (show x + 1 ≤ 16 by omega)) (by decide))
  refine inc_ext _ _ ?_ (notes_inc _ _) fun m => ?_
  · unfold subL
    rw [List.pairwise_map]
    exact (List.Pairwise.filter _ List.pairwise_lt_range).imp (fun h => by omega)
  · rw [Ns.mem_notes]
    unfold subL
    simp only [List.mem_map, List.mem_filter, List.mem_range, decide_eq_true_eq]
    have ht : ∀ i, k.testBit i = decide (k / 2 ^ i % 2 = 1) := fun i => Nat.testBit_eq_decide_div_mod_eq
    constructor
    · rintro ⟨i, ⟨hi, hb⟩, rfl⟩
      refine ⟨by omega, ?_⟩
      unfold Ns.has
      rw [if_pos (by omega), Nat.zero_add, ht]
      exact decide_eq_true hb
    · rintro ⟨_, hb⟩
      unfold Ns.has at hb
      by_cases h : m < 64
      · rw [if_pos h] at hb
        refine ⟨m, ⟨?_, ?_⟩, by omega⟩
        · rcases Nat.lt_or_ge m (x + 1) with h' | h'
          · exact h'
          · rw [Nat.testBit_lt_two_pow (Nat.lt_of_lt_of_le hk (Nat.pow_le_pow_right (by decide) h'))] at hb; cases hb
        · rw [ht] at hb; exact of_decide_eq_true hb
      · rw [if_neg h] at hb; simp at hb
theorem subL_map (l0 k m : Nat) : subL l0 k m = (subL 0 k m).map (l0 + ·) := by
  unfold subL
  rw [List.map_map]
  congr 1
  funext i
  simp
theorem dvN_is (a b : Int) (l0 x k : Nat) (hx : x < 16) (hk : k < 2 ^ (x + 1)) : decide (0 < dvN a b l0 x k) = fndU (nth (Ns.notes k 0)) (Ns.notes k 0).length a b := by
  unfold dvN
  have e := subL_notes k x hx hk
  have e2 := subL_map l0 k (x + 1)
  rw [e] at e2
  rw [e2, List.length_map]
  refine fnd_up _ _ _ a b l0 fun j hj => ?_
  unfold nth
  rw [List.getD_eq_getElem?_getD, List.getD_eq_getElem?_getD, List.getElem?_map, List.getElem?_eq_getElem hj]
  simp
  omega
theorem cnt_is (a b : Int) (l0 x m : Nat) (hx : x < 16) (hm : m ≤ 2 ^ (x + 1)) : cntU a b l0 x m = cntP a b m := by
  unfold cntU cntP
  congr 1
  refine List.filter_congr fun k hk => ?_
  exact dvN_is a b l0 x k hx (by have := List.mem_range.1 hk; omega)

theorem first_b (a b c d : Int) (lo hi : Nat) (hb : 0 ≤ b) (hl : lo < 18446744073709551616) (hh : hi < 18446744073709551616) : ∃ x1 x2 y1 y2 : Nat, ∀ w, Gl w →
    Calls Tryd.prog 40 #[.agg #[.int .i64 a, .int .i64 b, .int .i64 c, .int .i64 d], .agg #[.int .u64 lo, .int .u64 hi]] w fun e w' => e = .returned (.tuple #[.agg #[.int .u64 x1, .int .u64 x2], .agg #[.int .u64 y1, .int .u64 y2], .bool (fndU (nth (Ns.notes lo hi)) (Ns.notes lo hi).length a b)]) ∧ Below w.heap.size w w' := by
  unfold fndU
  rcases hT : divU (nth (Ns.notes lo hi)) (Ns.notes lo hi).length a b ((Ns.notes lo hi).length + 1) with _ | ⟨t, T⟩
  · exact ⟨0, 0, 0, 0, fun w G => first_nil a b c d lo hi hb hl hh hT w G⟩
  · exact ⟨_, _, _, _, fun w G => first_cons a b c d lo hi hb hl hh t T hT w G⟩

set_option maxHeartbeats 1000000 in
theorem count_bad (a b c d l h : Int) (hx : ¬ chk a b c d = 0) (w : World) :
    Calls Tryd.prog 21 #[.agg #[.int .i64 a, .int .i64 b, .int .i64 c, .int .i64 d], .agg #[.int .i64 l, .int .i64 h]] w fun e w' => e = .returned (.tuple #[.int .i64 0, .int .i64 3]) ∧ Below w.heap.size w w' := by
  have hc := fun W => check_c a b c d W
  rw [chk_three hx] at hc
  have CC := Lib.hid hc
  clear hc hx
  obtain ⟨D, hD⟩ : ∃ D, w.heap.size = D := ⟨_, rfl⟩
  have hw1 : Below D w ((w.alloc (.cells #[.int .i64 a, .int .i64 b, .int .i64 c, .int .i64 d] 23)).alloc (.cells #[.int .i64 l, .int .i64 h] 45)) := ((Below.refl _ _).alloc (by omega) _).alloc (by simp; omega) _
  go_enter Tryd.func21, Tryd.ntmps21
  go_wp2_with fail
  refine (CC.out _).mono ?_
  rintro e v1 ⟨rfl, hb1⟩
  have hw2 : Below D w v1 := hw1.trans (hb1.mono (by simp; omega))
  go_wp2
  go_ret2
  exact ⟨rfl, by rw [hD]; exact hw2⟩

def CpAt (w : World) (k : Nat) (l h : Int) : Prop := w.heap[k]? = some (.cells #[.int .i64 l, .int .i64 h] 45)
theorem CpAt.lt {w : World} {k : Nat} {l h : Int} (q : CpAt w k l h) : k < w.heap.size := (Array.getElem?_eq_some_iff.1 q).1
theorem CpAt.below {w w' : World} {k B : Nat} {l h : Int} (q : CpAt w k l h) (hB : k < B) (hb : Below B w w') : CpAt w' k l h := (hb.block k hB).trans q

set_option maxHeartbeats 2000000 in
theorem count_comp (a b c d l h : Int) (hx : chk a b c d = 0) (hq : compE l h ≠ 0) (w : World) :
    Calls Tryd.prog 21 #[.agg #[.int .i64 a, .int .i64 b, .int .i64 c, .int .i64 d], .agg #[.int .i64 l, .int .i64 h]] w fun e w' => e = .returned (.tuple #[.int .i64 0, .int .i64 (compE l h)]) ∧ Below w.heap.size w w' := by
  have hc := fun W => check_c a b c d W
  rw [hx] at hc
  have CC := Lib.hid hc
  have KK := Lib.hid (fun W => check_any l h W)
  generalize compE l h = q at *
  clear hc hx
  obtain ⟨D, hD⟩ : ∃ D, w.heap.size = D := ⟨_, rfl⟩
  have hw1 : Below D w ((w.alloc (.cells #[.int .i64 a, .int .i64 b, .int .i64 c, .int .i64 d] 23)).alloc (.cells #[.int .i64 l, .int .i64 h] 45)) := ((Below.refl _ _).alloc (by omega) _).alloc (by simp; omega) _
  have hC1 : CpAt ((w.alloc (.cells #[.int .i64 a, .int .i64 b, .int .i64 c, .int .i64 d] 23)).alloc (.cells #[.int .i64 l, .int .i64 h] 45)) (D + 1) l h := heap_new (by simp [hD])
  go_enter Tryd.func21, Tryd.ntmps21
  go_wp2_with fail
  refine (CC.out _).mono ?_
  rintro e v1 ⟨rfl, hb1⟩
  have hw2 : Below D w v1 := hw1.trans (hb1.mono (by simp; omega))
  have hC2 := hC1.below hC1.lt hb1
  clear hw1 hC1 hb1
  have c0 := cell2_0 hC2
  have c1 := cell2_1 hC2
  go_wp2_with fail
  refine (KK.out _).mono ?_
  rintro e v2 ⟨rfl, rfl⟩
  go_wp2
  go_ret2
  exact ⟨rfl, by rw [hD]; exact hw2.alloc (by rw [← hD]; exact hw2.size) _⟩

theorem compE_ok {l h : Int} (q : compE l h = 0) : 0 ≤ l ∧ l ≤ h ∧ h ≤ 127 := by
  unfold compE at q
  split at q
  · cases q
  · split at q
    · cases q
    · omega

set_option maxHeartbeats 2000000 in
theorem count_lim (a b c d l h : Int) (hx : chk a b c d = 0) (hq : compE l h = 0) (h16 : 16 ≤ h - l) (w : World) :
    Calls Tryd.prog 21 #[.agg #[.int .i64 a, .int .i64 b, .int .i64 c, .int .i64 d], .agg #[.int .i64 l, .int .i64 h]] w fun e w' => e = .returned (.tuple #[.int .i64 0, .int .i64 4]) ∧ Below w.heap.size w w' := by
  have hc := fun W => check_c a b c d W
  rw [hx] at hc
  have CC := Lib.hid hc
  obtain ⟨q1, q2, q3⟩ := compE_ok hq
  have kk := fun W => check_any l h W
  rw [hq] at kk
  have KK := Lib.hid kk
  clear hc hx kk hq
  have k1 : IntKind.i64.wrap (h - l) = h - l := by rw [IntKind.wrap_i64]; omega
  have k2 : IntKind.i64.wrap (h - l + 1) = h - l + 1 := by rw [IntKind.wrap_i64]; omega
  have k3 : 16 < h - l + 1 := by omega
  obtain ⟨D, hD⟩ : ∃ D, w.heap.size = D := ⟨_, rfl⟩
  have hw1 : Below D w ((w.alloc (.cells #[.int .i64 a, .int .i64 b, .int .i64 c, .int .i64 d] 23)).alloc (.cells #[.int .i64 l, .int .i64 h] 45)) := ((Below.refl _ _).alloc (by omega) _).alloc (by simp; omega) _
  have hC1 : CpAt ((w.alloc (.cells #[.int .i64 a, .int .i64 b, .int .i64 c, .int .i64 d] 23)).alloc (.cells #[.int .i64 l, .int .i64 h] 45)) (D + 1) l h := heap_new (by simp [hD])
  go_enter Tryd.func21, Tryd.ntmps21
  go_wp2_with fail
  refine (CC.out _).mono ?_
  rintro e v1 ⟨rfl, hb1⟩
  have hw2 : Below D w v1 := hw1.trans (hb1.mono (by simp; omega))
  have hC2 := hC1.below hC1.lt hb1
  have hlt := hC2.lt
  clear hw1 hC1 hb1
  have c0 := cell2_0 hC2
  have c1 := cell2_1 hC2
  go_wp2_with fail
  refine (KK.out _).mono ?_
  rintro e v2 ⟨rfl, rfl⟩
  go_wp2
  go_ret2
  exact ⟨rfl, by rw [hD]; exact hw2.alloc (by rw [← hD]; exact hw2.size) _⟩

set_option maxRecDepth 100000 in
set_option maxHeartbeats 4000000 in
theorem count_ok (a b c d l h : Int) (hx : chk a b c d = 0) (hq : compE l h = 0) (h16 : h - l < 16) (w : World) (G : Gl w) :
    Calls Tryd.prog 21 #[.agg #[.int .i64 a, .int .i64 b, .int .i64 c, .int .i64 d], .agg #[.int .i64 l, .int .i64 h]] w fun e w' => e = .returned (.tuple #[.int .i64 (cntP a b (2 ^ ((h - l).toNat + 1)) : Nat), .int .i64 0]) ∧ Below w.heap.size w w' := by
  have hc := fun W => check_c a b c d W
  rw [hx] at hc
  have CC := Lib.hid hc
  obtain ⟨q1, q2, q3⟩ := compE_ok hq
  have kk := fun W => check_any l h W
  rw [hq] at kk
  have KK := Lib.hid kk
  have FB := Lib.hid (fun (k : Nat) (hk : k < 18446744073709551616) => first_b a b c d k 0 (chk_b hx) hk (by decide))
  have CS := Lib.hid (cntP_succ a b)
  have CL := Lib.hid (cntP_le a b)
  generalize hf : (fun k => fndU (nth (Ns.notes k 0)) (Ns.notes k 0).length a b) = ff at *
  have HF := Lib.hid (fun k => (congrFun hf k : fndU (nth (Ns.notes k 0)) (Ns.notes k 0).length a b = ff k))
  clear hc hx kk hq hf
  generalize cntP a b = cn at *
  have k1 : IntKind.i64.wrap (h - l) = h - l := by rw [IntKind.wrap_i64]; omega
  have k2 : IntKind.i64.wrap (h - l + 1) = h - l + 1 := by rw [IntKind.wrap_i64]; omega
  have k3 : ¬ 16 < h - l + 1 := by omega
  have k4 : (h - l + 1).toNat = (h - l).toNat + 1 := by omega
  have k5 : 0 ≤ h - l + 1 := by omega
  have hp : 2 ^ ((h - l).toNat + 1) ≤ 2 ^ 16 := Nat.pow_le_pow_right (by decide) (by omega)
  have k6 : IntKind.u64.wrap ((2 : Int) ^ ((h - l).toNat + 1)) = ((2 ^ ((h - l).toNat + 1) : Nat) : Int) := by
    have e : ((2 : Int) ^ ((h - l).toNat + 1)) = ((2 ^ ((h - l).toNat + 1) : Nat) : Int) := by simp
    rw [e, IntKind.wrap_u64]
    generalize 2 ^ ((h - l).toNat + 1) = m at hp ⊢
    omega
  obtain ⟨D, hD⟩ : ∃ D, w.heap.size = D := ⟨_, rfl⟩
  have hw1 : Below D w ((w.alloc (.cells #[.int .i64 a, .int .i64 b, .int .i64 c, .int .i64 d] 23)).alloc (.cells #[.int .i64 l, .int .i64 h] 45)) := ((Below.refl _ _).alloc (by omega) _).alloc (by simp; omega) _
  have hC1 : CpAt ((w.alloc (.cells #[.int .i64 a, .int .i64 b, .int .i64 c, .int .i64 d] 23)).alloc (.cells #[.int .i64 l, .int .i64 h] 45)) (D + 1) l h := heap_new (by simp [hD])
  have hP1 : PlAt ((w.alloc (.cells #[.int .i64 a, .int .i64 b, .int .i64 c, .int .i64 d] 23)).alloc (.cells #[.int .i64 l, .int .i64 h] 45)) D a b c d := heap_old (heap_new hD.symm)
  go_enter Tryd.func21, Tryd.ntmps21
  go_wp2_with fail
  refine (CC.out _).mono ?_
  rintro e v1 ⟨rfl, hb1⟩
  have hw2 : Below D w v1 := hw1.trans (hb1.mono (by simp; omega))
  have hC2 := hC1.below hC1.lt hb1
  have hP2 := hP1.below hP1.lt hb1
  have hlt := hC2.lt
  clear hw1 hC1 hP1 hb1
  have c0 := cell2_0 hC2
  have c1 := cell2_1 hC2
  go_wp2_with fail
  refine (KK.out _).mono ?_
  rintro e v2 ⟨rfl, rfl⟩
  generalize hM : 2 ^ ((h - l).toNat + 1) = M at *
  have HM := Lib.hid hM
  clear hM
  go_wp2_with fail
  obtain ⟨V, hV⟩ : ∃ V, v1.alloc (.cells #[.int .i64 l, .int .i64 h] 45) = V := ⟨_, rfl⟩
  have hwV : Below D w V := by rw [← hV]; exact hw2.alloc (by rw [← hD]; exact hw2.size) _
  have hPV : PlAt V D a b c d := by rw [← hV]; exact heap_old hP2
  rw [hV]
  clear hV hw2 hC2 hP2 hlt c0 c1
  go_loopw [34, 9] (fun i v wr => ∃ k : Nat, k ≤ M ∧ i = .int .u64 (k : Nat) ∧ v = .int .i64 (cn k : Nat) ∧ Below D w wr ∧ PlAt wr D a b c d) (fun i _ _ => M - (intOf i).toNat)
  case atStart => exact ⟨0, Nat.zero_le _, rfl, by have := CL.out 0; rw [show cn 0 = 0 by omega]; rfl, hwV, hPV⟩
  case round =>
    obtain ⟨k, hk, rfl, rfl, hwr, hPr⟩ := hrel
    by_cases hkM : k = M
    · subst hkM
      have hlt : ¬ (k : Int) < (k : Int) := by omega
      go_wp2
      go_ret2
      refine ⟨by rw [HM.out]; exact rfl, by first | exact hwr | (rw [hD]; exact hwr)⟩
    · have hkl : (k : Int) < (M : Int) := by omega
      obtain ⟨x1, x2, y1, y2, hfb⟩ := FB.out k (by omega)
      rw [HF.out] at hfb
      have FC := Lib.hid hfb
      have CSk := Lib.hid (CS.out k)
      rw [HF.out] at CSk
      have clk := CL.out k
      clear hfb
      generalize ff k = r at *
      have c0 := cell4_0 hPr
      have c1 := cell4_1 hPr
      have c2 := cell4_2 hPr
      have c3 := cell4_3 hPr
      have Gr : Gl wr := G.below (by rw [hD]; exact hwr)
      have hsz := hwr.size
      have w1 : IntKind.u64.wrap ((k : Int) + 1) = ((k + 1 : Nat) : Int) := by rw [IntKind.wrap_u64]; omega
      have w2 : IntKind.i64.wrap ((cn k : Int) + 1) = ((cn k + 1 : Nat) : Int) := by rw [IntKind.wrap_i64]; omega
      go_wp2_with fail
      refine (FC.out _ Gr).mono ?_
      rintro e v2 ⟨rfl, hb2⟩
      have hw4 : Below D w v2 := hwr.trans (hb2.mono (by omega))
      have hP4 := hPr.below hPr.lt hb2
      have hsz2 := hw4.size
      clear c0 c1 c2 c3
      cases r with
      | false =>
        go_wp2_with fail
        go_roundw
        case rel =>
          refine ⟨k + 1, by omega, rfl, by have e := CSk.out; simp at e; rw [e], (hw4.alloc (by omega) _).alloc (by simp; omega) _, heap_old (heap_old hP4)⟩
        case measure => simp [intOf]; omega
      | true =>
        go_wp2_with fail
        go_roundw
        case rel =>
          refine ⟨k + 1, by omega, rfl, by have e := CSk.out; simp only [if_true] at e; rw [e]; first | rfl | simp, (hw4.alloc (by omega) _).alloc (by simp; omega) _, heap_old (heap_old hP4)⟩
        case measure => simp [intOf]; omega
end Go.Proofs.YtinopmdefndhoaaDoor
