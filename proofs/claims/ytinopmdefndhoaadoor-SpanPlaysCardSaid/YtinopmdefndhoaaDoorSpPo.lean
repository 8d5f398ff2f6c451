/- Possible, a right player. -/
import Derived.Test.YtinopmdefndhoaaDoorSpKe
namespace Go.Proofs.YtinopmdefndhoaaDoor
open Go Go.RowKit Go.Shelf

/-- The sets of the pedals, and those of the manuals that hold notes. -/
def peL (F : Nat → DivD) (S : Nat → Nat × Nat) : Nat → List (Nat × Nat)
  | 0 => []
  | k + 1 => if (F k).ped = true then peL F S k ++ [S k] else peL F S k
def maL (F : Nat → DivD) (S : Nat → Nat × Nat) : Nat → List (Nat × Nat)
  | 0 => []
  | k + 1 => if (F k).ped = false ∧ (setN (S k)).length ≠ 0 then maL F S k ++ [S k] else maL F S k
def getS (l : List (Nat × Nat)) (i : Nat) : Nat × Nat := l.getD i (0, 0)
theorem peL_le (F : Nat → DivD) (S : Nat → Nat × Nat) (k : Nat) : (peL F S k).length ≤ k ∧ (maL F S k).length ≤ k := by
  induction k with
  | zero => exact ⟨Nat.le_refl _, Nat.le_refl _⟩
  | succ k ih =>
    unfold peL maL
    constructor
    · split <;> (try simp only [List.length_append, List.length_singleton]) <;> omega
    · split <;> (try simp only [List.length_append, List.length_singleton]) <;> omega
theorem peL_bd (F : Nat → DivD) (S : Nat → Nat × Nat) (k : Nat) (h : ∀ i, i < k → (S i).1 < 18446744073709551616 ∧ (S i).2 < 18446744073709551616) :
    (∀ s ∈ peL F S k, s.1 < 18446744073709551616 ∧ s.2 < 18446744073709551616) ∧ ∀ s ∈ maL F S k, s.1 < 18446744073709551616 ∧ s.2 < 18446744073709551616 := by
  induction k with
  | zero => exact ⟨fun s hs => (by cases hs), fun s hs => (by cases hs)⟩
  | succ k ih =>
    obtain ⟨i1, i2⟩ := ih fun i hi => h i (by omega)
    constructor
    · intro s hs
      unfold peL at hs
      split at hs
      · rcases List.mem_append.1 hs with q | q
        · exact i1 s q
        · rw [List.mem_singleton.1 q]; exact h k (by omega)
      · exact i1 s hs
    · intro s hs
      unfold maL at hs
      split at hs
      · rcases List.mem_append.1 hs with q | q
        · exact i2 s q
        · rw [List.mem_singleton.1 q]; exact h k (by omega)
      · exact i2 s hs
theorem getS_bd {l : List (Nat × Nat)} (h : ∀ s ∈ l, s.1 < 18446744073709551616 ∧ s.2 < 18446744073709551616) : ∀ i, i < l.length → (getS l i).1 < 18446744073709551616 ∧ (getS l i).2 < 18446744073709551616 := by
  intro i hi
  unfold getS
  rw [List.getD_eq_getElem?_getD, List.getElem?_eq_getElem hi]
  exact h _ (List.getElem_mem hi)
theorem pairs_len (l : List (Nat × Nat)) : (pairs l).length = 2 * l.length := by
  induction l with
  | nil => rfl
  | cons s l ih => unfold pairs at *; simp [ih]; omega
theorem pairs_at (l : List (Nat × Nat)) : ∀ i, i < l.length → (pairs l)[i * 2]? = some (.int .u64 ((getS l i).1 : Nat)) ∧ (pairs l)[i * 2 + 1]? = some (.int .u64 ((getS l i).2 : Nat)) := by
  induction l with
  | nil => intro i hi; simp at hi
  | cons s l ih =>
    intro i hi
    have e : pairs (s :: l) = .int .u64 (s.1 : Nat) :: .int .u64 (s.2 : Nat) :: pairs l := by unfold pairs; simp
    rw [e]
    cases i with
    | zero => exact ⟨rfl, rfl⟩
    | succ i =>
      have := ih i (by simpa using hi)
      rw [show (i + 1) * 2 = i * 2 + 1 + 1 by omega]
      simp only [List.getElem?_cons_succ]
      exact this
theorem sets_of_row {W : World} {B : Nat} {v : Value} {l : List (Nat × Nat)} (h : W.ownsRow B 26 2 v l.length (pairs l)) : SetsAt W v l.length (getS l) := by
  obtain ⟨a, c, rfl, hc⟩ := row_form h
  refine ⟨a, c, rfl, fun h0 => ?_⟩
  obtain ⟨g, rfl, hg, hx⟩ := hc h0
  refine ⟨g, 0, rfl, hg, fun i hi => ?_⟩
  obtain ⟨q0, q1⟩ := pairs_at l i hi
  rw [Nat.zero_add]
  exact ⟨hx _ _ q0, hx _ _ q1⟩
theorem cell_two_b (w : World) (B : Nat) (hB : B = w.heap.size) (x y : Value) (t : TypeId) : ∀ j u, [x, y][j]? = some u → (w.alloc (.cells #[x, y] t)).cell? ((⟨B, 0, none⟩ : Addr).add j) = some u := by
  subst hB
  exact cell_two_new w x y t
def RowsP (W : World) (E : Nat) (av bv : Value) (la lb : List (Nat × Nat)) : Prop :=
  W.ownsRow E 26 2 av la.length (pairs la) ∧ W.ownsRow E 26 2 bv lb.length (pairs lb) ∧ (av.ownBlock = none ∨ av.ownBlock ≠ bv.ownBlock)
theorem RowsP.below {A B : World} {E : Nat} {av bv : Value} {la lb : List (Nat × Nat)} (h : RowsP A E av bv la lb) (hb : Below A.heap.size A B) : RowsP B E av bv la lb :=
  ⟨ownsRow_below h.1 hb, ownsRow_below h.2.1 hb, h.2.2⟩
theorem rowsP_swap {W : World} {E : Nat} {av bv : Value} {la lb : List (Nat × Nat)} (h : RowsP W E av bv la lb) : RowsP W E bv av lb la := by
  refine ⟨h.2.1, h.1, ?_⟩
  rcases h.2.2 with k | k
  · rw [k]
    cases bv.ownBlock with
    | none => exact .inl rfl
    | some g => exact .inr (by simp)
  · exact .inr (Ne.symm k)
theorem rowsP_left {W w' : World} {E : Nat} {s : Nat × Nat} {av bv v' : Value} {la lb : List (Nat × Nat)} {o : Obj} (h : RowsP W E av bv la lb) (hown : w'.ownsRow E 26 2 v' (la.length + 1) (pairs la ++ [.int .u64 (s.1 : Nat), .int .u64 (s.2 : Nat)]))
    (hg : (W.alloc o).grownBy w' av.ownBlock) (hat : v'.ownBlock = av.ownBlock ∨ v'.ownBlock = some (W.alloc o).heap.size) : RowsP w' E v' bv (la ++ [s]) lb := by
  have h3 := h.2.2
  refine ⟨by rw [pairs_snoc]; simpa using hown, (h.2.1.alloc o).kept hg ?_, ?_⟩
  · rcases h3 with k | k
    · rw [k]
      cases bv.ownBlock with
      | none => exact .inl rfl
      | some g => exact .inr (by simp)
    · exact .inr (Ne.symm k)
  · rcases hat with k | k
    · rw [k]; exact h3
    · rw [k]
      refine .inr fun he => ?_
      have := row_lt h.2.1 he.symm
      simp at this
      omega

def possB (a b c d : Int) (F : Nat → DivD) (S : Nat → Nat × Nat) (n : Nat) : Bool :=
  feetB c d (getS (peL F S n)) (peL F S n).length && hndB a b (getS (maL F S n)) (maL F S n).length

set_option maxRecDepth 100000 in
set_option maxHeartbeats 4000000 in
theorem poss_ok (a b c d : Int) (lv kv : Value) (nl nk : Nat) (F : Nat → DivD) (S : Nat → Nat × Nat) (w : World) (G : Gl w) (hx : chk a b c d = 0) (hl : DivsF w lv nl F) (hk : SetsAt w kv nk S) (hn : nl ≤ 4) (hn2 : nk ≤ 4)
    (hS : ∀ i, i < nk → (S i).1 < 18446744073709551616 ∧ (S i).2 < 18446744073709551616) (q : Int) (hq : (if nk ≠ nl then 5 else keyE F S nl) = q) :
    Calls Tryd.prog 20 #[.agg #[.int .i64 a, .int .i64 b, .int .i64 c, .int .i64 d], lv, kv] w fun e w' => e = .returned (.tuple #[.bool (if q = 0 then possB a b c d F S nl else false), .int .i64 q]) ∧ Below w.heap.size w w' := by
  obtain ⟨R, hR⟩ : ∃ R, (if q = 0 then possB a b c d F S nl else false) = R := ⟨_, rfl⟩
  rw [hR]
  have HRV := Lib.hid hR
  clear hR
  have hl0 := hl
  have hk0 := hk
  obtain ⟨la, lc, rfl, hl⟩ := hl
  obtain ⟨ka, kc, rfl, hk⟩ := hk
  have hc := fun W => check_c a b c d W
  rw [hx] at hc
  have CC := Lib.hid hc
  have KE := Lib.hid (fun W h1 h2 => keys_any (.slice la nl lc) (.slice ka nk kc) nl nk F S W h1 h2 (by omega) (by omega) hS)
  rw [hq] at KE
  have HL0 := Lib.hid hl0
  have HK0 := Lib.hid hk0
  have hb0 := chk_b hx
  clear hc hx hl0 hk0
  obtain ⟨D, hD⟩ : ∃ D, w.heap.size = D := ⟨_, rfl⟩
  have hw1 : Below D w (w.alloc (.cells #[.int .i64 a, .int .i64 b, .int .i64 c, .int .i64 d] 23)) := (Below.refl _ _).alloc (by omega) _
  have hP1 : PlAt (w.alloc (.cells #[.int .i64 a, .int .i64 b, .int .i64 c, .int .i64 d] 23)) D a b c d := heap_new hD.symm
  go_enter Tryd.func20, Tryd.ntmps20
  go_wp2_with fail
  refine (CC.out _).mono ?_
  rintro e v1 ⟨rfl, hb1⟩
  have hw2 : Below D w v1 := hw1.trans (hb1.mono (by simp; omega))
  have hP2 := hP1.below hP1.lt hb1
  clear hw1 hP1 hb1
  have hL2 : DivsF v1 (.slice la nl lc) nl F := HL0.out.below (by rw [hD]; exact hw2)
  have hK2 : SetsAt v1 (.slice ka nk kc) nk S := HK0.out.below (by rw [hD]; exact hw2)
  go_wp2_with fail
  refine (KE.out _ hL2 hK2).mono ?_
  rintro e v2 ⟨rfl, hb2⟩
  have hz1 : D ≤ v1.heap.size := by rw [← hD]; exact hw2.size
  have hw3 : Below D w v2 := hw2.trans (hb2.mono hz1)
  have hP3 := hP2.below hP2.lt hb2
  clear hw2 hP2 hb2 hz1 hL2 hK2
  by_cases hq0 : q = 0
  rotate_left
  · have hr := HRV.out
    rw [if_neg hq0] at hr
    have hqq : (q != 0) = true := by simp [hq0]
    subst hr
    go_wp2
    go_ret2
    exact ⟨rfl, by rw [hD]; exact hw3⟩
  subst hq0
  have hr := HRV.out
  rw [if_pos rfl] at hr
  have HR2 := Lib.hid hr
  clear hr HRV
  have hne : nk = nl := by
    by_cases h : nk = nl
    · exact h
    · rw [if_pos h] at hq; cases hq
  subst hne
  clear hq hn2
  obtain ⟨i0, hi0, hq0, hq1, hq2⟩ := info_parts info_notes
  have HL := Lib.hid hl
  have HK := Lib.hid hk
  have HF := Lib.hid (fun W g (pv : Value) (h : SetsAt W pv (peL F S nk).length (getS (peL F S nk))) => fh_any a b c d pv (peL F S nk).length (getS (peL F S nk)) W g (by have := (peL_le F S nk).1; omega) h (getS_bd (peL_bd F S nk hS).1))
  have HH := Lib.hid (fun W g (mv : Value) (h : SetsAt W mv (maL F S nk).length (getS (maL F S nk))) => hnd_any a b c d mv (maL F S nk).length (getS (maL F S nk)) W g hb0 h (getS_bd (peL_bd F S nk hS).2))
  clear hl hk hb0 CC KE
  go_wp2_with fail
  go_loopw [10, 11, 27] (fun pv mv i wr => ∃ k : Nat, k ≤ nk ∧ i = .int .i64 (k : Nat) ∧ RowsP wr (D + 1) pv mv (peL F S k) (maL F S k) ∧ Below (D + 1) v2 wr) (fun _ _ i _ => nk - (intOf i).toNat)
  case atStart => exact ⟨0, Nat.zero_le _, rfl, ⟨World.ownsRow_nil _ _ _ _, World.ownsRow_nil _ _ _ _, .inl rfl⟩, Below.refl _ _⟩
  case round =>
    obtain ⟨k, hk, rfl, hrow, hwr⟩ := hrel
    have hpl := hP3.lt
    have hzr := hwr.size
    have hz2 : D ≤ v2.heap.size := by rw [← hD]; exact hw3.size
    have hwD : Below D w wr := hw3.trans (hwr.mono (by omega))
    by_cases hkn : k < nk
    · have hkl : (k : Int) < (nk : Int) := by omega
      obtain ⟨gl, ol, rfl, hgl, hcl⟩ := HL.out (by omega)
      obtain ⟨g, o, rfl, hg, hck⟩ := HK.out (by omega)
      obtain ⟨z0, z1, z2, z3, z4⟩ := hcl k (by omega)
      obtain ⟨p0, p1⟩ := hck k (by omega)
      have hs := hS k (by omega)
      have TP := Lib.hid (show peL F S (k + 1) = if (F k).ped = true then peL F S k ++ [S k] else peL F S k from rfl)
      have TM := Lib.hid (show maL F S (k + 1) = if (F k).ped = false ∧ (setN (S k)).length ≠ 0 then maL F S k ++ [S k] else maL F S k from rfl)
      obtain ⟨bd1, bd2⟩ := peL_le F S k
      generalize peL F S k = pl at *
      generalize maL F S k = ml at *
      generalize F k = f at *
      generalize S k = s at *
      obtain ⟨nm, pd, l, h, sa, sn, sc⟩ := f
      simp only at z0 z1 z2 z3 z4 TP TM
      have hgD : g < D := by omega
      have hlD : gl < D := by omega
      have z0 := cell_upH hlD hwD z0
      have z1 := cell_upH hlD hwD z1
      have z2 := cell_upH hlD hwD z2
      have z3 := cell_upH hlD hwD z3
      have z4 := cell_upH hlD hwD z4
      have p0 := cell_upH hgD hwD p0
      have p1 := cell_upH hgD hwD p1
      have hzw : D ≤ wr.heap.size := by omega
      obtain ⟨X, hX⟩ : ∃ X, wr.alloc (.cells #[.string nm, .bool pd, .int .i64 l, .int .i64 h, .slice sa sn sc] 53) = X := ⟨_, rfl⟩
      have hbX : Below wr.heap.size wr X := by rw [← hX]; exact (Below.refl _ _).alloc (Nat.le_refl _) _
      have hXs : X.heap.size = wr.heap.size + 1 := by rw [← hX]; simp
      have hrX := hrow.below hbX
      have x0 : X.cell? ⟨g, o + k * 2, none⟩ = _ := (hbX.cell (p := ⟨g, _, none⟩) (show g < wr.heap.size by omega)).trans p0
      have x1 : X.cell? ⟨g, o + k * 2 + 1, none⟩ = _ := (hbX.cell (p := ⟨g, _, none⟩) (show g < wr.heap.size by omega)).trans p1
      have hgn : ¬ g = wr.heap.size := by omega
      cases pd with
      | true =>
        have tp := TP.out
        have tm := TM.out
        rw [if_pos rfl] at tp
        rw [if_neg (by simp)] at tm
        have TP2 := Lib.hid tp
        have TM2 := Lib.hid tm
        have HX := Lib.hid hX
        rw [← hX] at x0 x1
        clear tp tm TP TM hX hcl hck hS
        have hrow5 := hrX.1
        go_wp2_with (at_builtin; rw [HX.out]; refine wpList_append_own_at _ rfl _ _ 33 rfl (D + 1) 26 i0 (.agg #[.int .u64 0, .int .u64 0]) 2 16 Tryd.underlying33 hi0 hq0 hq1 hq2 rfl (by decide) _ _ _ rfl (hrow5.alloc _) ⟨wr.heap.size + 1, 0, none⟩ 1 1 [.int .u64 (s.1 : Nat), .int .u64 (s.2 : Nat)] rfl rfl (cell_two_b _ _ hXs.symm _ _ _) (by simp [Value.oneCell']) (by unfold maxLen; omega) (by omega) (by simp; omega) ?_; intro v' w6 hown' hgrow _ hat')
        have hb6 := grown_below (by omega) hrow5 hgrow
        go_roundw
        case rel => exact ⟨k + 1, by omega, by go_num, by rw [TP2.out, TM2.out]; exact rowsP_left hrX hown' hgrow hat', (hwr.trans (hbX.mono (by omega))).trans hb6⟩
        case measure => simp [intOf]; omega
      | false =>
        have tp := TP.out
        have tm := TM.out
        rw [if_neg (by simp)] at tp
        have TP2 := Lib.hid tp
        have co := fun W => count_below s.1 s.2 hs.1 hs.2 W
        rw [← notes_pc] at co
        rw [show Ns.notes s.1 s.2 = setN s from rfl] at co
        have nl1 : (setN s).length ≤ 128 := Ns.notes_length _ _
        generalize (setN s).length = ln at *
        have CO := Lib.hid co
        have HX := Lib.hid hX
        rw [← hX] at x0 x1
        by_cases hln : ln = 0
        · rw [if_neg (by simp [hln])] at tm
          have TM2 := Lib.hid tm
          have hln2 : ¬ (0 : Int) < (ln : Int) := by omega
          clear tp tm TP TM hX hcl hck hS co
          go_wp2_with fail
          refine (CO.out _).mono ?_
          rw [HX.out]
          rintro e v5 ⟨rfl, hb5⟩
          go_wp2_with fail
          go_roundw
          case rel => exact ⟨k + 1, by omega, by go_num, by rw [TP2.out, TM2.out]; exact hrX.below hb5, (hwr.trans (hbX.mono (by omega))).trans (hb5.mono (by omega))⟩
          case measure => simp [intOf]; omega
        · rw [if_pos ⟨rfl, hln⟩] at tm
          have TM2 := Lib.hid tm
          have hln2 : (0 : Int) < (ln : Int) := by omega
          clear tp tm TP TM hX hcl hck hS co
          go_wp2_with fail
          refine (CO.out _).mono ?_
          rw [HX.out] at x0 x1 ⊢
          rintro e v5 ⟨rfl, hb5⟩
          have r5 := hrX.below hb5
          have hz5 := hb5.size
          have y0 := (hb5.cell (p := ⟨g, _, none⟩) (show g < X.heap.size by omega)).trans x0
          have y1 := (hb5.cell (p := ⟨g, _, none⟩) (show g < X.heap.size by omega)).trans x1
          have hrow5 := r5.2.1
          go_wp2_with (at_builtin; refine wpList_append_own_at _ rfl _ _ 33 rfl (D + 1) 26 i0 (.agg #[.int .u64 0, .int .u64 0]) 2 16 Tryd.underlying33 hi0 hq0 hq1 hq2 rfl (by decide) _ _ _ rfl (hrow5.alloc _) ⟨v5.heap.size, 0, none⟩ 1 1 [.int .u64 (s.1 : Nat), .int .u64 (s.2 : Nat)] rfl rfl (cell_two_new _ _ _ _) (by simp [Value.oneCell']) (by unfold maxLen; omega) (by omega) (by simp; omega) ?_; intro v' w6 hown' hgrow _ hat')
          have hb6 := grown_below (by omega) hrow5 hgrow
          go_roundw
          case rel => exact ⟨k + 1, by omega, by go_num, by rw [TP2.out, TM2.out]; exact rowsP_swap (rowsP_left (rowsP_swap r5) hown' hgrow hat'), ((hwr.trans (hbX.mono (by omega))).trans (hb5.mono (by omega))).trans hb6⟩
          case measure => simp [intOf]; omega
    · obtain rfl : k = nk := by omega
      have hkl : ¬ (k : Int) < (k : Int) := by omega
      have hP4 := hP3.below (show D < D + 1 by omega) hwr
      have G4 : Gl wr := G.below (by rw [hD]; exact hwD)
      have c0 := cell4_0 hP4
      have c1 := cell4_1 hP4
      have c2 := cell4_2 hP4
      have c3 := cell4_3 hP4
      have SP := sets_of_row hrow.1
      have SM := sets_of_row hrow.2.1
      have hsp := HF.out _ G4 _ SP
      obtain ⟨pa, pc, rfl, _⟩ := id SP
      obtain ⟨ma, mc, rfl, _⟩ := id SM
      have hr2 := HR2.out
      clear HR2
      unfold possB at hr2
      generalize feetB c d (getS (peL F S k)) (peL F S k).length = r1 at *
      have HSP := Lib.hid hsp
      have HSM := Lib.hid SM
      have HR3 := Lib.hid hr2
      clear hsp SP SM hrow hr2
      go_wp2_with fail
      refine (HSP.out).mono ?_
      rintro e v5 ⟨rfl, hb5⟩
      have hw5 : Below D w v5 := hwD.trans (hb5.mono (by omega))
      have hP5 := hP4.below hP4.lt hb5
      clear c0 c1 c2 c3
      cases r1 with
      | false =>
        go_wp2
        go_ret2
        exact ⟨by rw [← HR3.out]; rfl, by rw [hD]; exact hw5⟩
      | true =>
        have c0 := cell4_0 hP5
        have c1 := cell4_1 hP5
        have c2 := cell4_2 hP5
        have c3 := cell4_3 hP5
        have G5 : Gl v5 := G.below (by rw [hD]; exact hw5)
        have hm := HH.out _ G5 _ (HSM.out.below hb5)
        generalize hndB a b (getS (maL F S k)) (maL F S k).length = r2 at *
        have HM := Lib.hid hm
        clear hm
        go_wp2_with fail
        refine (HM.out).mono ?_
        rintro e v6 ⟨rfl, hb6⟩
        go_wp2
        go_ret2
        exact ⟨by rw [← HR3.out]; rfl, by rw [hD]; exact hw5.trans (hb6.mono (by have := hb5.size; omega))⟩
end Go.Proofs.YtinopmdefndhoaaDoor
