/- NotesetMembers: the law's walk. -/
import Derived.Test.YtibdnfcbgcbdeaaDoorNsZb
import Derived.Test.YtibdnfcbgcbdeaaDoorNsZc
import Derived.Test.YtibdnfcbgcbdeaaDoorNsSl
import Derived.Test.YtibdnfcbgcbdeaaDoorNsH
import Derived.Deep.DeepCutAuto
namespace Go.Proofs.YtibdnfcbgcbdeaaDoor
open Go Go.RowKit Go.Shelf

theorem sum_filter (l : List Nat) (f : Nat → Bool) : (l.map fun i => (f i).toNat).sum = (l.filter f).length := by
  induction l with
  | nil => rfl
  | cons a l ih =>
    simp only [List.map_cons, List.sum_cons, ih, List.filter_cons]
    cases f a <;> simp <;> omega
theorem notes_pc (lo hi : Nat) : (Ns.notes lo hi).length = Ns.pc lo + Ns.pc hi := by
  rw [Ns.notes_eq]
  have e : List.range' 0 128 = List.range 64 ++ (List.range 64).map (· + 64) := by decide +kernel
  have e1 : (List.range 64).filter (fun n => Ns.has lo hi n) = (List.range 64).filter fun i => lo.testBit i := by
    apply List.filter_congr
    intro n hn
    have := List.mem_range.1 hn
    unfold Ns.has
    rw [if_pos (by omega)]
  have e2 : (((List.range 64).map (· + 64)).filter (fun n => Ns.has lo hi n)).length = ((List.range 64).filter fun i => hi.testBit i).length := by
    rw [List.filter_map, List.length_map]
    refine congrArg List.length (List.filter_congr fun n _ => ?_)
    simp only [Function.comp_apply]
    unfold Ns.has
    rw [if_neg (by omega), Nat.add_sub_cancel]
  rw [e, List.filter_append, List.length_append, e1, e2]
  unfold Ns.pc
  rw [sum_filter, sum_filter]

theorem RowAt.below {A B : World} {v : Value} {n : Nat} {X : Nat → Int} (h : RowAt A v n X) (hb : Below A.heap.size A B) : RowAt B v n X := by
  rcases h with h | ⟨g, off, c, h1, h2, h3⟩
  · exact .inl h
  · exact .inr ⟨g, off, c, h1, Nat.lt_of_lt_of_le h2 hb.size, fun k hk => (hb.cell (p := ⟨g, off + k, none⟩) h2).trans (h3 k hk)⟩
def nth (l : List Nat) (k : Nat) : Int := (l.getD k 0 : Nat)
theorem rowAt_of {W : World} {base : Nat} {v : Value} {l : List Nat} (h : W.ownsRow base 3 1 v l.length (ints l)) : RowAt W v l.length (nth l) := by
  rcases h.2 with ⟨rfl, hn⟩ | ⟨g, cap, cur, rfl, hgb, hg, hnc, hcm, hcs, htk⟩
  · exact .inl ⟨hn, none, 0, rfl⟩
  · refine .inr ⟨g, 0, cap, rfl, (Array.getElem?_eq_some_iff.1 hg).1, fun k hk => ?_⟩
    have h2 := h.cells (g := g) rfl k (.int .i64 (nth l k)) (by
      unfold ints nth
      rw [List.getElem?_map, List.getElem?_eq_getElem hk]
      simp [hk])
    by_cases hj : k = 0 <;> simpa [Addr.add, hj] using h2


/-- What holds of the worlds of the law's region. -/
structure MemR (w : World) (lo hi : Nat) (v : Value) (n : Nat) (X : Nat → Int) (W : World) : Prop where
  set : SetAt W w.heap.size lo hi
  row : RowAt W v n X
  below : Below w.heap.size w W
def MemS (w : World) (lo hi : Nat) (v : Value) (n : Nat) (X : Nat → Int) (W : World) : Prop :=
  W.cell? ⟨w.heap.size, 0, none⟩ = some (.int .u64 lo) ∧ W.cell? ⟨w.heap.size, 1, none⟩ = some (.int .u64 hi) ∧ MemR w lo hi v n X W
theorem MemR.s {w W : World} {lo hi n : Nat} {v : Value} {X : Nat → Int} (h : MemR w lo hi v n X W) : W.cell? ⟨w.heap.size, 0, none⟩ = some (.int .u64 lo) ∧ W.cell? ⟨w.heap.size, 1, none⟩ = some (.int .u64 hi) ∧ MemR w lo hi v n X W :=
  ⟨h.set.fst, h.set.snd, h⟩
theorem MemR.call {w W W' : World} {lo hi n : Nat} {v : Value} {X : Nat → Int} (h : MemR w lo hi v n X W) (hb : Below W.heap.size W W') : MemR w lo hi v n X W' :=
  ⟨h.set.below h.set.lt hb, h.row.below hb, h.below.trans (hb.mono h.below.size)⟩
theorem MemR.of {w W : World} {lo hi n : Nat} {v : Value} {X : Nat → Int} (h : W.cell? ⟨w.heap.size, 0, none⟩ = some (.int .u64 lo) ∧ W.cell? ⟨w.heap.size, 1, none⟩ = some (.int .u64 hi) ∧ MemR w lo hi v n X W) : MemR w lo hi v n X W := h.2.2

set_option maxRecDepth 100000 in
set_option maxHeartbeats 4000000 in
theorem members_law (lo hi N : Nat) (X : Nat → Int) (n : Int) (lv gv : Int) (lb gb : Bool) (hb_ : Bool) (hN128 : N ≤ 128) (w : World) (G : Gl w)
    (hLE : ∀ W, Gl W → Calls Tryd.prog 25 #[.agg #[.int .u64 lo, .int .u64 hi]] W fun e w' => e = .returned (.tuple #[.int .i64 lv, .bool lb]) ∧ Below W.heap.size W w')
    (hGR : ∀ W, Calls Tryd.prog 26 #[.agg #[.int .u64 lo, .int .u64 hi]] W fun e w' => e = .returned (.tuple #[.int .i64 gv, .bool gb]) ∧ Below W.heap.size W w')
    (hHA : ∀ W, Calls Tryd.prog 30 #[.agg #[.int .u64 lo, .int .u64 hi], .int .i64 n] W fun e w' => e = .returned (.bool hb_) ∧ Below W.heap.size W w')
    (hRH : ∀ W, Calls Tryd.prog 31 #[.agg #[.int .u64 lo, .int .u64 hi], .int .i64 n] W fun e w' => e = .returned (.bool hb_) ∧ Below W.heap.size W w')
    (hLI : ∀ W, Calls Tryd.prog 24 #[.agg #[.int .u64 lo, .int .u64 hi]] W fun e w' => (∃ v, e = .returned v ∧ RowAt w' v N X) ∧ Below W.heap.size W w')
    (hML : ∀ W, Gl W → Calls Tryd.prog 28 #[.agg #[.int .u64 lo, .int .u64 hi]] W fun e w' => (∃ v, e = .returned v ∧ RowAt w' v N X) ∧ Below W.heap.size W w')
    (hCT : ∀ W, Calls Tryd.prog 29 #[.agg #[.int .u64 lo, .int .u64 hi]] W fun e w' => e = .returned (.int .i64 N) ∧ Below W.heap.size W w')
    (he : (N = 0 ∧ lv = 0 ∧ gv = 0 ∧ lb = false ∧ gb = false) ∨ (0 < N ∧ X 0 = lv ∧ X (N - 1) = gv ∧ lb = true ∧ gb = true)) :
    Calls Tryd.prog 6 #[.agg #[.int .u64 lo, .int .u64 hi], .int .i64 n] w fun e w' => e = .returned (.bool true) ∧ Below w.heap.size w w' := by
  have LE := Lib.hid hLE
  have GR := Lib.hid hGR
  have HA := Lib.hid hHA
  have RH := Lib.hid hRH
  have LI := Lib.hid hLI
  have ML := Lib.hid hML
  have CT := Lib.hid hCT
  have HE := Lib.hid he
  have SY := Lib.hid (fun va vb W => same_yes va vb N X W (by omega))
  have b0 : Below w.heap.size w (w.alloc (.cells #[.int .u64 lo, .int .u64 hi] 34)) := (Below.refl _ _).alloc (Nat.le_refl _) _
  have s0 : SetAt (w.alloc (.cells #[.int .u64 lo, .int .u64 hi] 34)) w.heap.size lo hi := SetAt.new w lo hi
  have B0 := Lib.hid b0
  have S0 := Lib.hid s0
  have GG := Lib.hid (show ∀ W : World, Below w.heap.size w W → Gl W from fun W h => G.below h)
  have K := Lib.hid (known_any (w.alloc (.cells #[.int .u64 lo, .int .u64 hi] 34)) (G.below b0))
  clear hLE hGR hHA hRH hLI hML hCT he b0 s0 G
  go_enter Tryd.func6, Tryd.ntmps6
  go_wp2_with fail
  refine K.out.mono ?_
  rintro e w1 ⟨rfl, hb1⟩
  have s1 : SetAt w1 w.heap.size lo hi := S0.out.below (by simp) hb1
  have bb1 : Below w.heap.size w w1 := B0.out.trans (hb1.mono (by simp))
  have c0 := s1.fst
  have c1 := s1.snd
  go_wp2_with fail
  refine (LI.out _).mono ?_
  rintro e w2 ⟨⟨vw, rfl, hR2⟩, hb2⟩
  have hM2 : MemR w lo hi vw N X w2 := ⟨s1.below s1.lt hb2, hR2, bb1.trans (hb2.mono bb1.size)⟩
  have c2 := hM2.set.fst
  have c3 := hM2.set.snd
  clear c0 c1 bb1 s1 hb1 hb2
  obtain ⟨va, vc, rfl, hop⟩ := hR2.open
  clear hR2 hop
  go_wp2_with fail
  refine (LE.out _ (GG.out _ hM2.below)).mono ?_
  rintro e w3 ⟨rfl, hb3⟩
  have hM3 := hM2.call hb3
  have c4 := hM3.set.fst
  have c5 := hM3.set.snd
  clear c2 c3 hM2 hb3
  go_wp2_with fail
  refine (GR.out _).mono ?_
  rintro e w4 ⟨rfl, hb4⟩
  have hM4 := hM3.call hb4
  clear c4 c5 hM3 hb4
  have hM := hM4.call (Below.refl _ _).drew
  go_upto_region 6 with fail
  go_region_held3 (fun W => W.cell? ⟨w.heap.size, 0, none⟩ = some (.int .u64 lo) ∧ W.cell? ⟨w.heap.size, 1, none⟩ = some (.int .u64 hi) ∧ MemR w lo hi (.slice va N vc) N X W) (exact MemR.s hM)
    (first
      | (go_at_call 28; refine (ML.out _ (GG.out _ (MemR.of (by assumption)).below)).mono ?_; rintro e w5 ⟨⟨v5, rfl, hv5⟩, hb5⟩; have hM := (MemR.of (by assumption)).call hb5)
      | (go_at_call 27; refine (SY.out _ _ _ hv5 (MemR.of (by assumption)).row).mono ?_; rintro e w6 ⟨rfl, hb6⟩; have hM := (MemR.of (by assumption)).call hb6)
      | (go_at_call 29; refine (CT.out _).mono ?_; rintro e w7 ⟨rfl, hb7⟩; have hM := (MemR.of (by assumption)).call hb7)
      | (go_at_call 30; refine (HA.out _).mono ?_; rintro e w8 ⟨rfl, hb8⟩; have hM := (MemR.of (by assumption)).call hb8)
      | (go_at_call 31; refine (RH.out _).mono ?_; rintro e w9 ⟨rfl, hb9⟩; have hM := (MemR.of (by assumption)).call hb9))
  rcases HE.out with ⟨rfl, rfl, rfl, rfl, rfl⟩ | ⟨hn, h0, h1, rfl, rfl⟩
  · go_wp2
    go_ret
    exact ⟨rfl, hM.below⟩
  · obtain ⟨a', c', he', hop⟩ := hM.row.open
    cases he'
    obtain ⟨g, off, rfl, hg, hx⟩ := hop hn
    obtain ⟨M, rfl⟩ : ∃ M, N = M + 1 := ⟨N - 1, by omega⟩
    have x0 := hx 0 (by omega)
    have x1 := hx M (by omega)
    rw [h0] at x0
    rw [show M + 1 - 1 = M by omega] at h1
    rw [h1] at x1
    have hM1 : IntKind.i64.wrap ((M : Int) + 1 - 1) = (M : Int) := by rw [IntKind.wrap_i64]; omega
    have hM2 : ((M : Int) + 1 == 0) = false := by rw [beq_eq_false_iff_ne]; omega
    have hM3 : (M : Int) < (M : Int) + 1 := by omega
    have hM4 : (0 : Int) < (M : Int) + 1 := by omega
    simp only [Nat.add_zero] at x0
    clear hx hop
    go_wp2
    go_ret
    exact ⟨rfl, hM.below⟩

theorem has_zero (n : Nat) : Ns.has 0 0 n = false := by unfold Ns.has; split <;> simp
theorem withinB_has (lo hi n : Nat) (hn : n < 128) (hl : lo < 18446744073709551616) (hh : hi < 18446744073709551616) : Ns.withinB (Ns.sLo n) (Ns.sHi n) lo hi = Ns.has lo hi n := by
  have hw : ∀ m, m < 128 → Ns.has (Ns.wo (Ns.sLo n) lo) (Ns.wo (Ns.sHi n) hi) m = (decide (n = m) && !Ns.has lo hi m) := fun m hm => by
    rw [Ns.has_wo _ _ _ _ _ (Ns.sLo_lt n) (Ns.sHi_lt n hn) hl hh, Ns.has_single n m hn hm]
  unfold Ns.withinB
  cases h : Ns.has lo hi n with
  | true =>
    refine decide_eq_true (Ns.ext (Ns.wo_lt _ _ (Ns.sLo_lt n)) (Ns.wo_lt _ _ (Ns.sHi_lt n hn)) (by decide) (by decide) fun m hm => ?_)
    rw [hw m hm, has_zero]
    by_cases e : n = m
    · subst e; rw [h]; simp
    · simp [e]
  | false =>
    refine decide_eq_false fun ⟨h1, h2⟩ => ?_
    have := hw n hn
    rw [h1, h2, has_zero, h] at this
    simp at this

theorem members_walk (a b n : Int) (w : World) (G : Gl w) (h1 : 0 ≤ a) (h2 : a ≤ 18446744073709551615) (h3 : 0 ≤ b) (h4 : b ≤ 18446744073709551615) :
    Calls Tryd.prog 6 #[.agg #[.int .u64 a, .int .u64 b], .int .i64 n] w fun e w' => e = .returned (.bool true) ∧ Below w.heap.size w w' := by
  obtain ⟨lo, rfl⟩ : ∃ lo : Nat, a = lo := ⟨a.toNat, by omega⟩
  obtain ⟨hi, rfl⟩ : ∃ hi : Nat, b = hi := ⟨b.toNat, by omega⟩
  have hl : lo < 18446744073709551616 := by omega
  have hh : hi < 18446744073709551616 := by omega
  obtain ⟨hv, hH1, hH2⟩ : ∃ hv : Bool, (∀ W : World, Calls Tryd.prog 30 #[.agg #[.int .u64 lo, .int .u64 hi], .int .i64 n] W fun e w' => e = .returned (.bool hv) ∧ Below W.heap.size W w') ∧
      (∀ W : World, Calls Tryd.prog 31 #[.agg #[.int .u64 lo, .int .u64 hi], .int .i64 n] W fun e w' => e = .returned (.bool hv) ∧ Below W.heap.size W w') := by
    by_cases hn : n < 0 ∨ 127 < n
    · exact ⟨false, fun W => has_no lo hi n hn W, fun W => (rhas_no lo hi n hn W).mono fun _ _ ⟨h1, h2⟩ => ⟨h1, h2 ▸ (Below.refl _ _).alloc (Nat.le_refl _) _⟩⟩
    · obtain ⟨m, rfl⟩ : ∃ m : Nat, n = m := ⟨n.toNat, by omega⟩
      refine ⟨Ns.has lo hi m, fun W => ?_, fun W => rhas_below lo hi m (by omega) hl hh W⟩
      rw [← withinB_has lo hi m (by omega) hl hh]
      exact has_yes lo hi m (by omega) hl hh W
  have hlist : ∀ W : World, Calls Tryd.prog 24 #[.agg #[.int .u64 lo, .int .u64 hi]] W fun e w' => (∃ v, e = .returned v ∧ RowAt w' v (Ns.notes lo hi).length (nth (Ns.notes lo hi))) ∧ Below W.heap.size W w' :=
    fun W => (list_any lo hi hl hh W).mono fun _ _ ⟨⟨v, h1, h2⟩, h3⟩ => ⟨⟨v, h1, rowAt_of h2⟩, h3⟩
  have hmem : ∀ W : World, Gl W → Calls Tryd.prog 28 #[.agg #[.int .u64 lo, .int .u64 hi]] W fun e w' => (∃ v, e = .returned v ∧ RowAt w' v (Ns.notes lo hi).length (nth (Ns.notes lo hi))) ∧ Below W.heap.size W w' :=
    fun W g => (memberList_any lo hi hl hh W g).mono fun _ _ ⟨⟨v, h1, h2⟩, h3⟩ => ⟨⟨v, h1, rowAt_of h2⟩, h3⟩
  have hct : ∀ W : World, Calls Tryd.prog 29 #[.agg #[.int .u64 lo, .int .u64 hi]] W fun e w' => e = .returned (.int .i64 ((Ns.notes lo hi).length : Nat)) ∧ Below W.heap.size W w' := fun W => by
    rw [notes_pc]; exact count_below lo hi hl hh W
  by_cases h0 : lo = 0 ∧ hi = 0
  · obtain ⟨rfl, rfl⟩ := h0
    exact members_law 0 0 _ _ n 0 0 false false hv (Ns.notes_length 0 0) w G (fun W _ => least_none W) (fun W => greatest_none W) hH1 hH2 hlist hmem hct (.inl ⟨by rw [Ns.notes_nil]; rfl, rfl, rfl, rfl, rfl⟩)
  · have hgr : ∀ W : World, Calls Tryd.prog 26 #[.agg #[.int .u64 lo, .int .u64 hi]] W fun e w' => e = .returned (.tuple #[.int .i64 (Ns.greatest lo hi : Nat), .bool true]) ∧ Below W.heap.size W w' := fun W => by
      by_cases hz : hi = 0
      · subst hz; exact greatest_low lo hl (fun e => h0 ⟨e, rfl⟩) W
      · exact greatest_high lo hi hh hz W
    have hc := Ns.notes_cons lo hi hl hh h0
    obtain ⟨pre, hp⟩ := Ns.notes_snoc lo hi hl hh h0
    refine members_law lo hi _ _ n (Ns.least lo hi : Nat) (Ns.greatest lo hi : Nat) true true hv (Ns.notes_length lo hi) w G (fun W g => least_some lo hi hl hh h0 W g) hgr hH1 hH2 hlist hmem hct (.inr ⟨?_, ?_, ?_, rfl, rfl⟩)
    · rw [hp]; simp
    · rw [hc]; rfl
    · rw [hp]; simp [nth]
end Go.Proofs.YtibdnfcbgcbdeaaDoor
