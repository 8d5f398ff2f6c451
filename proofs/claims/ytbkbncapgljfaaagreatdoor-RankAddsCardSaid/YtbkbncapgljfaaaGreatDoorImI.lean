/- text: the numeral of a number. -/
import Derived.Test.YtbkbncapgljfaaaGreatDoorImF
import Derived.Sort.QuietIn
namespace Go.Proofs.YtbkbncapgljfaaaGreatDoor
open Go Go.RowKit Go.Shelf
attribute [local go_sem] Oper.semAt_some wide_fn wide_depth

theorem repeat_one (c : UInt8) : ∀ n, Lib.repeatL [c] n = List.replicate n c
  | 0 => rfl
  | n + 1 => by rw [List.replicate_succ, ← repeat_one c n]; rfl

/-- The first r pieces of x, from the top, in digits. -/
def tx (x n r : Nat) : List UInt8 := if r = 0 then [] else Lib.decDigits (x / BB ^ (n - r))
/-- The piece at place k in digits, with zeros ahead where another one stands before it. -/
def pieceT (x n k : Nat) : List UInt8 := (if k < n - 1 then List.replicate (9 - (Lib.decDigits (dg x k)).length) 48 else []) ++ Lib.decDigits (dg x k)
theorem tx_succ {x n r : Nat} (hn : n = nd x) (hr : r < n) : tx x n (r + 1) = tx x n r ++ pieceT x n (n - 1 - r) := by
  have hlt : x < BB ^ n := by rw [hn]; exact Im.lt_pow_nd bb2 x
  have hx : 0 < x := by
    rcases Nat.eq_zero_or_pos x with h | h
    · subst h; rw [nd_zero] at hn; omega
    · exact h
  unfold tx pieceT
  rw [if_neg (by omega), show n - (r + 1) = n - 1 - r by omega]
  by_cases h0 : r = 0
  · subst h0
    rw [if_pos rfl, if_neg (by omega), List.nil_append, List.nil_append]
    congr 1
    refine (Nat.mod_eq_of_lt ?_).symm
    rw [Nat.div_lt_iff_lt_mul (Nat.pow_pos (by unfold BB; omega)), ← Nat.pow_succ', show (n - 1 - 0).succ = n by omega]
    exact hlt
  · rw [if_neg h0, if_pos (by omega)]
    have hq : 0 < x / BB ^ (n - r) := by
      have := Im.pow_nd_le bb2 hx
      have h2 : BB ^ (n - r) ≤ BB ^ (Im.nd BB x - 1) := Nat.pow_le_pow_right (by unfold BB; omega) (by have : n = Im.nd BB x := hn; omega)
      exact Nat.div_pos (Nat.le_trans h2 this) (Nat.pow_pos (by unfold BB; omega))
    have hd := Im.dec_pad (w := 9) hq (r := dg x (n - 1 - r)) (dg_lt _ _) (by decide)
    unfold Im.pad at hd
    rw [← hd]
    congr 1
    have e : n - r = n - 1 - r + 1 := by omega
    rw [e, Nat.pow_succ, ← Nat.div_div_eq_div_mul]
    unfold dg Im.dg
    generalize x / BB ^ (n - 1 - r) = y
    have := Nat.div_add_mod y BB
    unfold BB at *
    omega
theorem tx_zero (x n : Nat) : tx x n 0 = [] := rfl
theorem tx_full {x n : Nat} (hn : n = nd x) (h0 : x ≠ 0) : tx x n n = Lib.decDigits x := by
  have : n ≠ 0 := fun h => h0 (nd_pos_iff.1 (by omega))
  unfold tx
  rw [if_neg this, Nat.sub_self, Nat.pow_zero, Nat.div_one]
theorem tx_len (x n r : Nat) (hn : n = nd x) (hr : r ≤ n) : (tx x n r).length ≤ 9 * r := by
  induction r with
  | zero => simp [tx]
  | succ r ih =>
    rw [tx_succ hn (by omega), List.length_append]
    have h1 := ih (by omega)
    have h2 := Im.dec_len (n := dg x (n - 1 - r)) (k := 9) (dg_lt _ _) (by decide)
    unfold pieceT
    split <;> simp <;> omega

/-- A builder's cells lie on under an iterator's steps. -/
theorem step_builder {A B : World} {T e : TypeId} {c b : Nat} {bs : List Value} {n : Nat} (h : Lib.IsBuilderF T e c b bs A) (st : Rg.Step n A B) : Lib.IsBuilderF T e c b bs B := by
  have key : ∀ p, Lib.BuilderAtF T e c b p bs A → Lib.BuilderAtF T e c b p bs B := fun p ⟨h1, v, h2, h3, h4⟩ => ⟨h1, v, st.same _ _ _ _ h2, ⟨h3.1, h3.2.imp id fun ⟨g, cap, cur, fz, k1, k2, k3, k4⟩ => ⟨g, cap, cur, fz, k1, k2, st.same _ _ _ _ k3, k4⟩⟩, h4⟩
  exact h.imp (key _) (key _)
theorem round_kept {A B : World} {e : TypeId} {b : Nat} {c : Array Value} {T : TypeId} {f : Nat × Nat} (hs : A.heap.size ≤ B.heap.size) (h : Lib.OthersKept e (some b) A B) (hb : A.heap[b]? = some (.cells c T f)) : Rg.Round (fun _ => False) A B :=
  ⟨hs, fun k o hk _ hc => h k o hk (fun ek => by cases ek; rw [hb] at hk; cases hk; simp [Obj.isCells] at hc) (fun c' fz ho => by subst ho; simp [Obj.isCells] at hc)⟩
theorem builder_block {T e : TypeId} {c b : Nat} {bs : List Value} {W : World} (h : Lib.IsBuilderF T e c b bs W) : ∃ cs, W.heap[b]? = some (.cells cs T (0, 0)) := by
  rcases h with ⟨_, v, h, _⟩ | ⟨_, v, h, _⟩
  · exact ⟨_, h⟩
  · exact ⟨_, h⟩
theorem kept_cells {A B : World} {e : TypeId} {b k : Nat} {c : Array Value} {T : TypeId} {f : Nat × Nat} (h : Lib.OthersKept e (some b) A B) (hk : A.heap[k]? = some (.cells c T f)) (hT : T ≠ e) (hkb : k ≠ b) : B.heap[k]? = some (.cells c T f) :=
  h k _ hk (fun ek => hkb (by cases ek; rfl)) (fun c' fz ho => hT (by cases ho; rfl))
theorem builder_below {A B : World} {T e : TypeId} {c b : Nat} {bs : List Value} (h : Lib.IsBuilderF T e c b bs A) (hb : Below A.heap.size A B) : Lib.IsBuilderF T e c b bs B :=
  step_builder h (Rg.Step.of_below (Nat.le_refl _) hb)

set_option maxRecDepth 100000 in
set_option maxHeartbeats 4000000 in
theorem text_some (neg : Bool) (sa : Option Addr) (cap b o x : Nat) (hx : x ≠ 0) (w : World) (h : Row w sa (nd x) cap b o x) (hn : nd x ≤ 1048576) (G : Gi w) :
    Calls Tryz.prog 67 #[.agg #[.bool neg, .slice sa (nd x) cap]] w fun e w' => e = .returned (.string ⟨((if neg then [45] else []) ++ Lib.decDigits x).toArray⟩) ∧ Below w.heap.size w w' := by
  obtain ⟨n, hnn⟩ : ∃ n, n = nd x := ⟨_, rfl⟩
  rw [← hnn] at h hn ⊢
  have HNN := Lib.hid hnn
  have hn0 : 0 < n := by
    rcases Nat.eq_zero_or_pos n with h0 | h0
    · exact absurd (nd_pos_iff.1 (by omega)) hx
    · exact h0
  have HX := Lib.hid hx
  clear hnn hx
  have hn0' : ((n : Int) == 0) = false := by rw [beq_eq_false_iff_ne]; omega
  have BK := Lib.hid (fun W => backward_any sa n cap W)
  have HR := Lib.hid h
  clear h
  obtain ⟨D, hD⟩ : ∃ D, w.heap.size = D := ⟨_, rfl⟩
  have hwD : Below D w ((w.alloc (.cells #[.bool neg, .slice sa n cap] 97)).alloc (.cells #[.pointer none, .slice none 0 0] 114)) := ((Below.refl _ w).alloc (by omega) _).alloc (by simp; omega) _
  have hb0 : Lib.IsBuilderF 114 5 (D + 1) (D + 1) (Lib.byteCells []) ((w.alloc (.cells #[.bool neg, .slice sa n cap] 97)).alloc (.cells #[.pointer none, .slice none 0 0] 114)) := .inl ⟨Nat.le_refl _, .slice none 0 0, by rw [← hD]; have := World.alloc_heap_new (w.alloc (.cells #[.bool neg, .slice sa n cap] 97)) (.cells #[.pointer none, .slice none 0 0] 114); simpa using this, ⟨rfl, .inl ⟨rfl, rfl⟩⟩, by simp [Value.ownBlock]⟩
  have hn0d : ((w.alloc (.cells #[.bool neg, .slice sa n cap] 97)).alloc (.cells #[.pointer none, .slice none 0 0] 114)).heap[D]? = some (.cells #[.bool neg, .slice sa n cap] 97) := by
    rw [← hD]
    exact (Below.heap_alloc _ _ _ (by simp)).trans (World.alloc_heap_new w _)
  have hsz0 : ((w.alloc (.cells #[.bool neg, .slice sa n cap] 97)).alloc (.cells #[.pointer none, .slice none 0 0] 114)).heap.size = D + 2 := by simp [hD]
  have H0 := Lib.hid (And.intro hwD (And.intro hb0 (And.intro hn0d hsz0)))
  clear hwD hb0 hn0d hsz0
  refine (callsIn_wide (n := 5)).1 ?_
  refine callsIn_of_wp_marks Tryz.func67 rfl trivial ?_ rfl
  simp only [Tryz.ntmps67, List.size_toArray, List.length_cons, List.length_nil, Nat.reduceAdd, Nat.reduceSub, Array.replicate_succ, Array.replicate_zero, List.push_toArray, List.append_toArray, List.nil_append, List.cons_append]
  cases neg with
  | false =>
    gi_wp2_with fail
    obtain ⟨q1, q2, q3, q4⟩ := H0.out
    generalize ((w.alloc (.cells #[.bool false, .slice sa n cap] 97)).alloc (.cells #[.pointer none, .slice none 0 0] 114)) = W1 at *
    have hB1 : Lib.IsBuilderF 114 5 (D + 1) (D + 1) (Lib.byteCells []) W1 := q2
    have hw1 : Below D w W1 := q1
    have hN1 : W1.heap[D]? = some (.cells #[.bool false, .slice sa n cap] 97) := q3
    clear q1 q2 q3 q4
    have k0 : W1.cell? ⟨D, 0, none⟩ = some (.bool false) := by simp [World.cell?, hN1]
    have k1 : W1.cell? ⟨D, 1, none⟩ = some (.slice sa n cap) := by simp [World.cell?, hN1]
    refine (callsIn_wide.2 (BK.out _)).mono ?_
    rintro e w' ⟨rfl, rfl⟩
    gi_wp2_with fail
    obtain ⟨V, hV⟩ : ∃ V, (W1.alloc (.cells #[.slice sa n cap] 95)) = V := ⟨_, rfl⟩
    have hBV : Lib.IsBuilderF 114 5 (D + 1) (D + 1) (Lib.byteCells []) V := by rw [← hV]; exact hB1.alloc _
    have hlt1 : D + 1 < W1.heap.size := by obtain ⟨cs, hcs⟩ := builder_block hB1; exact (Array.getElem?_eq_some_iff.1 hcs).1
    have hzV : V.heap.size = W1.heap.size + 1 := by rw [← hV]; simp
    have hwV : Below D w V := by rw [← hV]; exact hw1.alloc (by omega) _
    have hNV : V.heap[D]? = some (.cells #[.bool false, .slice sa n cap] 97) := by rw [← hV]; exact (Below.heap_alloc _ _ _ (by omega)).trans hN1
    have hKV : V.heap[W1.heap.size]? = some (.cells #[.slice sa n cap] 95) := by rw [← hV]; exact World.alloc_heap_new W1 _
    rw [hV]
    clear hV hB1 hw1 hN1
    refine Rg.range_all rfl (by omega) (gf := 97) (lb := #[.pointer (some ⟨W1.heap.size, 0, none⟩)]) rfl trivial (enters_of Tryz.func97 (by kernel_rfl) rfl)
      (backward_gives W1.heap.size sa b o n cap (fun k => (dg x k : Nat)) (by omega) 4 V) (fun _ => rfl)
      (fun _ => False) (fun h => h) (fun h => h)
      (fun pre W => Lib.IsBuilderF 114 5 (D + 1) (D + 1) (Lib.byteCells ([] ++ tx x n pre.length)) W ∧ Below D w W ∧ W.heap[D]? = some (.cells #[.bool false, .slice sa n cap] 97) ∧ W.heap[W1.heap.size]? = some (.cells #[.slice sa n cap] 95))
      (fun _ _ _ => False)
      (fun s A B ⟨h1, h2, h3, h4⟩ st => ⟨step_builder h1 st, h2.trans (st.below.mono (by omega)), st.same _ _ _ _ h3, st.same _ _ _ _ h4⟩)
      (fun _ _ _ _ h _ => h)
      (fun s A ⟨_, h2, _, h4⟩ => ⟨by simp [World.cell?, h4], HR.out.at_, fun k hk => (h2.cell (p := ⟨b, o + k, none⟩) (by have := HR.out.lt (by omega); show b < D; omega)).trans (HR.out.cell k hk)⟩)
      ⟨by simpa [tx_zero] using hBV, hwV, hNV, hKV⟩
      (fun y => { tmps := #[.agg #[.bool false, .slice sa n cap], .pointer (some ⟨D, 0, none⟩), .string ⟨#[]⟩, .pointer (some ⟨D + 1, 0, none⟩), .int .i64 (y.1 : Nat), .int .u64 y.2, undef, .pointer (some ⟨D, 1, none⟩), .slice sa n cap, .int .i64 n, .bool false, .pointer (some ⟨D, 0, none⟩), .bool false, undef, .pointer (some ⟨D, 1, none⟩), .slice sa n cap, .func (.func 97) #[] #[.pointer (some ⟨W1.heap.size, 0, none⟩)], .int .i64 (y.1 : Nat), .int .u64 y.2, undef, undef, undef, undef, undef, undef, undef, undef, undef, undef, undef, undef, undef, undef, undef, undef], defers := [] }) ?assign ?body ?done ?stop
    case assign =>
      intro l y W K hK
      gi_wp2
      exact hK
    case body =>
      rintro l pre ⟨i, y⟩ W ⟨hB, hw, hN, hKs⟩ hpost hszW
      obtain ⟨hlen, _, hy⟩ := downL_at _ n hpost
      cases hy
      have hT := Lib.hid (tx_succ HNN.out hlen)
      have hTl := tx_len x n pre.length HNN.out (by omega)
      have hL9 := Im.dec_len (n := dg x (n - 1 - pre.length)) (k := 9) (dg_lt _ _) (by decide)
      have hdl := dg_lt x (n - 1 - pre.length)
      have F := Lib.hid (fun W (g : Gi W) => fmt_any (dg x (n - 1 - pre.length)) (by omega) W g.tab)
      have hGW : Gi W := G.below (hD ▸ hw)
      have c1 : W.cell? ⟨D, 1, none⟩ = some (.slice sa n cap) := by simp [World.cell?, hN]
      obtain ⟨j, hj⟩ : ∃ j : Nat, n - 1 - pre.length = j := ⟨_, rfl⟩
      have hP := Lib.hid (show pieceT x n j = (if j < n - 1 then List.replicate (9 - (Lib.decDigits (dg x j)).length) 48 else []) ++ Lib.decDigits (dg x j) from rfl)
      rw [hj] at hT hL9 hdl F ⊢
      generalize hdd : Lib.decDigits (dg x j) = dd at *
      generalize pieceT x n j = pt at *
      generalize tx x n pre.length = t0 at *
      clear hpost hdd
      generalize dg x j = y at *
      simp only []
      gi_wp2_with fail
      refine (CallsIn.inRound l (callsIn_wide.2 (F.out _ hGW))).mono ?_
      rintro e W3 ⟨rfl, hb3⟩
      have hB3 := builder_below hB hb3
      have hN3 := (hb3.block D (Array.getElem?_eq_some_iff.1 hN).1).trans hN
      have hK3 := (hb3.block W1.heap.size (Array.getElem?_eq_some_iff.1 hKs).1).trans hKs
      have hz3 := hb3.size
      have hr3 : Rg.Round (fun _ => False) W W3 := Rg.Round.of_below hb3
      have c3 : W3.cell? ⟨D, 1, none⟩ = some (.slice sa n cap) := by simp [World.cell?, hN3]
      have hw3 : Below D w W3 := hw.trans (hb3.mono (by omega))
      clear hB hN hKs hb3 c1
      have hsd : (ByteArray.mk dd.toArray).size = dd.length := size_mk dd
      by_cases hlast : j < n - 1
      · have hcond : (j : Int) < (n : Int) - 1 := by omega
        have hpt : pt = List.replicate (9 - dd.length) 48 ++ dd := by rw [hP.out, if_pos hlast]
        have hRep := Lib.hid (fun W => by have := Tryz.strings_Repeat ⟨#[48]⟩ (9 - dd.length) W (by omega) (by simp [ByteArray.size]; omega); rw [show (ByteArray.mk #[48]).data.toList = [48] from rfl, repeat_one] at this; exact this)
        obtain ⟨m, hm⟩ : ∃ m : Nat, 9 - dd.length = m := ⟨_, rfl⟩
        have hmi : (9 : Int) - (dd.length : Int) = (m : Int) := by omega
        rw [hm] at hpt hRep
        gi_wp2_with fail
        refine (CallsIn.inRound l (callsIn_wide.2 (hRep.out _))).mono ?_
        rintro e W4 ⟨rfl, hb4⟩
        have hB4 := builder_below hB3 hb4
        have hN4 := (hb4.block D (Array.getElem?_eq_some_iff.1 hN3).1).trans hN3
        have hK4 := (hb4.block W1.heap.size (Array.getElem?_eq_some_iff.1 hK3).1).trans hK3
        have hz4 := hb4.size
        have hr4 : Rg.Round (fun _ => False) W W4 := hr3.trans (Rg.Round.of_below hb4)
        have hw4 : Below D w W4 := hw3.trans (hb4.mono (by omega))
        clear hB3 hN3 hK3 hb4 c3 hr3 hw3
        gi_wp2_with fail
        refine (CallsIn.inRound l (callsIn_wide.2 (Tryz.WriteString (D + 1) (D + 1) _ ⟨(List.replicate m 48).toArray⟩ _ hB4 (by rw [size_mk, List.length_replicate]; simp [Lib.byteCells]; omega) (by omega)))).mono ?_
        rintro e W5 ⟨rfl, hbu5, hb5, hk5⟩
        have hB5 : Lib.IsBuilderF 114 5 (D + 1) (D + 1) (Lib.byteCells ([] ++ t0 ++ List.replicate m 48)) W5 := .inr (by rw [Lib.byteCells_append]; exact hbu5)
        have hN5 := (hb5.block D (by omega)).trans hN4
        have hK5 := kept_cells hk5 hK4 (by decide) (by omega)
        have hz5 := hb5.size
        obtain ⟨cs4, hcs4⟩ := builder_block hB4
        have hr5 : Rg.Round (fun _ => False) W W5 := hr4.trans (round_kept hz5 hk5 hcs4)
        have hw5 : Below D w W5 := hw4.trans (hb5.mono (by omega))
        clear hB4 hN4 hK4 hbu5 hb5 hk5 hcs4 hr4 hw4
        gi_wp2_with fail
        refine (CallsIn.inRound l (callsIn_wide.2 (Tryz.WriteString (D + 1) (D + 1) _ ⟨dd.toArray⟩ _ hB5 (by rw [hsd]; simp [Lib.byteCells]; omega) (by omega)))).mono ?_
        rintro e W6 ⟨rfl, hbu6, hb6, hk6⟩
        have hK6 := kept_cells hk6 hK5 (by decide) (by omega)
        obtain ⟨cs5, hcs5⟩ := builder_block hB5
        gi_wp2
        refine ⟨hr5.trans (round_kept hb6.size hk6 hcs5), .inr ?_, hw5.trans (hb6.mono (by omega)), (hb6.block D (by omega)).trans hN5, hK6⟩
        rw [List.length_append, List.length_singleton, hT.out, hpt, ← List.append_assoc, ← List.append_assoc, Lib.byteCells_append]
        exact hbu6
      · have hcond : ¬ (j : Int) < (n : Int) - 1 := by omega
        have hpt : pt = dd := by rw [hP.out, if_neg hlast, List.nil_append]
        gi_wp2_with fail
        refine (CallsIn.inRound l (callsIn_wide.2 (Tryz.WriteString (D + 1) (D + 1) _ ⟨dd.toArray⟩ _ hB3 (by rw [hsd]; simp [Lib.byteCells]; omega) (by omega)))).mono ?_
        rintro e W6 ⟨rfl, hbu6, hb6, hk6⟩
        have hK6 := kept_cells hk6 hK3 (by decide) (by omega)
        obtain ⟨cs5, hcs5⟩ := builder_block hB3
        gi_wp2
        refine ⟨hr3.trans (round_kept hb6.size hk6 hcs5), .inr ?_, hw3.trans (hb6.mono (by omega)), (hb6.block D (by omega)).trans hN3, hK6⟩
        rw [List.length_append, List.length_singleton, hT.out, hpt, ← List.append_assoc, Lib.byteCells_append]
        exact hbu6
    case done =>
      rintro D2 W hD2 ⟨hB, hw, hN, hKs⟩ hK
      rw [downL_length, tx_full HNN.out HX.out] at hB
      have hDW : D2 < W.heap.size := (Array.getElem?_eq_some_iff.1 hK).1
      gi_wp2_with fail
      refine (callsIn_wide.2 (Tryz.Builder_String_k (D + 1) (D + 1) ([] ++ Lib.decDigits x) _ hB (by first | (simp; done) | simp [Im.dec_ne]))).mono ?_
      rintro e W6 ⟨rfl, hbu6, hb6, hk6⟩
      have hK6 : W6.heap[D2]? = some (.deferred (some [])) := hk6 D2 _ hK (fun ek => by cases ek; omega) (fun c fz h => by cases h)
      gi_wp2
      refine ⟨by simp, .inl ⟨_, _, rfl, run_takeDeferred hK6, ?_⟩⟩
      have hst : Rg.Step D W6 (W6.putObj D2 (.deferred none)) := Rg.Step.putObj W6 _ _ (by omega) hK6 rfl
      exact ⟨_, results_tmp rfl _ _ _, by simp, (hw.trans (hb6.mono (by omega))).trans hst.below⟩
    case stop => rintro D2 c pre W _ _ h; exact h.elim
  | true =>
    gi_wp2_with fail
    obtain ⟨q1, q2, q3, q4⟩ := H0.out
    refine (callsIn_wide.2 (Tryz.WriteByte (D + 1) (D + 1) [] 45 _ q2 (by simp) (by omega))).mono ?_
    rintro e W1 ⟨rfl, hbu, hb1, hk1⟩
    have hB1 : Lib.IsBuilderF 114 5 (D + 1) (D + 1) (Lib.byteCells [45]) W1 := .inr hbu
    have hw1 : Below D w W1 := q1.trans (hb1.mono (Nat.le_succ _))
    have hN1 : W1.heap[D]? = some (.cells #[.bool true, .slice sa n cap] 97) := (hb1.block D (by omega)).trans q3
    clear hbu hb1 hk1 q1 q2 q3 q4
    have k0 : W1.cell? ⟨D, 0, none⟩ = some (.bool true) := by simp [World.cell?, hN1]
    have k1 : W1.cell? ⟨D, 1, none⟩ = some (.slice sa n cap) := by simp [World.cell?, hN1]
    gi_wp2_with fail
    refine (callsIn_wide.2 (BK.out _)).mono ?_
    rintro e w' ⟨rfl, rfl⟩
    gi_wp2_with fail
    obtain ⟨V, hV⟩ : ∃ V, (W1.alloc (.cells #[.slice sa n cap] 95)) = V := ⟨_, rfl⟩
    have hBV : Lib.IsBuilderF 114 5 (D + 1) (D + 1) (Lib.byteCells [45]) V := by rw [← hV]; exact hB1.alloc _
    have hlt1 : D + 1 < W1.heap.size := by obtain ⟨cs, hcs⟩ := builder_block hB1; exact (Array.getElem?_eq_some_iff.1 hcs).1
    have hzV : V.heap.size = W1.heap.size + 1 := by rw [← hV]; simp
    have hwV : Below D w V := by rw [← hV]; exact hw1.alloc (by omega) _
    have hNV : V.heap[D]? = some (.cells #[.bool true, .slice sa n cap] 97) := by rw [← hV]; exact (Below.heap_alloc _ _ _ (by omega)).trans hN1
    have hKV : V.heap[W1.heap.size]? = some (.cells #[.slice sa n cap] 95) := by rw [← hV]; exact World.alloc_heap_new W1 _
    rw [hV]
    clear hV hB1 hw1 hN1
    refine Rg.range_all rfl (by omega) (gf := 97) (lb := #[.pointer (some ⟨W1.heap.size, 0, none⟩)]) rfl trivial (enters_of Tryz.func97 (by kernel_rfl) rfl)
      (backward_gives W1.heap.size sa b o n cap (fun k => (dg x k : Nat)) (by omega) 4 V) (fun _ => rfl)
      (fun _ => False) (fun h => h) (fun h => h)
      (fun pre W => Lib.IsBuilderF 114 5 (D + 1) (D + 1) (Lib.byteCells ([45] ++ tx x n pre.length)) W ∧ Below D w W ∧ W.heap[D]? = some (.cells #[.bool true, .slice sa n cap] 97) ∧ W.heap[W1.heap.size]? = some (.cells #[.slice sa n cap] 95))
      (fun _ _ _ => False)
      (fun s A B ⟨h1, h2, h3, h4⟩ st => ⟨step_builder h1 st, h2.trans (st.below.mono (by omega)), st.same _ _ _ _ h3, st.same _ _ _ _ h4⟩)
      (fun _ _ _ _ h _ => h)
      (fun s A ⟨_, h2, _, h4⟩ => ⟨by simp [World.cell?, h4], HR.out.at_, fun k hk => (h2.cell (p := ⟨b, o + k, none⟩) (by have := HR.out.lt (by omega); show b < D; omega)).trans (HR.out.cell k hk)⟩)
      ⟨by simpa [tx_zero] using hBV, hwV, hNV, hKV⟩
      (fun y => { tmps := #[.agg #[.bool true, .slice sa n cap], .pointer (some ⟨D, 0, none⟩), .string ⟨#[]⟩, .pointer (some ⟨D + 1, 0, none⟩), .int .i64 (y.1 : Nat), .int .u64 y.2, undef, .pointer (some ⟨D, 1, none⟩), .slice sa n cap, .int .i64 n, .bool false, .pointer (some ⟨D, 0, none⟩), .bool true, .nilIface, .pointer (some ⟨D, 1, none⟩), .slice sa n cap, .func (.func 97) #[] #[.pointer (some ⟨W1.heap.size, 0, none⟩)], .int .i64 (y.1 : Nat), .int .u64 y.2, undef, undef, undef, undef, undef, undef, undef, undef, undef, undef, undef, undef, undef, undef, undef, undef], defers := [] }) ?assign ?body ?done ?stop
    case assign =>
      intro l y W K hK
      gi_wp2
      exact hK
    case body =>
      rintro l pre ⟨i, y⟩ W ⟨hB, hw, hN, hKs⟩ hpost hszW
      obtain ⟨hlen, _, hy⟩ := downL_at _ n hpost
      cases hy
      have hT := Lib.hid (tx_succ HNN.out hlen)
      have hTl := tx_len x n pre.length HNN.out (by omega)
      have hL9 := Im.dec_len (n := dg x (n - 1 - pre.length)) (k := 9) (dg_lt _ _) (by decide)
      have hdl := dg_lt x (n - 1 - pre.length)
      have F := Lib.hid (fun W (g : Gi W) => fmt_any (dg x (n - 1 - pre.length)) (by omega) W g.tab)
      have hGW : Gi W := G.below (hD ▸ hw)
      have c1 : W.cell? ⟨D, 1, none⟩ = some (.slice sa n cap) := by simp [World.cell?, hN]
      obtain ⟨j, hj⟩ : ∃ j : Nat, n - 1 - pre.length = j := ⟨_, rfl⟩
      have hP := Lib.hid (show pieceT x n j = (if j < n - 1 then List.replicate (9 - (Lib.decDigits (dg x j)).length) 48 else []) ++ Lib.decDigits (dg x j) from rfl)
      rw [hj] at hT hL9 hdl F ⊢
      generalize hdd : Lib.decDigits (dg x j) = dd at *
      generalize pieceT x n j = pt at *
      generalize tx x n pre.length = t0 at *
      clear hpost hdd
      generalize dg x j = y at *
      simp only []
      gi_wp2_with fail
      refine (CallsIn.inRound l (callsIn_wide.2 (F.out _ hGW))).mono ?_
      rintro e W3 ⟨rfl, hb3⟩
      have hB3 := builder_below hB hb3
      have hN3 := (hb3.block D (Array.getElem?_eq_some_iff.1 hN).1).trans hN
      have hK3 := (hb3.block W1.heap.size (Array.getElem?_eq_some_iff.1 hKs).1).trans hKs
      have hz3 := hb3.size
      have hr3 : Rg.Round (fun _ => False) W W3 := Rg.Round.of_below hb3
      have c3 : W3.cell? ⟨D, 1, none⟩ = some (.slice sa n cap) := by simp [World.cell?, hN3]
      have hw3 : Below D w W3 := hw.trans (hb3.mono (by omega))
      clear hB hN hKs hb3 c1
      have hsd : (ByteArray.mk dd.toArray).size = dd.length := size_mk dd
      by_cases hlast : j < n - 1
      · have hcond : (j : Int) < (n : Int) - 1 := by omega
        have hpt : pt = List.replicate (9 - dd.length) 48 ++ dd := by rw [hP.out, if_pos hlast]
        have hRep := Lib.hid (fun W => by have := Tryz.strings_Repeat ⟨#[48]⟩ (9 - dd.length) W (by omega) (by simp [ByteArray.size]; omega); rw [show (ByteArray.mk #[48]).data.toList = [48] from rfl, repeat_one] at this; exact this)
        obtain ⟨m, hm⟩ : ∃ m : Nat, 9 - dd.length = m := ⟨_, rfl⟩
        have hmi : (9 : Int) - (dd.length : Int) = (m : Int) := by omega
        rw [hm] at hpt hRep
        gi_wp2_with fail
        refine (CallsIn.inRound l (callsIn_wide.2 (hRep.out _))).mono ?_
        rintro e W4 ⟨rfl, hb4⟩
        have hB4 := builder_below hB3 hb4
        have hN4 := (hb4.block D (Array.getElem?_eq_some_iff.1 hN3).1).trans hN3
        have hK4 := (hb4.block W1.heap.size (Array.getElem?_eq_some_iff.1 hK3).1).trans hK3
        have hz4 := hb4.size
        have hr4 : Rg.Round (fun _ => False) W W4 := hr3.trans (Rg.Round.of_below hb4)
        have hw4 : Below D w W4 := hw3.trans (hb4.mono (by omega))
        clear hB3 hN3 hK3 hb4 c3 hr3 hw3
        gi_wp2_with fail
        refine (CallsIn.inRound l (callsIn_wide.2 (Tryz.WriteString (D + 1) (D + 1) _ ⟨(List.replicate m 48).toArray⟩ _ hB4 (by rw [size_mk, List.length_replicate]; simp [Lib.byteCells]; omega) (by omega)))).mono ?_
        rintro e W5 ⟨rfl, hbu5, hb5, hk5⟩
        have hB5 : Lib.IsBuilderF 114 5 (D + 1) (D + 1) (Lib.byteCells ([45] ++ t0 ++ List.replicate m 48)) W5 := .inr (by rw [Lib.byteCells_append]; exact hbu5)
        have hN5 := (hb5.block D (by omega)).trans hN4
        have hK5 := kept_cells hk5 hK4 (by decide) (by omega)
        have hz5 := hb5.size
        obtain ⟨cs4, hcs4⟩ := builder_block hB4
        have hr5 : Rg.Round (fun _ => False) W W5 := hr4.trans (round_kept hz5 hk5 hcs4)
        have hw5 : Below D w W5 := hw4.trans (hb5.mono (by omega))
        clear hB4 hN4 hK4 hbu5 hb5 hk5 hcs4 hr4 hw4
        gi_wp2_with fail
        refine (CallsIn.inRound l (callsIn_wide.2 (Tryz.WriteString (D + 1) (D + 1) _ ⟨dd.toArray⟩ _ hB5 (by rw [hsd]; simp [Lib.byteCells]; omega) (by omega)))).mono ?_
        rintro e W6 ⟨rfl, hbu6, hb6, hk6⟩
        have hK6 := kept_cells hk6 hK5 (by decide) (by omega)
        obtain ⟨cs5, hcs5⟩ := builder_block hB5
        gi_wp2
        refine ⟨hr5.trans (round_kept hb6.size hk6 hcs5), .inr ?_, hw5.trans (hb6.mono (by omega)), (hb6.block D (by omega)).trans hN5, hK6⟩
        rw [List.length_append, List.length_singleton, hT.out, hpt, ← List.append_assoc, ← List.append_assoc, Lib.byteCells_append]
        exact hbu6
      · have hcond : ¬ (j : Int) < (n : Int) - 1 := by omega
        have hpt : pt = dd := by rw [hP.out, if_neg hlast, List.nil_append]
        gi_wp2_with fail
        refine (CallsIn.inRound l (callsIn_wide.2 (Tryz.WriteString (D + 1) (D + 1) _ ⟨dd.toArray⟩ _ hB3 (by rw [hsd]; simp [Lib.byteCells]; omega) (by omega)))).mono ?_
        rintro e W6 ⟨rfl, hbu6, hb6, hk6⟩
        have hK6 := kept_cells hk6 hK3 (by decide) (by omega)
        obtain ⟨cs5, hcs5⟩ := builder_block hB3
        gi_wp2
        refine ⟨hr3.trans (round_kept hb6.size hk6 hcs5), .inr ?_, hw3.trans (hb6.mono (by omega)), (hb6.block D (by omega)).trans hN3, hK6⟩
        rw [List.length_append, List.length_singleton, hT.out, hpt, ← List.append_assoc, Lib.byteCells_append]
        exact hbu6
    case done =>
      rintro D2 W hD2 ⟨hB, hw, hN, hKs⟩ hK
      rw [downL_length, tx_full HNN.out HX.out] at hB
      have hDW : D2 < W.heap.size := (Array.getElem?_eq_some_iff.1 hK).1
      gi_wp2_with fail
      refine (callsIn_wide.2 (Tryz.Builder_String_k (D + 1) (D + 1) ([45] ++ Lib.decDigits x) _ hB (by first | (simp; done) | simp [Im.dec_ne]))).mono ?_
      rintro e W6 ⟨rfl, hbu6, hb6, hk6⟩
      have hK6 : W6.heap[D2]? = some (.deferred (some [])) := hk6 D2 _ hK (fun ek => by cases ek; omega) (fun c fz h => by cases h)
      gi_wp2
      refine ⟨by simp, .inl ⟨_, _, rfl, run_takeDeferred hK6, ?_⟩⟩
      have hst : Rg.Step D W6 (W6.putObj D2 (.deferred none)) := Rg.Step.putObj W6 _ _ (by omega) hK6 rfl
      exact ⟨_, results_tmp rfl _ _ _, by simp, (hw.trans (hb6.mono (by omega))).trans hst.below⟩
    case stop => rintro D2 c pre W _ _ h; exact h.elim
end Go.Proofs.YtbkbncapgljfaaaGreatDoor
/- text, negated, sign of numbers in memory. -/
namespace Go.Proofs.YtbkbncapgljfaaaGreatDoor
open Go Go.RowKit Go.Shelf

theorem text_zero (neg : Bool) (sa : Option Addr) (cap : Nat) (w : World) :
    Calls Tryz.prog 67 #[.agg #[.bool neg, .slice sa 0 cap]] w fun e w' => e = .returned (.string ⟨#[48]⟩) ∧ Below w.heap.size w w' := by
  go_enter Tryz.func67, Tryz.ntmps67
  go_wp2_with fail
  go_ret
  exact ⟨rfl, (Below.refl _ _).alloc (Nat.le_refl _) _⟩
theorem text_any (v : Value) (z : Int) (w : World) (h : Num w v z) (hz : nd z.natAbs ≤ 1048576) (G : Gi w) :
    Calls Tryz.prog 67 #[v] w fun e w' => e = .returned (.string ⟨(Lib.itoa z).toArray⟩) ∧ Below w.heap.size w w' := by
  obtain ⟨neg, sa, cap, b, o, rfl, h2, h3⟩ := h
  by_cases h0 : z = 0
  · subst h0
    have e : nd (0 : Int).natAbs = 0 := nd_zero
    rw [e, show Lib.itoa 0 = [48] from (Im.itoa_nonneg (Int.le_refl 0)).trans Im.dec_zero]
    exact text_zero neg sa cap w
  · have := text_some neg sa cap b o z.natAbs (by omega) w h2 hz G
    rw [h3 h0] at this
    rw [h3 h0]
    refine this.mono fun e w' ⟨h, hb⟩ => ⟨?_, hb⟩
    rw [h]
    by_cases hn : z < 0
    · rw [Im.itoa_neg hn]; simp [hn]
    · rw [Im.itoa_nonneg (by omega), show z.toNat = z.natAbs by omega]; simp [hn]

theorem negated_any (v : Value) (z : Int) (w : World) (h : Num w v z) :
    Calls Tryz.prog 72 #[v] w fun e w' => (∃ v', e = .returned v' ∧ Num w' v' (-z)) ∧ Below w.heap.size w w' := by
  obtain ⟨neg, sa, cap, b, o, rfl, h2, h3⟩ := h
  have H := Lib.hid (show Num w (.agg #[.bool (!neg), .slice sa (nd z.natAbs) cap]) (-z) from ⟨!neg, sa, cap, b, o, by rw [Int.natAbs_neg], by rw [Int.natAbs_neg]; exact h2, fun h0 => by
    rw [h3 (by omega)]
    by_cases hn : z < 0
    · simp [hn]; omega
    · simp [hn]; omega⟩)
  clear h2 h3
  generalize nd z.natAbs = n at *
  go_enter Tryz.func72, Tryz.ntmps72
  go_wp2
  refine bodyPost_ret (v := .agg #[.bool (!neg), .slice sa n cap]) (by simp [results, Tryz.results72, go_sem]) rfl ⟨⟨_, rfl, ?_⟩, ?_⟩
  · exact H.out.call (((Below.refl _ _).alloc (Nat.le_refl _) _).alloc (by simp) _)
  · exact ((Below.refl _ _).alloc (Nat.le_refl _) _).alloc (by simp) _

def sgn (z : Int) : Int := if z = 0 then 0 else if z < 0 then -1 else 1
theorem sign_any (v : Value) (z : Int) (w : World) (h : Num w v z) :
    Calls Tryz.prog 73 #[v] w fun e w' => e = .returned (.int .i64 (sgn z)) ∧ Below w.heap.size w w' := by
  obtain ⟨neg, sa, cap, b, o, rfl, h2, h3⟩ := h
  by_cases h0 : z = 0
  · subst h0
    have e : nd (0 : Int).natAbs = 0 := nd_zero
    rw [e]
    clear h2 h3 e
    go_enter Tryz.func73, Tryz.ntmps73
    go_wp2
    go_ret
    exact ⟨rfl, (Below.refl _ _).alloc (Nat.le_refl _) _⟩
  · have hn : 0 < nd z.natAbs := Nat.pos_of_ne_zero fun e => by have := nd_pos_iff.1 e; omega
    rw [h3 h0]
    have hn0 : ((nd z.natAbs : Nat) : Int) ≠ 0 := by omega
    have hn0' : (((nd z.natAbs : Nat) : Int) == 0) = false := by rw [beq_eq_false_iff_ne]; exact hn0
    clear h2 h3
    generalize nd z.natAbs = n at *
    by_cases hz : z < 0
    · have e : sgn z = -1 := by unfold sgn; rw [if_neg h0, if_pos hz]
      rw [e, show decide (z < 0) = true by simpa using hz]
      go_enter Tryz.func73, Tryz.ntmps73
      go_wp2
      go_ret
      exact ⟨rfl, (Below.refl _ _).alloc (Nat.le_refl _) _⟩
    · have e : sgn z = 1 := by unfold sgn; rw [if_neg h0, if_neg hz]
      rw [e, show decide (z < 0) = false by simpa using hz]
      go_enter Tryz.func73, Tryz.ntmps73
      go_wp2
      go_ret
      exact ⟨rfl, (Below.refl _ _).alloc (Nat.le_refl _) _⟩
end Go.Proofs.YtbkbncapgljfaaaGreatDoor
/- Contracts of addMagnitudes. -/
namespace Go.Proofs.YtbkbncapgljfaaaGreatDoor
open Go Go.RowKit Go.Shelf

/-- The magnitude x in memory, at a slice. -/
def Mag (W : World) (v : Value) (x : Nat) : Prop := ∃ (sa : Option Addr) (cap b o : Nat), v = .slice sa (nd x) cap ∧ Row W sa (nd x) cap b o x
theorem Mag.below {W W' : World} {B : Nat} {v : Value} {x : Nat} (h : Mag W v x) (hb : Below B W W') (hB : W.heap.size ≤ B) : Mag W' v x := by
  obtain ⟨sa, cap, b, o, h1, h2⟩ := h
  exact ⟨sa, cap, b, o, h1, h2.below hb hB⟩

/-- The carry of a sum at place k. -/
def cy (x y k : Nat) : Nat := (x % BB ^ k + y % BB ^ k) / BB ^ k
theorem cy_zero (x y : Nat) : cy x y 0 = 0 := by simp [cy, Nat.mod_one]
theorem cy_le (x y k : Nat) : cy x y k ≤ 1 := by
  unfold cy
  have hp : 0 < BB ^ k := Nat.pow_pos (by unfold BB; omega)
  have h1 := Nat.mod_lt x hp
  have h2 := Nat.mod_lt y hp
  have := (Nat.div_lt_iff_lt_mul hp).2 (show x % BB ^ k + y % BB ^ k < 2 * BB ^ k by omega)
  omega
theorem cy_sum (x y k : Nat) : cy x y k + dg x k + dg y k = (x % BB ^ (k + 1) + y % BB ^ (k + 1)) / BB ^ k := by
  have hp : 0 < BB ^ k := Nat.pow_pos (by unfold BB; omega)
  unfold cy dg
  rw [Im.mod_succ x k, Im.mod_succ y k, show x % BB ^ k + BB ^ k * Im.dg BB x k + (y % BB ^ k + BB ^ k * Im.dg BB y k) = (x % BB ^ k + y % BB ^ k) + BB ^ k * (Im.dg BB x k + Im.dg BB y k) by rw [Nat.mul_add]; omega, Nat.add_mul_div_left _ _ hp]
  omega
theorem cy_digit (x y k : Nat) : (cy x y k + dg x k + dg y k) % 1000000000 = dg (x + y) k := by
  rw [cy_sum]
  exact Im.dg_mod (b := BB) (m := x % BB ^ (k + 1) + y % BB ^ (k + 1)) (n := x + y) (by rw [← Nat.add_mod])
theorem cy_next (x y k : Nat) : (cy x y k + dg x k + dg y k) / 1000000000 = cy x y (k + 1) := by
  rw [cy_sum]
  unfold cy
  rw [Nat.pow_succ BB k, ← Nat.div_div_eq_div_mul]
  rfl
theorem cy_last {x y n : Nat} (hx : x < BB ^ n) (hy : y < BB ^ n) : cy x y n = dg (x + y) n := by
  have h1 := cy_digit x y n
  have h2 := cy_le x y n
  have h3 : dg x n = 0 := Im.dg_high hx
  have h4 : dg y n = 0 := Im.dg_high hy
  rw [h3, h4] at h1
  omega
theorem dg_above {x k : Nat} (h : nd x ≤ k) : dg x k = 0 := Im.dg_above bb2 h

set_option maxRecDepth 100000 in
set_option maxHeartbeats 2000000 in
theorem add_core (sx : Option Addr) (cx bx ox x : Nat) (sy : Option Addr) (cpy by_ oy y : Nat) (hlen : nd y ≤ nd x) (w : World) (hx : Row w sx (nd x) cx bx ox x) (hy : Row w sy (nd y) cpy by_ oy y) (hn : nd x ≤ 1000000) :
    Calls Tryz.prog 90 #[.slice sx (nd x) cx, .slice sy (nd y) cpy] w fun e w' => (∃ v, e = .returned v ∧ Mag w' v (x + y)) ∧ Below w.heap.size w w' := by
  obtain ⟨i0, hi0, hz0, hz1, hz2⟩ := info_parts info_u64
  have HX := Lib.hid hx
  have HY := Lib.hid hy
  have HLx := Lib.hid (fun k (h : nd x ≤ k) => dg_above h)
  have HLy := Lib.hid (fun k (h : nd y ≤ k) => dg_above h)
  obtain ⟨nx, hnx⟩ : ∃ nx, nd x = nx := ⟨_, rfl⟩
  obtain ⟨ny, hny⟩ : ∃ ny, nd y = ny := ⟨_, rfl⟩
  rw [hnx] at HX HLx hlen hn ⊢
  rw [hny] at HY HLy hlen  ⊢
  have TR := Lib.hid (fun sa n cap b o W h hn => trimmed_any sa n cap b o (x + y) W h hn)
  clear hx hy hnx hny
  have hcmp : ¬ (nx : Int) < (ny : Int) := by omega
  go_enter Tryz.func90, Tryz.ntmps90
  go_wp2_with (at_make; refine wpList_make_own _ rfl _ _ 95 rfl w.heap.size 81 i0 (.int .u64 0) 1 Tryz.underlying95 hi0 hz0 hz1 .i64 .i64 ((nx : Int) + 1) (nx + 1) rfl rfl (by omega) (by rw [hz2]; omega) (by unfold maxLen; omega) (by omega) ?_; intro w2 hrow2 hgrow2)
  have hb2 : Below w.heap.size w w2 := (Below.refl _ _).grown hgrow2 (Nat.le_refl _) (fun g e => by cases e)
  go_loopw [5, 6, 22] (fun v c i wr => ∃ k : Nat, k ≤ nx ∧ i = .int .i64 (k : Int) ∧ c = .int .u64 (cy x y k : Nat) ∧ wr.ownsRow w.heap.size 81 1 v k (pcs (x + y) k) ∧ Below w.heap.size w wr) (fun _ _ i _ => nx - (intOf i).toNat)
  case atStart => exact ⟨0, Nat.zero_le _, rfl, by rw [cy_zero]; rfl, by simpa [pcs] using hrow2, hb2⟩
  case round =>
    obtain ⟨k, hk, rfl, rfl, hrow, hw⟩ := hrel
    have hsz := hw.size
    by_cases h1 : k < nx
    · have hki : (k : Int) < (nx : Int) := by omega
      have ca := (hw.cell (p := ⟨bx, ox + k, none⟩) (HX.out.lt (by omega))).trans (HX.out.cell k h1)
      obtain rfl := HX.out.at_ (by omega)
      have hcap := HX.out.cap
      have l1 := cy_le x y k
      have l2 := dg_lt x k
      have l3 := dg_lt y k
      have D1 := cy_digit x y k
      have D2 := cy_next x y k
      have D3 := pcs_succ (x + y) k
      
      rw [← D1] at D3
      have HD3 := Lib.hid D3
      have HD2 := Lib.hid D2
      clear D1 D2 D3
      by_cases h2 : k < ny
      · have hkj : (k : Int) < (ny : Int) := by omega
        have cb := (hw.cell (p := ⟨by_, oy + k, none⟩) (HY.out.lt (by omega))).trans (HY.out.cell k h2)
        obtain rfl := HY.out.at_ (by omega)
        generalize cy x y k = c at *
        generalize dg x k = d1 at *
        generalize dg y k = d2 at *
        go_wp2_with (at_builtin; refine wpList_append_own _ rfl _ _ 95 rfl w.heap.size 81 i0 (.int .u64 0) 1 8 Tryz.underlying95 hi0 hz0 hz1 hz2 rfl (by decide) _ _ _ rfl (hrow.alloc _) ⟨wr.heap.size, 0, none⟩ 1 1 [.int .u64 (((c : Int) + (d1 : Int) + (d2 : Int)) % 1000000000)] rfl rfl (cell_one_new _ _ _) (by simp [Value.oneCell']) (by unfold maxLen; omega) (by omega) (by simp; omega) ?_; intro v' w6 hown' hgrow _)
        have hb6 := grown_below hsz hrow hgrow
        go_roundw
        case rel => exact ⟨k + 1, by omega, by go_num, by rw [← HD2.out]; congr 1, by rw [HD3.out]; simpa using hown', hw.trans hb6⟩
        case measure => simp [intOf]; omega
      · have hkj : ¬ (k : Int) < (ny : Int) := by omega
        have z0 : dg y k = 0 := HLy.out k (by omega)
        rw [z0] at HD2 HD3
        clear l3 z0
        generalize cy x y k = c at *
        generalize dg x k = d1 at *
        go_wp2_with (at_builtin; refine wpList_append_own _ rfl _ _ 95 rfl w.heap.size 81 i0 (.int .u64 0) 1 8 Tryz.underlying95 hi0 hz0 hz1 hz2 rfl (by decide) _ _ _ rfl (hrow.alloc _) ⟨wr.heap.size, 0, none⟩ 1 1 [.int .u64 (((c : Int) + (d1 : Int)) % 1000000000)] rfl rfl (cell_one_new _ _ _) (by simp [Value.oneCell']) (by unfold maxLen; omega) (by omega) (by simp; omega) ?_; intro v' w6 hown' hgrow _)
        have hb6 := grown_below hsz hrow hgrow
        go_roundw
        case rel => exact ⟨k + 1, by omega, by go_num, by rw [← HD2.out]; congr 1, by rw [HD3.out]; simpa using hown', hw.trans hb6⟩
        case measure => simp [intOf]; omega
    · obtain rfl : k = nx := by omega
      have fa := HX.out.fits
      have fb : y < BB ^ k := Nat.lt_of_lt_of_le HY.out.fits (Nat.pow_le_pow_right (by unfold BB; omega) (by omega))
      have l1 := cy_le x y k
      have hlast := cy_last fa fb
      have D3 := pcs_succ (x + y) k
      
      rw [← hlast] at D3
      have hfit : x + y < BB ^ (k + 1) := by
        rw [Nat.pow_succ]
        generalize BB ^ k = p at *
        unfold BB
        omega
      have HD3 := Lib.hid D3
      clear D3 hlast fa fb
      generalize cy x y k = c at *
      go_wp2_with (at_builtin; refine wpList_append_own _ rfl _ _ 95 rfl w.heap.size 81 i0 (.int .u64 0) 1 8 Tryz.underlying95 hi0 hz0 hz1 hz2 rfl (by decide) _ _ _ rfl (hrow.alloc _) ⟨wr.heap.size, 0, none⟩ 1 1 [.int .u64 (c : Nat)] rfl rfl (cell_one_new _ _ _) (by simp [Value.oneCell']) (by unfold maxLen; omega) (by omega) (by simp; omega) ?_; intro v' w6 hown' hgrow _)
      have hb6 := grown_below hsz hrow hgrow
      have hown6 : w6.ownsRow w.heap.size 81 1 v' (k + 1) (pcs (x + y) (k + 1)) := by rw [HD3.out]; simpa using hown'
      obtain ⟨sa, cap, b, rfl, hR, _⟩ := row_of hown6 hfit
      have hT := Lib.hid (TR.out sa (k + 1) cap b 0 w6 hR (by omega))
      have hRt := Lib.hid hR.trim
      go_wp2_with fail
      refine hT.out.mono ?_
      rintro e w7 ⟨rfl, hww⟩
      subst w7
      go_wp2
      go_ret
      exact ⟨⟨_, rfl, sa, cap, b, 0, rfl, hRt.out⟩, hw.trans hb6⟩

set_option maxRecDepth 100000 in
set_option maxHeartbeats 2000000 in
theorem add_swap (sx : Option Addr) (cx bx ox x : Nat) (sy : Option Addr) (cpy by_ oy y : Nat) (hlen : nd x < nd y) (w : World) (hx : Row w sx (nd x) cx bx ox x) (hy : Row w sy (nd y) cpy by_ oy y) (hn : nd y ≤ 1000000) :
    Calls Tryz.prog 90 #[.slice sx (nd x) cx, .slice sy (nd y) cpy] w fun e w' => (∃ v, e = .returned v ∧ Mag w' v (x + y)) ∧ Below w.heap.size w w' := by
  obtain ⟨i0, hi0, hz0, hz1, hz2⟩ := info_parts info_u64
  have HX := Lib.hid hx
  have HY := Lib.hid hy
  have HLx := Lib.hid (fun k (h : nd x ≤ k) => dg_above h)
  have HLy := Lib.hid (fun k (h : nd y ≤ k) => dg_above h)
  obtain ⟨nx, hnx⟩ : ∃ nx, nd x = nx := ⟨_, rfl⟩
  obtain ⟨ny, hny⟩ : ∃ ny, nd y = ny := ⟨_, rfl⟩
  rw [hnx] at HX HLx hlen  ⊢
  rw [hny] at HY HLy hlen hn ⊢
  have TR := Lib.hid (fun sa n cap b o W h hn => trimmed_any sa n cap b o (x + y) W h hn)
  clear hx hy hnx hny
  have hcmp : (nx : Int) < (ny : Int) := by omega
  go_enter Tryz.func90, Tryz.ntmps90
  go_wp2_with (at_make; refine wpList_make_own _ rfl _ _ 95 rfl w.heap.size 81 i0 (.int .u64 0) 1 Tryz.underlying95 hi0 hz0 hz1 .i64 .i64 ((ny : Int) + 1) (ny + 1) rfl rfl (by omega) (by rw [hz2]; omega) (by unfold maxLen; omega) (by omega) ?_; intro w2 hrow2 hgrow2)
  have hb2 : Below w.heap.size w w2 := (Below.refl _ _).grown hgrow2 (Nat.le_refl _) (fun g e => by cases e)
  go_loopw [5, 6, 22] (fun v c i wr => ∃ k : Nat, k ≤ ny ∧ i = .int .i64 (k : Int) ∧ c = .int .u64 (cy y x k : Nat) ∧ wr.ownsRow w.heap.size 81 1 v k (pcs (x + y) k) ∧ Below w.heap.size w wr) (fun _ _ i _ => ny - (intOf i).toNat)
  case atStart => exact ⟨0, Nat.zero_le _, rfl, by rw [cy_zero]; rfl, by simpa [pcs] using hrow2, hb2⟩
  case round =>
    obtain ⟨k, hk, rfl, rfl, hrow, hw⟩ := hrel
    have hsz := hw.size
    by_cases h1 : k < ny
    · have hki : (k : Int) < (ny : Int) := by omega
      have ca := (hw.cell (p := ⟨by_, oy + k, none⟩) (HY.out.lt (by omega))).trans (HY.out.cell k h1)
      obtain rfl := HY.out.at_ (by omega)
      have hcap := HY.out.cap
      have l1 := cy_le y x k
      have l2 := dg_lt y k
      have l3 := dg_lt x k
      have D1 := cy_digit y x k
      have D2 := cy_next y x k
      have D3 := pcs_succ (x + y) k
      rw [Nat.add_comm y x] at D1
      rw [← D1] at D3
      have HD3 := Lib.hid D3
      have HD2 := Lib.hid D2
      clear D1 D2 D3
      by_cases h2 : k < nx
      · have hkj : (k : Int) < (nx : Int) := by omega
        have cb := (hw.cell (p := ⟨bx, ox + k, none⟩) (HX.out.lt (by omega))).trans (HX.out.cell k h2)
        obtain rfl := HX.out.at_ (by omega)
        generalize cy y x k = c at *
        generalize dg y k = d1 at *
        generalize dg x k = d2 at *
        go_wp2_with (at_builtin; refine wpList_append_own _ rfl _ _ 95 rfl w.heap.size 81 i0 (.int .u64 0) 1 8 Tryz.underlying95 hi0 hz0 hz1 hz2 rfl (by decide) _ _ _ rfl (hrow.alloc _) ⟨wr.heap.size, 0, none⟩ 1 1 [.int .u64 (((c : Int) + (d1 : Int) + (d2 : Int)) % 1000000000)] rfl rfl (cell_one_new _ _ _) (by simp [Value.oneCell']) (by unfold maxLen; omega) (by omega) (by simp; omega) ?_; intro v' w6 hown' hgrow _)
        have hb6 := grown_below hsz hrow hgrow
        go_roundw
        case rel => exact ⟨k + 1, by omega, by go_num, by rw [← HD2.out]; congr 1, by rw [HD3.out]; simpa using hown', hw.trans hb6⟩
        case measure => simp [intOf]; omega
      · have hkj : ¬ (k : Int) < (nx : Int) := by omega
        have z0 : dg x k = 0 := HLx.out k (by omega)
        rw [z0] at HD2 HD3
        clear l3 z0
        generalize cy y x k = c at *
        generalize dg y k = d1 at *
        go_wp2_with (at_builtin; refine wpList_append_own _ rfl _ _ 95 rfl w.heap.size 81 i0 (.int .u64 0) 1 8 Tryz.underlying95 hi0 hz0 hz1 hz2 rfl (by decide) _ _ _ rfl (hrow.alloc _) ⟨wr.heap.size, 0, none⟩ 1 1 [.int .u64 (((c : Int) + (d1 : Int)) % 1000000000)] rfl rfl (cell_one_new _ _ _) (by simp [Value.oneCell']) (by unfold maxLen; omega) (by omega) (by simp; omega) ?_; intro v' w6 hown' hgrow _)
        have hb6 := grown_below hsz hrow hgrow
        go_roundw
        case rel => exact ⟨k + 1, by omega, by go_num, by rw [← HD2.out]; congr 1, by rw [HD3.out]; simpa using hown', hw.trans hb6⟩
        case measure => simp [intOf]; omega
    · obtain rfl : k = ny := by omega
      have fa := HY.out.fits
      have fb : x < BB ^ k := Nat.lt_of_lt_of_le HX.out.fits (Nat.pow_le_pow_right (by unfold BB; omega) (by omega))
      have l1 := cy_le y x k
      have hlast := cy_last fa fb
      have D3 := pcs_succ (x + y) k
      rw [Nat.add_comm y x] at hlast
      rw [← hlast] at D3
      have hfit : x + y < BB ^ (k + 1) := by
        rw [Nat.pow_succ]
        generalize BB ^ k = p at *
        unfold BB
        omega
      have HD3 := Lib.hid D3
      clear D3 hlast fa fb
      generalize cy y x k = c at *
      go_wp2_with (at_builtin; refine wpList_append_own _ rfl _ _ 95 rfl w.heap.size 81 i0 (.int .u64 0) 1 8 Tryz.underlying95 hi0 hz0 hz1 hz2 rfl (by decide) _ _ _ rfl (hrow.alloc _) ⟨wr.heap.size, 0, none⟩ 1 1 [.int .u64 (c : Nat)] rfl rfl (cell_one_new _ _ _) (by simp [Value.oneCell']) (by unfold maxLen; omega) (by omega) (by simp; omega) ?_; intro v' w6 hown' hgrow _)
      have hb6 := grown_below hsz hrow hgrow
      have hown6 : w6.ownsRow w.heap.size 81 1 v' (k + 1) (pcs (x + y) (k + 1)) := by rw [HD3.out]; simpa using hown'
      obtain ⟨sa, cap, b, rfl, hR, _⟩ := row_of hown6 hfit
      have hT := Lib.hid (TR.out sa (k + 1) cap b 0 w6 hR (by omega))
      have hRt := Lib.hid hR.trim
      go_wp2_with fail
      refine hT.out.mono ?_
      rintro e w7 ⟨rfl, hww⟩
      subst w7
      go_wp2
      go_ret
      exact ⟨⟨_, rfl, sa, cap, b, 0, rfl, hRt.out⟩, hw.trans hb6⟩

end Go.Proofs.YtbkbncapgljfaaaGreatDoor
