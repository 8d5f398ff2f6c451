/- slices.Grow out of nothing; slices.Concat of two rows of ints, the second one not empty. -/
import Derived.Test.YtojgfpnecdngfaaMtJ
import Derived.Test.YtojgfpnecdngfaaMtGw
import Derived.Laws.AppendOwnNone
namespace Go.Proofs.Ytojgfpnecdngfaa
open Go Go.RowKit Go.Shelf

theorem grow_c (n : Nat) (h0 : 0 < n) (h1 : n ≤ 1000000) (w : World) :
    Calls Try.prog 51 #[.slice none 0 0, .int .i64 n] w fun e w' => (∃ g cap, e = .returned (.slice (some ⟨g, 0, none⟩) 0 cap) ∧ w'.ownsRow w.heap.size 3 1 (.slice (some ⟨g, 0, none⟩) 0 cap) 0 []) ∧ Below w.heap.size w w' := by
  obtain ⟨i0, hi0, hz0, hz1, hz2⟩ := info_parts info_int
  refine (Any8.slices_Grow_grow Try.lays84 i0 (.int .i64 0) hi0 hz0 (by rw [hz1]; decide) none 0 0 n [] w (Nat.le_refl _) (by omega) (by rw [hz2]; omega) (by omega) (by simp) (fun _ => rfl) (fun a ha => by cases ha)).mono ?_
  rintro e w' ⟨rfl, rfl⟩
  have hge := grownCap_ge w (0 + n) 0 3
  have hle := grownCap_le_maxLen w (0 + n) 0 3 (by unfold maxLen; omega)
  have hren : Try.lays84_ren.t 25 = 3 := rfl
  have hge' := hge
  have hle' := hle
  rw [Nat.zero_add] at hge' hle'
  refine ⟨⟨_, _, rfl, rfl, .inr ⟨w.heap.size, _, _, rfl, Nat.le_refl _, heap_newM w.drew _, Nat.zero_le _, hle, ?_, ?_⟩⟩, ?_⟩
  · have e : ∀ m, (Builtin.zeroCells (Value.int .i64 0).cells m).size = m := fun m => by simp [size_zeroCells, Value.cells]
    simp only [Array.size_append, e]
    simp only [hren, Nat.zero_add, List.size_toArray, List.length_nil]
    omega
  · simp
  · exact (Below.refl w.heap.size w).drew.alloc (Nat.le_refl _) _
theorem grown_below0 {W w1 : World} {B e size : Nat} {v : Value} {k : Nat} {xs : List Value} (hB : B ≤ W.heap.size) (hrow : W.ownsRow B e size v k xs) (hg : W.grownBy w1 v.ownBlock) : Below B W w1 :=
  (Below.refl B W).grown hg hB (fun g hgv => by
    rcases hrow.2 with ⟨rfl, _⟩ | ⟨g', cap, cur, rfl, h1, _⟩
    · cases hgv
    · simp [Value.ownBlock] at hgv
      omega)
/-- Appending a nil slice, whatever its capacity. -/
theorem append_nilM {P : Program} {w : World} (base t ty e : Nat) (i : TypeInfo) (size : Nat) (ht : P.underlying t = some (.slice e)) (hi : P.info? e = some i)
    (v : Value) (n : Nat) (xs : List Value) (hown : w.ownsRow base e size v n xs) (c : Nat) : (Builtin.append_ #[t, t] ty #[v, .slice none 0 c]).run P w = .ok v w := by
  rcases hown.2 with ⟨rfl, rfl⟩ | ⟨g, cap, cur, rfl, _, _, hnc, _⟩
  · simp [Builtin.append_, run_underlying ht, sizeOf, typeInfo, hi, Builtin.lenOf, Builtin.firstCells]
  · simp [Builtin.append_, run_underlying ht, sizeOf, typeInfo, hi, Builtin.lenOf, Builtin.firstCells, hnc, storeCells]
theorem wpList_append_nilM {P : Program} {w : World} {ops : Array Oper} {rest : List Oper} {o : Oper} {a : Act} {Q : Exit → Act → World → Prop} (hgd : o.guard = none) (s x : Operand) (t : TypeId)
    (ho : o.op = .call { callee := .builtin .append, args := #[s, x], argTypes := #[t, t] }) (base e : Nat) (i : TypeInfo) (size : Nat) (ht : P.underlying t = some (.slice e)) (hi : P.info? e = some i)
    (v : Value) (n : Nat) (xs : List Value) (hs : a.eval s = v) (hown : w.ownsRow base e size v n xs) (m c : Nat) (hm : m = 0) (hx : a.eval x = .slice none m c)
    (h : wpList P ops Q rest (a.put o.dst v) w) : wpList P ops Q (o :: rest) a w := by
  subst hm
  refine wpList_plain hgd fun K hK => ?_
  have hrun := append_nilM (P := P) (w := w) base t o.type e i size ht hi v n xs hown c
  unfold Oper.wp
  simp [execOp, ho, resolve, invoke, builtin, hs, hx, hrun, Result.andThen]
  exact hK _ _ h
/-- A slice of N ints that is a block of its own, from block D on. -/
def RowB (W : World) (D N : Nat) (u : Value) (g : Nat → Int) : Prop := ∃ h c cur, u = .slice (some ⟨h, 0, none⟩) N c ∧ D ≤ h ∧ W.heap[h]? = some (.cells cur 3 (0, 0)) ∧ ∀ j, j < N → cur[j]? = some (.int .i64 (g j))
theorem RowB.below {W W' : World} {D N : Nat} {u : Value} {g : Nat → Int} (h : RowB W D N u g) (hb : Below W.heap.size W W') : RowB W' D N u g := by
  obtain ⟨b, c, cur, h1, h2, h3, h4⟩ := h
  exact ⟨b, c, cur, h1, h2, (hb.block b (Array.getElem?_eq_some_iff.1 h3).1).trans h3, h4⟩
theorem RowB.mono {W : World} {D D' N : Nat} {u : Value} {g : Nat → Int} (h : RowB W D N u g) (hD : D' ≤ D) : RowB W D' N u g := by
  obtain ⟨b, c, cur, h1, h2, h3, h4⟩ := h
  exact ⟨b, c, cur, h1, by omega, h3, h4⟩
theorem RowB.grown {W W' : World} {D B N k size : Nat} {u v : Value} {e : TypeId} {xs : List Value} {g : Nat → Int} (h : RowB W D N u g) (hown : W.ownsRow B e size v k xs) (he : 3 ≠ e) (hg : W.grownBy W' v.ownBlock) : RowB W' D N u g := by
  obtain ⟨b, c, cur, h1, h2, h3, h4⟩ := h
  refine ⟨b, c, cur, h1, h2, (hg.block b (Array.getElem?_eq_some_iff.1 h3).1 (fun h' => ?_)).trans h3, h4⟩
  rcases hown.2 with ⟨rfl, _⟩ | ⟨g', cap, cur', rfl, _, hh, _⟩
  · cases h'
  · simp [Value.ownBlock] at h'
    subst h'
    rw [h3] at hh
    injection hh with hh
    injection hh with _ ht
    exact he ht
theorem RowB.rd {W : World} {D N : Nat} {u : Value} {g : Nat → Int} (h : RowB W D N u g) : ∃ b c, u = .slice (some b) N c ∧ Rd W W.heap.size (some b) N g := by
  obtain ⟨b, c, cur, h1, h2, h3, h4⟩ := h
  refine ⟨_, c, h1, fun k hk => ⟨_, rfl, (Array.getElem?_eq_some_iff.1 h3).1, ?_⟩⟩
  rw [Addr.add_mid, Nat.zero_add]
  simp [World.cell?, h3, h4 k hk]
theorem RowB.own {w : World} {base n : Nat} {v : Value} {f : Nat → Int} (hn : 0 < n) (h : w.ownsRow base 3 1 v n ((List.range n).map fun k => .int .i64 (f k))) : RowB w base n v f := by
  rcases h.2 with ⟨_, h0⟩ | ⟨g, cap, cur, rfl, hb, hg, hc, _, hs, hx⟩
  · omega
  · refine ⟨g, cap, cur, rfl, hb, hg, fun k hk => ?_⟩
    have h1 : (cur.toList.take (n * 1))[k]? = some (.int .i64 (f k)) := by rw [hx]; simp [hk]
    rw [List.getElem?_take_of_lt (by omega)] at h1
    simpa using h1

set_option maxRecDepth 100000 in
set_option maxHeartbeats 4000000 in
theorem concat2_c (Bx n s : Nat) (A : Option Addr) (ca g cs B : Nat) (f : Nat → Int) (v_ : Int) (w : World) (hn : n ≤ 1000) (hs0 : 0 < s) (hs : s ≤ 1000) (hBx : Bx < w.heap.size)
    (h0 : w.cell? ⟨Bx, 0, none⟩ = some (.slice A n ca)) (h1 : w.cell? ⟨Bx, 1, none⟩ = some (.slice (some ⟨g, 0, none⟩) s cs)) (hR : Rd w B A n f) (hB : B ≤ w.heap.size) (hG : IR w g s (fun _ => v_)) :
    Calls Try.prog 40 #[.slice (some ⟨Bx, 0, none⟩) 2 2] w fun e w' => (∃ u, e = .returned u ∧ RowB w' w.heap.size (n + s) u (fun k => if k < n then f k else v_)) ∧ Below w.heap.size w w' := by
  have GR := Lib.hid (fun W => grow_c (n + s) (by omega) (by omega) W)
  have hgl := hG.lt
  have HG := Lib.hid hG
  have HR := Lib.hid hR
  obtain ⟨i0, hi0, hz0, hz1, hz2⟩ := info_parts info_int
  obtain ⟨D, hD⟩ : ∃ D, w.heap.size = D := ⟨_, rfl⟩
  have HD := Lib.hid hD
  have q1 := wrap_in (q := (n : Int) + (s : Int)) (by omega) (by omega)
  have hns : ¬ (n : Int) + (s : Int) < 0 := by omega
  have hn0 : ¬ (n : Int) < 0 := by omega
  have hnz : IntKind.i64.wrap (0 + (n : Int)) = (n : Int) := by rw [Int.zero_add]; exact wrap_in (by omega) (by omega)
  have H01 := Lib.hid (And.intro h0 h1)
  clear hR hG
  rw [hD]
  clear hD
  go_enter Try.func40, Try.ntmps40
  go_wp2_with fail
  go_loopw [3, 11] (fun sv i wr => wr = w ∧ ((sv = .int .i64 0 ∧ i = .int .i64 0) ∨ (sv = .int .i64 (n : Int) ∧ i = .int .i64 1) ∨ (sv = .int .i64 ((n : Int) + (s : Int)) ∧ i = .int .i64 2))) (fun _ i _ => (2 - intOf i).toNat)
  case atStart => exact ⟨by first | rfl | trivial, .inl ⟨rfl, rfl⟩⟩
  case round =>
    obtain ⟨hwr, hc⟩ := hrel
    subst wr
    rcases hc with ⟨rfl, rfl⟩ | ⟨rfl, rfl⟩ | ⟨rfl, rfl⟩
    · go_wp2_with fail
      go_roundw
      case rel => exact ⟨by first | rfl | trivial, .inr (.inl ⟨by first | rfl | (congr 1; omega), rfl⟩)⟩
      case measure => simp [intOf]
    · go_wp2_with fail
      go_roundw
      case rel => exact ⟨by first | rfl | trivial, .inr (.inr ⟨rfl, rfl⟩)⟩
      case measure => simp [intOf]
    · go_wp2_with fail
      refine (GR.out _).mono ?_
      rintro e w1 ⟨⟨g1, cap1, rfl, hrow1⟩, hb1⟩
      have HR1 := Lib.hid (And.intro hrow1 hb1)
      clear hrow1 hb1 h0 h1
      go_wp2_with fail
      go_loopw [6, 27] (fun v i wr => ∃ (t : Nat) (k : Nat) (xs : List Value), i = .int .i64 (t : Int) ∧ ((t = 0 ∧ k = 0 ∧ xs = []) ∨ (t = 1 ∧ k = n ∧ xs = (List.range n).map fun k => .int .i64 (f k)) ∨ (t = 2 ∧ k = n + s ∧ xs = ((List.range n).map fun k => .int .i64 (f k)) ++ List.replicate s (.int .i64 v_))) ∧ wr.ownsRow D 3 1 v k xs ∧ Below D w wr) (fun _ i _ => (2 - intOf i).toNat)
      case atStart => exact ⟨0, 0, [], rfl, .inl ⟨rfl, rfl, rfl⟩, by have := HR1.out.1; rw [HD.out] at this; exact this, by have := HR1.out.2; rw [HD.out] at this; exact this⟩
      case round =>
        obtain ⟨t, k, xs, rfl, hc, hrow, hb⟩ := hrel
        clear HR1
        have hDr : D ≤ wr.heap.size := by have := hb.size; have := HD.out; omega
        have HRW := Lib.hid hrow
        have HB1 := Lib.hid hb
        clear hrow
        rcases hc with ⟨rfl, rfl, rfl⟩ | ⟨rfl, rfl, rfl⟩ | ⟨rfl, rfl, rfl⟩
        · have c0 := (hb.cell (p := ⟨Bx, 0, none⟩) (show Bx < D by have := HD.out; omega)).trans H01.out.1
          clear hb
          have q2 : IntKind.i64.wrap ((0 : Int) + 1) = 1 := by decide
          cases A with
          | none =>
            have hn' : n = 0 := by
              rcases Nat.eq_zero_or_pos n with h | h
              · exact h
              · obtain ⟨_, h', _⟩ := HR.out 0 h; cases h'
            have HN0 := Lib.hid hn'
            clear hn'
            go_wp2_with (at_builtin; refine wpList_append_nilM rfl _ _ 27 rfl D 3 i0 1 Try.underlying27 hi0 _ _ _ rfl HRW.out n ca HN0.out rfl ?_)
            go_roundw
            case rel => exact ⟨1, n, _, rfl, .inr (.inl ⟨rfl, rfl, rfl⟩), by have h := HN0.out; have h2 := HRW.out; rw [h]; exact h2, HB1.out⟩
            case measure => simp [intOf]
          | some a =>
            have hN : ∀ k u, ((List.range n).map fun k => Value.int .i64 (f k))[k]? = some u → wr.cell? (a.add k) = some u := by
              intro k u hu
              have hk : k < n := by have := (List.getElem?_eq_some_iff.1 hu).1; simpa using this
              simp [hk] at hu
              obtain ⟨b, e1, e2, e3⟩ := HR.out k hk
              injection e1 with e1
              subst e1
              rw [← hu]
              exact (HB1.out.cell (p := a.add k) (by rw [block_add]; have := HD.out; omega)).trans e3
            have h1 : ∀ u ∈ (List.range n).map fun k => Value.int .i64 (f k), u.oneCell' = true := by
              intro u hu
              obtain ⟨k, _, rfl⟩ := List.mem_map.1 hu
              rfl
            have HEL := Lib.hid (And.intro hN h1)
            clear hN h1
            go_wp2_with (at_builtin; refine wpList_append_own _ rfl _ _ 27 rfl D 3 i0 (.int .i64 0) 1 8 Try.underlying27 hi0 hz0 hz1 hz2 rfl (by decide) _ _ _ rfl HRW.out a n _ _ rfl (by simp) HEL.out.1 HEL.out.2 (by unfold maxLen; omega) (by omega) hDr ?_; intro v' w6 hown' hgrow _)
            have hb6 := HB1.out.trans (grown_below0 hDr HRW.out hgrow)
            have HO := Lib.hid hown'
            clear hown'
            go_wp2_with fail
            go_roundw
            case rel => exact ⟨1, n, _, rfl, .inr (.inl ⟨rfl, rfl, rfl⟩), by have := HO.out; simpa using this, hb6⟩
            case measure => simp [intOf]
        · have c1 := (hb.cell (p := ⟨Bx, 1, none⟩) (show Bx < D by have := HD.out; omega)).trans H01.out.2
          have q2 : IntKind.i64.wrap ((1 : Int) + 1) = 2 := by decide
          have hN : ∀ k u, (List.replicate s (Value.int .i64 v_))[k]? = some u → wr.cell? (({ block := g, off := 0 } : Addr).add k) = some u := by
            intro k u hu
            have hk : k < s := by have := (List.getElem?_eq_some_iff.1 hu).1; simpa using this
            simp [hk] at hu
            rw [← hu, Addr.add_mid, Nat.zero_add]
            exact (HB1.out.cell (p := ⟨g, k, none⟩) (show g < D by have := HD.out; omega)).trans (HG.out.cell hk)
          have h1 : ∀ u ∈ List.replicate s (Value.int .i64 v_), u.oneCell' = true := by
            intro u hu
            rw [List.eq_of_mem_replicate hu]
            rfl
          have HEL := Lib.hid (And.intro hN h1)
          clear hN h1 hb
          go_wp2_with (at_builtin; refine wpList_append_own _ rfl _ _ 27 rfl D 3 i0 (.int .i64 0) 1 8 Try.underlying27 hi0 hz0 hz1 hz2 rfl (by decide) _ _ _ rfl HRW.out ⟨g, 0, none⟩ s _ _ rfl (by simp) HEL.out.1 HEL.out.2 (by unfold maxLen; omega) (by omega) hDr ?_; intro v' w6 hown' hgrow _)
          have hb6 := HB1.out.trans (grown_below0 hDr HRW.out hgrow)
          have HO := Lib.hid hown'
          clear hown'
          go_wp2_with fail
          go_roundw
          case rel => exact ⟨2, _, _, rfl, .inr (.inr ⟨rfl, rfl, rfl⟩), HO.out, hb6⟩
          case measure => simp [intOf]
        · have hlist : (((List.range n).map fun k => Value.int .i64 (f k)) ++ List.replicate s (Value.int .i64 v_)) = (List.range (n + s)).map fun k => Value.int .i64 (if k < n then f k else v_) := by
            apply List.ext_getElem
            · simp
            · intro i h1 h2
              by_cases hi : i < n
              · simp [List.getElem_append, hi]
              · simp [List.getElem_append, hi]
          have HO := HRW.out
          rw [hlist] at HO
          have HE := Lib.hid (And.intro (RowB.own (by omega) HO) hb)
          clear hb HO hlist
          go_wp2_with fail
          exact bodyPost_ret (by simp [results, Try.results40, go_sem]) rfl ⟨⟨_, rfl, HE.out.1⟩, HE.out.2⟩
end Go.Proofs.Ytojgfpnecdngfaa
