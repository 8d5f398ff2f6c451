/- Contracts of lessMagnitude; signed numbers. -/
import Derived.Test.YtnchodofgaaeeaaGreatDoorImJ
import Derived.Test.YtnchodofgaaeeaaGreatDoorNsSl
import Derived.Sort.QuietIn
namespace Go.Proofs.YtnchodofgaaeeaaGreatDoor
open Go Go.RowKit Go.Shelf
attribute [local go_sem] Oper.semAt_some wide_fn wide_depth

theorem cell_one {W : World} {b : Nat} {c : Value} {T : TypeId} (h : W.heap[b]? = some (.cells #[c] T)) : W.cell? ⟨b, 0, none⟩ = some c := by simp [World.cell?, h]
theorem free_one {W : World} {b : Nat} {c : Value} {T : TypeId} (h : W.heap[b]? = some (.cells #[c] T)) : W.frozen? ⟨b, 0, none⟩ = false := by simp [World.frozen?, h]
theorem set_one {W : World} {b : Nat} {c x : Value} {T : TypeId} (h : W.heap[b]? = some (.cells #[c] T)) : (W.setCell ⟨b, 0, none⟩ x).heap[b]? = some (.cells #[x] T) := by
  simp only [World.setCell, Array.getElem?_modify, if_true, h, Option.map_some]
  rfl
theorem set_else {W : World} {b k o : Nat} {x : Value} (h : k ≠ b) : (W.setCell ⟨b, o, none⟩ x).heap[k]? = W.heap[k]? := Below.heap_setCell _ _ _ _ (by simpa using h)
theorem heap_at {X : World} {o : Obj} {k : Nat} (hk : k = X.heap.size) : (X.alloc o).heap[k]? = some o := by subst hk; exact World.alloc_heap_new X o
theorem heap_up {X : World} {o o' : Obj} {k : Nat} (h : X.heap[k]? = some o') : (X.alloc o).heap[k]? = some o' := (Below.heap_alloc _ _ _ (Array.getElem?_eq_some_iff.1 h).1).trans h

/-- A sign and a magnitude. -/
def sv (neg : Bool) (m : Nat) : Int := if neg then -(m : Int) else m
theorem sv_abs (neg : Bool) (m : Nat) : (sv neg m).natAbs = m := by unfold sv; split <;> simp
theorem num_mk {W : World} {neg : Bool} {sa : Option Addr} {cap b o m : Nat} (h : Row W sa (nd m) cap b o m) : Num W (.agg #[.bool neg, .slice sa (nd m) cap]) (sv neg m) :=
  ⟨neg, sa, cap, b, o, by rw [sv_abs], by rw [sv_abs]; exact h, fun h0 => by
    unfold sv at *
    cases neg <;> simp at * <;> omega⟩
theorem num_open {W : World} {v : Value} {z : Int} (h : Num W v z) : ∃ neg m sa cap b o, v = .agg #[.bool neg, .slice sa (nd m) cap] ∧ Row W sa (nd m) cap b o m ∧ z = sv neg m := by
  obtain ⟨neg, sa, cap, b, o, h1, h2, h3⟩ := h
  refine ⟨neg, z.natAbs, sa, cap, b, o, h1, h2, ?_⟩
  by_cases h0 : z = 0
  · subst h0; cases neg <;> rfl
  · rw [h3 h0]
    unfold sv
    by_cases hz : z < 0
    · simp [hz]; omega
    · simp [hz]; omega
theorem sv_same (n : Bool) (a b : Nat) : sv n a + sv n b = sv n (a + b) := by unfold sv; cases n <;> simp <;> omega
theorem sv_lt {n n' : Bool} {a b : Nat} (h : n ≠ n') (hl : a < b) : sv n a + sv n' b = sv n' (b - a) := by unfold sv; cases n <;> cases n' <;> simp at * <;> omega
theorem sv_ge {n n' : Bool} {a b : Nat} (h : n ≠ n') (hl : ¬ a < b) : sv n a + sv n' b = sv n (a - b) := by unfold sv; cases n <;> cases n' <;> simp at * <;> omega
theorem sv_mul (n n' : Bool) (a b : Nat) : sv n a * sv n' b = sv (n != n') (a * b) := by unfold sv; cases n <;> cases n' <;> simp [Int.neg_mul, Int.mul_neg]

/-- Digits decide from the top. -/
theorem div_dg (x k : Nat) : x / BB ^ k = BB * (x / BB ^ (k + 1)) + dg x k := by
  unfold dg Im.dg
  rw [Nat.pow_succ, ← Nat.div_div_eq_div_mul]
  exact (Nat.div_add_mod _ _).symm
theorem lt_of_nd {x y : Nat} (h : nd x < nd y) : x < y := by
  rcases Nat.lt_or_ge x y with h1 | h1
  · exact h1
  · have := Im.nd_mono bb2 h1
    unfold nd at h
    omega
theorem lt_of_dg {x y k : Nat} (h : x / BB ^ (k + 1) = y / BB ^ (k + 1)) (hd : dg x k < dg y k) : x < y := by
  have h1 := div_dg x k
  have h2 := div_dg y k
  rw [h] at h1
  rcases Nat.lt_or_ge x y with h3 | h3
  · exact h3
  · have := Nat.div_le_div_right (c := BB ^ k) h3
    omega

set_option maxHeartbeats 1000000 in
theorem less_len (sx : Option Addr) (nx cx : Nat) (sy : Option Addr) (ny cpy : Nat) (h : nx ≠ ny) (w : World) :
    Calls Tryz.prog 100 #[.slice sx nx cx, .slice sy ny cpy] w fun e w' => e = .returned (.bool (decide (nx < ny))) ∧ Below w.heap.size w w' := by
  have h1 : ¬ ((nx : Int) = (ny : Int)) := by omega
  have h2 : ((nx : Int) == (ny : Int)) = false := by rw [beq_eq_false_iff_ne]; exact h1
  have h3 : ((nx : Int) != (ny : Int)) = true := by simp [bne, h2]
  have e : decide (nx < ny) = decide ((nx : Int) < (ny : Int)) := by congr 1; apply propext; omega
  rw [e]
  clear e
  go_enter Tryz.func100, Tryz.ntmps100
  go_wp2
  refine bodyPost_ret (v := .bool (decide ((nx : Int) < (ny : Int)))) (by simp [results, Tryz.results100, go_sem]) rfl ⟨rfl, ((Below.refl _ _).alloc (Nat.le_refl _) _).alloc (by simp) _⟩

set_option maxRecDepth 100000 in
set_option maxHeartbeats 4000000 in
theorem less_same (sx : Option Addr) (n cx bx ox x : Nat) (sy : Option Addr) (cpy by_ oy y : Nat) (w : World) (hx : Row w sx n cx bx ox x) (hy : Row w sy n cpy by_ oy y) (hn : n ≤ 1048576) :
    Calls Tryz.prog 100 #[.slice sx n cx, .slice sy n cpy] w fun e w' => e = .returned (.bool (decide (x < y))) ∧ Below w.heap.size w w' := by
  have BK := Lib.hid (fun W => backward_any sx n cx W)
  have HX := Lib.hid hx
  have HY := Lib.hid hy
  have hcy := hy.cap
  clear hx hy
  obtain ⟨D, hD⟩ : ∃ D, w.heap.size = D := ⟨_, rfl⟩
  refine (callsIn_wide (n := 5)).1 ?_
  refine callsIn_of_wp_marks Tryz.func100 rfl trivial ?_ rfl
  simp only [Tryz.ntmps100, List.size_toArray, List.length_cons, List.length_nil, Nat.reduceAdd, Nat.reduceSub, Array.replicate_succ, Array.replicate_zero, List.push_toArray, List.append_toArray, List.nil_append, List.cons_append]
  gi_wp2_with fail
  refine (callsIn_wide.2 (BK.out _)).mono ?_
  rintro e w' ⟨rfl, rfl⟩
  gi_wp2_with fail
  obtain ⟨V, hV⟩ : ∃ V, (((w.alloc (.cells #[.slice sy n cpy] 78)).alloc (.cells #[.bool false] 4)).alloc (.cells #[.slice sx n cx] 78)) = V := ⟨_, rfl⟩
  have hwV : Below D w V := by rw [← hV]; exact (((Below.refl _ _).alloc (by omega) _).alloc (by simp; omega) _).alloc (by simp; omega) _
  have h0V : V.heap[D]? = some (.cells #[.slice sy n cpy] 78) := by rw [← hV]; exact heap_up (heap_up (heap_at hD.symm))
  have h1V : V.heap[D + 1]? = some (.cells #[.bool false] 4) := by rw [← hV]; exact heap_up (heap_at (by simp [hD]))
  have h2V : V.heap[D + 1 + 1]? = some (.cells #[.slice sx n cx] 78) := by rw [← hV]; exact heap_at (by simp [hD])
  have hzV : V.heap.size = D + 3 := by rw [← hV]; simp [hD]
  rw [hV]
  clear hV
  refine Rg.range_all rfl (by omega) (gf := 127) (lb := #[.pointer (some ⟨D + 1 + 1, 0, none⟩)]) rfl trivial (enters_of Tryz.func127 (by kernel_rfl) rfl)
    (backward_gives (D + 1 + 1) sx bx ox n cx (fun k => (dg x k : Nat)) (by omega) 4 V) (fun _ => rfl)
    (fun _ => False) (fun h => h) (fun h => h)
    (fun pre W => W.heap[D]? = some (.cells #[.slice sy n cpy] 78) ∧ W.heap[D + 1]? = some (.cells #[.bool false] 4) ∧ W.heap[D + 1 + 1]? = some (.cells #[.slice sx n cx] 78) ∧ Below D w W ∧ x / BB ^ (n - pre.length) = y / BB ^ (n - pre.length))
    (fun c pre W => c = .ret ∧ W.heap[D + 1]? = some (.cells #[.bool (decide (x < y))] 4) ∧ Below D w W)
    (fun s A B ⟨h1, h2, h3, h4, h5⟩ st => ⟨st.same _ _ _ _ h1, st.same _ _ _ _ h2, st.same _ _ _ _ h3, h4.trans (st.below.mono (by omega)), h5⟩)
    (fun c s A B ⟨h1, h2, h3⟩ st => ⟨h1, st.same _ _ _ _ h2, h3.trans (st.below.mono (by omega))⟩)
    (fun s A ⟨h1, h2, h3, h4, h5⟩ => ⟨cell_one h3, HX.out.at_, fun k hk => (h4.cell (p := ⟨bx, ox + k, none⟩) (by have := HX.out.lt (by omega); show bx < D; omega)).trans (HX.out.cell k hk)⟩)
    ⟨h0V, h1V, h2V, hwV, by rw [List.length_nil, Nat.sub_zero, Nat.div_eq_of_lt HX.out.fits, Nat.div_eq_of_lt HY.out.fits]⟩
    (fun q => { tmps := #[.slice sx n cx, .slice sy n cpy, undef, .pointer (some ⟨D, 0, none⟩), .pointer (some ⟨D + 1, 0, none⟩), .int .i64 (q.1 : Nat), .int .u64 q.2, .slice sx n cx, .int .i64 n, .slice sy n cpy, .int .i64 n, .bool false, undef, undef, undef, undef, undef, .slice sx n cx, .func (.func 127) #[] #[.pointer (some ⟨D + 1 + 1, 0, none⟩)], .int .i64 (q.1 : Nat), .int .u64 q.2, undef, undef, undef, undef, undef, undef, undef, undef, undef, undef, undef, undef], defers := [] }) ?assign ?body ?done ?stop
  case assign =>
    intro l q W K hK
    gi_wp2
    exact hK
  case body =>
    rintro l pre q W ⟨h1, h2, h3, hw, h5⟩ hpost hszW
    obtain ⟨hlen, _, hq⟩ := downL_at _ n hpost
    subst hq
    have hd := div_dg x (n - 1 - pre.length)
    have hd' := div_dg y (n - 1 - pre.length)
    rw [show n - 1 - pre.length + 1 = n - pre.length by omega] at hd hd'
    have hl := @lt_of_dg x y (n - 1 - pre.length)
    have hl' := @lt_of_dg y x (n - 1 - pre.length)
    rw [show n - 1 - pre.length + 1 = n - pre.length by omega] at hl hl'
    have HL := Lib.hid (hl h5)
    have HL' := Lib.hid (hl' h5.symm)
    have HE := Lib.hid (fun (e : dg x (n - 1 - pre.length) = dg y (n - 1 - pre.length)) => show x / BB ^ (n - 1 - pre.length) = y / BB ^ (n - 1 - pre.length) by rw [hd, hd', h5, e])
    have HJ := Lib.hid (show n - 1 - pre.length = n - (pre.length + 1) by omega)
    have cy := (hw.cell (p := ⟨by_, oy + (n - 1 - pre.length), none⟩) (by have := HY.out.lt (by omega); show by_ < D; omega)).trans (HY.out.cell (n - 1 - pre.length) (by omega))
    obtain rfl := HY.out.at_ (by omega)
    have c0 := cell_one h1
    have c1 := cell_one h2
    have f1 := free_one h2
    obtain ⟨j, hj⟩ : ∃ j : Nat, n - 1 - pre.length = j := ⟨_, rfl⟩
    have hjn : (j : Int) < (n : Int) := by omega
    rw [hj] at HL HL' HE HJ cy ⊢
    clear hd hd' hl hl' hpost h5 hj
    generalize dg x j = dx at *
    generalize dg y j = dy at *
    by_cases he : dx = dy
    · have HEE := Lib.hid (HE.out he)
      clear HE HL HL'
      subst he
      have H1 := Lib.hid h1
      have H2 := Lib.hid h2
      have H3 := Lib.hid h3
      clear h1 h2 h3
      gi_wp2
      exact ⟨Rg.Round.refl _ _, H1.out, H2.out, H3.out, hw, by rw [List.length_append, List.length_singleton, ← HJ.out]; exact HEE.out⟩
    · have hne : ¬ ((dx : Int) = (dy : Int)) := by omega
      have hv : decide (dx < dy) = decide (x < y) := by
        congr 1
        apply propext
        refine ⟨HL.out, fun h => ?_⟩
        rcases Nat.lt_or_ge dx dy with h' | h'
        · exact h'
        · have := HL'.out (by omega)
          omega
      have HV := Lib.hid hv
      have hr : Rg.Round (fun _ => False) W (W.setCell ⟨D + 1, 0, none⟩ (.bool (decide (dx < dy)))) :=
        ⟨by simp [World.setCell], fun k o hk _ hc => by
          by_cases e : k = D + 1
          · subst e; rw [h2] at hk; cases hk; simp [Obj.isCells] at hc
          · exact (Below.heap_setCell _ _ _ _ (by simpa using e)).trans hk⟩
      have HR := Lib.hid hr
      have H2 := Lib.hid h2
      clear hv hr h1 h2 h3
      gi_wp2
      refine ⟨HR.out, rfl, ?_, hw.setCell (by simp) _⟩
      rw [← HV.out]
      exact set_one H2.out
  case done =>
    rintro Dd W hDd ⟨h1, h2, h3, hw, h5⟩ hK
    rw [downL_length, Nat.sub_self, Nat.pow_zero, Nat.div_one, Nat.div_one] at h5
    subst h5
    have c1 := cell_one h2
    have f1 := free_one h2
    have hs := set_one h2 (x := .bool false)
    have HS := Lib.hid hs
    have hK5 : (W.setCell ⟨D + 1, 0, none⟩ (.bool false)).heap[Dd]? = some (.deferred (some [])) := (set_else (by omega)).trans hK
    have HK5 := Lib.hid hK5
    clear hs h1 h2 h3 hK5
    gi_wp2
    refine ⟨by simp, .inl ⟨_, _, rfl, run_takeDeferred HK5.out, ?_⟩⟩
    have hst := Rg.Step.putObj (b := D) (W.setCell ⟨D + 1, 0, none⟩ (.bool false)) _ (.deferred none) (by omega) HK5.out rfl
    have y0 := cell_one (hst.same _ _ _ _ HS.out)
    exact ⟨.bool false, by simp [results, Tryz.results100, go_sem, y0], by simp, by rw [hD]; exact (hw.setCell (by simp) _).trans hst.below⟩
  case stop =>
    rintro Dd c pre W hDd _ ⟨rfl, h2, hw⟩ hK
    gi_wp2
    refine ⟨by simp, .inl ⟨_, _, rfl, run_takeDeferred hK, ?_⟩⟩
    have hst := Rg.Step.putObj (b := D) W _ (.deferred none) (by omega) hK rfl
    have y0 := cell_one (hst.same _ _ _ _ h2)
    exact ⟨.bool (decide (x < y)), by simp [results, Tryz.results100, go_sem, y0], rfl, by rw [hD]; exact hw.trans hst.below⟩
theorem less_any (sx : Option Addr) (cx bx ox x : Nat) (sy : Option Addr) (cpy by_ oy y : Nat) (w : World) (hx : Row w sx (nd x) cx bx ox x) (hy : Row w sy (nd y) cpy by_ oy y) (hn : nd x ≤ 1048576) :
    Calls Tryz.prog 100 #[.slice sx (nd x) cx, .slice sy (nd y) cpy] w fun e w' => e = .returned (.bool (decide (x < y))) ∧ Below w.heap.size w w' := by
  by_cases h : nd x = nd y
  · rw [← h] at hy ⊢
    exact less_same sx (nd x) cx bx ox x sy cpy by_ oy y w hx hy hn
  · have e : decide (x < y) = decide (nd x < nd y) := by
      congr 1
      apply propext
      refine ⟨fun h1 => ?_, lt_of_nd⟩
      have := Im.nd_mono bb2 (Nat.le_of_lt h1)
      unfold nd at *
      omega
    rw [e]
    exact less_len sx (nd x) cx sy (nd y) cpy h w
end Go.Proofs.YtnchodofgaaeeaaGreatDoor
