/- The contract of divideByPiece. -/
import Derived.Test.YtnchodofgaaeeaaGreatDoorImL
import Derived.Test.YtnchodofgaaeeaaGreatDoorImP1
import Derived.Sort.QuietIn
import Derived.BigRegionIn
import Derived.Sort.CutIn
import Derived.Stop.RegionWithIn
namespace Go.Proofs.YtnchodofgaaeeaaGreatDoor
open Go Go.RowKit Go.Shelf
attribute [local go_sem] Oper.semAt_some wide_fn wide_depth

theorem quot_stepB {X Y i : Nat} (hY : 0 < Y) : (BB * (X / BB ^ (i + 1) % Y) + dg X i) / Y = X / BB ^ i / Y - BB * (X / BB ^ (i + 1) / Y) ∧ (BB * (X / BB ^ (i + 1) % Y) + dg X i) / Y = dg (X / Y) i ∧ (BB * (X / BB ^ (i + 1) % Y) + dg X i) % Y = X / BB ^ i % Y := by
  have h1 := div_dgJ X i
  have h2 := div_dgJ (X / Y) i
  rw [Nat.div_div_eq_div_mul, Nat.mul_comm Y, ← Nat.div_div_eq_div_mul, Nat.div_div_eq_div_mul X Y (BB ^ (i + 1)), Nat.mul_comm Y, ← Nat.div_div_eq_div_mul] at h2
  rw [h1] at h2 ⊢
  have h3 := Nat.div_add_mod (X / BB ^ (i + 1)) Y
  generalize X / BB ^ (i + 1) = B at *
  generalize dg X i = d at *
  generalize B / Y = b at *
  generalize B % Y = r at *
  have e : BB * B + d = Y * (BB * b) + (BB * r + d) := by rw [← h3, Nat.mul_add, Nat.mul_left_comm]; omega
  rw [e] at h2 ⊢
  rw [Nat.mul_add_div hY] at h2 ⊢
  exact ⟨by omega, by omega, (Nat.mul_add_mod _ _ _).symm⟩
theorem set_row {W : World} {b k : Nat} {cs : Array Value} {v : Value} {T : TypeId} (h : W.heap[b]? = some (.cells cs T)) : (W.setCell ⟨b, k, none⟩ v).heap[b]? = some (.cells (cs.setIfInBounds k v) T) := by
  simp only [World.setCell, Array.getElem?_modify, if_true, h, Option.map_some]
  rfl
theorem cell_row {W : World} {b k : Nat} {cs : Array Value} {T : TypeId} (h : W.heap[b]? = some (.cells cs T)) : W.cell? ⟨b, k, none⟩ = cs[k]? := by rw [Lib.cell_of_heap h]
theorem free_row {W : World} {b k : Nat} {cs : Array Value} {T : TypeId} (h : W.heap[b]? = some (.cells cs T)) : W.frozen? ⟨b, k, none⟩ = false := by simp [World.frozen?, h]
/-- The quotient's cells while it is made. -/
def qfB (Q k j : Nat) : Nat := if j < k then 0 else dg Q j

set_option maxRecDepth 100000 in
set_option maxHeartbeats 4000000 in
theorem byPiece_any (sx : Option Addr) (n cx bx ox X d : Nat) (hd : 0 < d) (hd9 : d < 1000000000) (w : World) (hx : Row w sx n cx bx ox X) (hn : n ≤ 1000000) :
    Calls Tryz.prog 108 #[.slice sx n cx, .int .u64 (d : Nat)] w fun e w' => (∃ v, e = .returned (.tuple #[v, .int .u64 (X % d : Nat)]) ∧ Mag w' v (X / d)) ∧ Below w.heap.size w w' := by
  obtain ⟨i0, hi0, hz0, hz1, hz2⟩ := info_parts info_u64
  have BK := Lib.hid (fun W => backward_any sx n cx W)
  have HX := Lib.hid hx
  clear hx
  have hmk : ∀ W : World, (Instr.makeSlice 78 (.int .i64 (n : Int)) (.int .i64 (n : Int))).run Tryz.prog W = .ok (.slice (some ⟨W.heap.size, 0, none⟩) n n) (W.alloc (.cells (madeCells #[.int .u64 0] (n * 1)) 106)) := fun W => by
    have := run_makeSlice (P := Tryz.prog) W 78 106 i0 (.int .u64 0) Tryz.underlying78 hi0 hz0 .i64 .i64 (n : Int) (n : Int) (by omega) (by omega) (by rw [hz1]; simp; omega) (by rw [hz2]; omega) (by omega)
    rw [hz1] at this
    simpa [Value.cells] using this
  obtain ⟨D, hD⟩ : ∃ D, w.heap.size = D := ⟨_, rfl⟩
  refine (callsIn_wide (n := 5)).1 ?_
  refine callsIn_of_wp_marks Tryz.func108 rfl trivial ?_ rfl
  simp only [Tryz.ntmps108, List.size_toArray, List.length_cons, List.length_nil, Nat.reduceAdd, Nat.reduceSub, Array.replicate_succ, Array.replicate_zero, List.push_toArray, List.append_toArray, List.nil_append, List.cons_append]
  gi_wp2_with fail
  refine (callsIn_wide.2 (BK.out _)).mono ?_
  rintro e w' ⟨rfl, rfl⟩
  gi_wp2_with fail
  obtain ⟨V, hV⟩ : ∃ V, (((((w.alloc (.cells #[.int .u64 (d : Nat)] 106)).alloc (.cells #[.slice (some ⟨D + 1 + 1 + 1, 0, none⟩) n n] 78)).alloc (.cells #[.int .u64 0] 106)).alloc (.cells (madeCells #[.int .u64 0] n) 106)).alloc (.cells #[.slice sx n cx] 78)) = V := ⟨_, rfl⟩
  have hwV : Below D w V := by rw [← hV]; exact (((((Below.refl _ w).alloc (by omega) _).alloc (by simp; omega) _).alloc (by simp; omega) _).alloc (by simp; omega) _).alloc (by simp; omega) _
  have h0V : V.heap[D]? = some (.cells #[.int .u64 (d : Nat)] 106) := by rw [← hV]; exact heap_up (heap_up (heap_up (heap_up (heap_at hD.symm))))
  have h1V : V.heap[D + 1]? = some (.cells #[.slice (some ⟨D + 1 + 1 + 1, 0, none⟩) n n] 78) := by rw [← hV]; exact heap_up (heap_up (heap_up (heap_at (by simp [hD]))))
  have h2V : V.heap[D + 1 + 1]? = some (.cells #[.int .u64 0] 106) := by rw [← hV]; exact heap_up (heap_up (heap_at (by simp [hD])))
  have h3V : V.heap[D + 1 + 1 + 1]? = some (.cells (madeCells #[.int .u64 0] n) 106) := by rw [← hV]; exact heap_up (heap_at (by simp [hD]))
  have h4V : V.heap[D + 1 + 1 + 1 + 1]? = some (.cells #[.slice sx n cx] 78) := by rw [← hV]; exact heap_at (by simp [hD])
  have hzV : V.heap.size = D + 5 := by rw [← hV]; simp [hD]
  rw [hV]
  clear hV hmk
  have hcs : (madeCells #[Value.int .u64 0] n).size = n ∧ ∀ j, j < n → (madeCells #[Value.int .u64 0] n)[j]? = some (.int .u64 (qfB (X / d) n j : Nat)) := by
    refine ⟨by rw [← Array.length_toList]; have := toList_madeCells_one (.int .u64 0) n; rw [this]; simp, fun j hj => ?_⟩
    have := toList_madeCells_one (.int .u64 0) n
    rw [← Array.getElem?_toList, this, List.getElem?_replicate, if_pos hj]
    unfold qfB; rw [if_pos hj]; rfl
  have HST := Lib.hid (fun i => quot_stepB (X := X) (i := i) hd)
  have HML := Lib.hid (fun k => Nat.mod_lt (X / BB ^ k) hd)
  refine Rg.range_all rfl (by omega) (gf := 127) (lb := #[.pointer (some ⟨D + 1 + 1 + 1 + 1, 0, none⟩)]) rfl trivial (enters_of Tryz.func127 (by kernel_rfl) rfl)
    (backward_gives (D + 1 + 1 + 1 + 1) sx bx ox n cx (fun k => (dg X k : Nat)) (by omega) 4 V) (fun _ => rfl)
    (fun b => b = D + 1 + 1 ∨ b = D + 1 + 1 + 1) (by show ¬ (V.heap.size = _ ∨ V.heap.size = _); omega) (by show ¬ (V.heap.size + 1 = _ ∨ V.heap.size + 1 = _); omega)
    (fun pre W => W.heap[D]? = some (.cells #[.int .u64 (d : Nat)] 106) ∧ W.heap[D + 1]? = some (.cells #[.slice (some ⟨D + 1 + 1 + 1, 0, none⟩) n n] 78) ∧ W.heap[D + 1 + 1]? = some (.cells #[.int .u64 (X / BB ^ (n - pre.length) % d : Nat)] 106) ∧ (∃ cs : Array Value, W.heap[D + 1 + 1 + 1]? = some (.cells cs 106) ∧ cs.size = n ∧ ∀ j, j < n → cs[j]? = some (.int .u64 (qfB (X / d) (n - pre.length) j : Nat))) ∧ W.heap[D + 1 + 1 + 1 + 1]? = some (.cells #[.slice sx n cx] 78) ∧ Below D w W)
    (fun _ _ _ => False)
    (fun s A B ⟨h0, h1, h2, ⟨cs, h3, h3'⟩, h4, h5⟩ st => ⟨st.same _ _ _ _ h0, st.same _ _ _ _ h1, st.same _ _ _ _ h2, ⟨cs, st.same _ _ _ _ h3, h3'⟩, st.same _ _ _ _ h4, h5.trans (st.below.mono (by omega))⟩)
    (fun _ _ _ _ h _ => h)
    (fun s A ⟨_, _, _, _, h4, h5⟩ => ⟨cell_one h4, HX.out.at_, fun k hk => (h5.cell (p := ⟨bx, ox + k, none⟩) (by have := HX.out.lt (by omega); show bx < D; omega)).trans (HX.out.cell k hk)⟩)
    ⟨h0V, h1V, by rw [h2V, List.length_nil, Nat.sub_zero, Nat.div_eq_of_lt HX.out.fits, Nat.zero_mod]; rfl, ⟨_, h3V, hcs⟩, h4V, hwV⟩
    (fun q => { tmps := #[.slice sx n cx, .int .u64 (d : Nat), undef, .pointer (some ⟨D, 0, none⟩), .pointer (some ⟨D + 1, 0, none⟩), .pointer (some ⟨D + 1 + 1, 0, none⟩), .int .i64 (q.1 : Nat), .int .u64 q.2, .slice sx n cx, .int .i64 n, .slice (some ⟨D + 1 + 1 + 1, 0, none⟩) n n, .slice sx n cx, .func (.func 127) #[] #[.pointer (some ⟨D + 1 + 1 + 1 + 1, 0, none⟩)], .int .i64 (q.1 : Nat), .int .u64 q.2, undef, undef, undef, undef, undef, undef, undef, undef, undef, undef, undef, undef, undef, undef, undef, undef], defers := [] }) ?assign ?body ?done ?stop
  case assign =>
    intro l q W K hK
    gi_wp2
    exact hK
  case body =>
    rintro l pre q W ⟨h0, h1, h2, ⟨cs, h3, h3s, h3c⟩, h4, h5⟩ hpost hszW
    obtain ⟨hlen, _, hq⟩ := downL_at _ n hpost
    subst hq
    obtain ⟨_, hs2, hs3⟩ := HST.out (n - 1 - pre.length)
    have hml := HML.out (n - pre.length)
    rw [show n - 1 - pre.length + 1 = n - pre.length by omega] at hs2 hs3
    have hx9 := dg_lt X (n - 1 - pre.length)
    have HPL := Lib.hid (show n - (pre ++ [(n - 1 - pre.length, (dg X (n - 1 - pre.length) : Int))]).length = n - 1 - pre.length by rw [List.length_append, List.length_singleton]; omega)
    obtain ⟨R, hR⟩ : ∃ R, X / BB ^ (n - pre.length) % d = R := ⟨_, rfl⟩
    rw [hR] at hs2 hs3 hml h2
    obtain ⟨j, hj⟩ : ∃ j : Nat, n - 1 - pre.length = j := ⟨_, rfl⟩
    rw [hj] at hs2 hs3 hx9 HPL ⊢
    have hjn : j < n := by omega
    have hji : (j : Int) < (n : Int) := by omega
    have hqf : qfB (X / d) (n - pre.length) j = 0 := by unfold qfB; rw [if_pos (by omega)]
    have hqk : ∀ i, i < n → i ≠ j → qfB (X / d) j i = qfB (X / d) (n - pre.length) i := fun i _ hi => by
      unfold qfB
      by_cases h9 : i < j
      · rw [if_pos h9, if_pos (by omega)]
      · rw [if_neg h9, if_neg (by omega)]
    have hqj : qfB (X / d) j j = dg (X / d) j := by unfold qfB; rw [if_neg (by omega)]
    have hcj := h3c j hjn
    rw [hqf] at hcj
    obtain ⟨L, hL⟩ : ∃ L, dg (X / d) j = L := ⟨_, rfl⟩
    have hLl : L < 1000000000 := by rw [← hL]; exact dg_lt _ _
    rw [hL] at hs2 hqj
    obtain ⟨R2, hR2⟩ : ∃ R2, X / BB ^ j % d = R2 := ⟨_, rfl⟩
    have hR2l : R2 < d := by rw [← hR2]; exact HML.out j
    rw [hR2] at hs3
    obtain ⟨x, hx⟩ : ∃ x, dg X j = x := ⟨_, rfl⟩
    rw [hx] at hs2 hs3 hx9 HPL ⊢
    obtain ⟨T, hT⟩ : ∃ T, BB * R + x = T := ⟨_, rfl⟩
    rw [hT] at hs2 hs3
    have hTi : (R : Int) * 1000000000 + (x : Int) = (T : Int) := by rw [← hT]; unfold BB; omega
    have hTl : T < 1000000000000000000 := by rw [← hT]; unfold BB; omega
    have hRl : (R : Int) * 1000000000 < 1000000000000000000 := by omega
    have hTL : (T : Int) / (d : Int) = (L : Int) := by rw [← hs2]; simp
    have hTR : (T : Int) % (d : Int) = (R2 : Int) := by rw [← hs3]; simp
    have hd0 : ¬ (d : Int) = 0 := by omega
    have HH := Lib.hid (And.intro h0 (And.intro h1 (And.intro h2 (And.intro h3 (And.intro h4 h5)))))
    have HQ := Lib.hid (And.intro h3s (And.intro h3c (And.intro hqk hqj)))
    have HR2 := Lib.hid hR2
    have c2 := cell_one h2
    have f2 := free_one h2
    have hh2 := set_one h2 (x := .int .u64 (T : Nat))
    have hh0 : (W.setCell ⟨D + 1 + 1, 0, none⟩ (.int .u64 (T : Nat))).heap[D]? = _ := (set_else (by omega)).trans h0
    have hh1 : (W.setCell ⟨D + 1 + 1, 0, none⟩ (.int .u64 (T : Nat))).heap[D + 1]? = _ := (set_else (by omega)).trans h1
    have hh3 : (W.setCell ⟨D + 1 + 1, 0, none⟩ (.int .u64 (T : Nat))).heap[D + 1 + 1 + 1]? = _ := (set_else (by omega)).trans h3
    have hh4 : (W.setCell ⟨D + 1 + 1, 0, none⟩ (.int .u64 (T : Nat))).heap[D + 1 + 1 + 1 + 1]? = _ := (set_else (by omega)).trans h4
    have hh5 : Below D w (W.setCell ⟨D + 1 + 1, 0, none⟩ (.int .u64 (T : Nat))) := h5.setCell (by simp; omega) _
    have hrd : Rg.Round (fun b => b = D + 1 + 1 ∨ b = D + 1 + 1 + 1) W (W.setCell ⟨D + 1 + 1, 0, none⟩ (.int .u64 (T : Nat))) := (Rg.Round.refl _ W).set (.inl rfl) _
    have HHH := Lib.hid (And.intro hh0 (And.intro hh1 (And.intro hh2 (And.intro hh3 (And.intro hh4 (And.intro hh5 hrd))))))
    clear h0 h1 h2 h3 h4 h5 h3s h3c hqk hqj hqf hh0 hh1 hh2 hh3 hh4 hh5 hrd hs2 hs3 hR2 hL hx hT hR hj
    have FIN := Lib.hid (fun (W3 : World) (K : W3.heap[D]? = some (.cells #[.int .u64 (d : Nat)] 106) ∧ W3.heap[D + 1]? = some (.cells #[.slice (some ⟨D + 1 + 1 + 1, 0, none⟩) n n] 78) ∧ W3.heap[D + 1 + 1]? = some (.cells #[.int .u64 (T : Nat)] 106) ∧ W3.heap[D + 1 + 1 + 1]? = some (.cells (cs.setIfInBounds j (.int .u64 (L : Nat))) 106) ∧ W3.heap[D + 1 + 1 + 1 + 1]? = some (.cells #[.slice sx n cx] 78) ∧ Below D w W3 ∧ Rg.Round (fun b => b = D + 1 + 1 ∨ b = D + 1 + 1 + 1) W W3) => by
      obtain ⟨k0, k1, k2, k3, k4, k5, krd⟩ := K
      obtain ⟨h3s, h3c, hqk, hqj⟩ := HQ.out
      have r : Rg.Round (fun b => b = D + 1 + 1 ∨ b = D + 1 + 1 + 1) W (W3.setCell ⟨D + 1 + 1, 0, none⟩ (.int .u64 (R2 : Nat))).drew := ⟨(krd.set (p := ⟨D + 1 + 1, 0, none⟩) (.inl rfl) (.int .u64 (R2 : Nat))).size, (krd.set (p := ⟨D + 1 + 1, 0, none⟩) (.inl rfl) (.int .u64 (R2 : Nat))).same⟩
      refine And.intro r (And.intro (a := (W3.setCell ⟨D + 1 + 1, 0, none⟩ (.int .u64 (R2 : Nat))).drew.heap[D]? = some (.cells #[.int .u64 (d : Nat)] 106)) ((set_else (by omega)).trans k0) (And.intro (a := (W3.setCell ⟨D + 1 + 1, 0, none⟩ (.int .u64 (R2 : Nat))).drew.heap[D + 1]? = some (.cells #[.slice (some ⟨D + 1 + 1 + 1, 0, none⟩) n n] 78)) ((set_else (by omega)).trans k1) (And.intro (a := (W3.setCell ⟨D + 1 + 1, 0, none⟩ (.int .u64 (R2 : Nat))).drew.heap[D + 1 + 1]? = some (.cells #[.int .u64 (X / BB ^ (n - (pre ++ [(j, (x : Int))]).length) % d : Nat)] 106)) ?_ (And.intro (a := ∃ cs : Array Value, (W3.setCell ⟨D + 1 + 1, 0, none⟩ (.int .u64 (R2 : Nat))).drew.heap[D + 1 + 1 + 1]? = some (.cells cs 106) ∧ cs.size = n ∧ ∀ i, i < n → cs[i]? = some (.int .u64 (qfB (X / d) (n - (pre ++ [(j, (x : Int))]).length) i : Nat))) ⟨_, (set_else (by omega)).trans k3, by simp [h3s], fun i hi => ?_⟩ (And.intro (a := (W3.setCell ⟨D + 1 + 1, 0, none⟩ (.int .u64 (R2 : Nat))).drew.heap[D + 1 + 1 + 1 + 1]? = some (.cells #[.slice sx n cx] 78)) ((set_else (by omega)).trans k4) (show Below D w (W3.setCell ⟨D + 1 + 1, 0, none⟩ (.int .u64 (R2 : Nat))).drew from (k5.setCell (p := ⟨D + 1 + 1, 0, none⟩) (by simp; omega) _).drew))))))
      · rw [HPL.out, HR2.out]; exact set_one k2
      · rw [HPL.out]
        by_cases hij : j = i
        · subst hij
          rw [Array.getElem?_setIfInBounds_self_of_lt (by omega), hqj]
        · rw [Array.getElem?_setIfInBounds_ne hij, h3c i hi, hqk i hi (fun e => hij e.symm)])
    gi_upto_region 6 with fail
    obtain ⟨hh0, hh1, hh2, hh3, hh4, hh5, hrd⟩ := HHH.out
    generalize W.setCell ⟨D + 1 + 1, 0, none⟩ (.int .u64 (T : Nat)) = W2 at *
    have d0 := cell_one hh0
    have d1 := cell_one hh1
    have d2 := cell_one hh2
    have g2 := free_one hh2
    have d3 := (cell_row (k := j) hh3).trans hcj
    have g3 := free_row (k := j) hh3
    have HHH2 := Lib.hid (And.intro hh0 (And.intro hh1 (And.intro hh2 (And.intro hh3 (And.intro hh4 (And.intro hh5 hrd))))))
    clear HHH hh0 hh1 hh2 hh3 hh4 hh5 hrd c2 f2 hcj
    have hzW2 : D + 5 + 2 ≤ W.heap.size := by omega
    have hwL : IntKind.u64.wrap (L : Int) = (L : Int) := IntWalk.u64_in _ (by omega)
    clear hpost hszW hlen hml hRl hTi hTl hx9 h0V h1V h2V h3V h4V hwV hcs
    have hdn : ¬ d = 0 := by omega
    gi_region
    all_goals (obtain ⟨hh0, hh1, hh2, hh3, hh4, hh5, hrd⟩ := HHH2.out; clear d0 d1 d2 d3 g2 g3)
    all_goals (have k2 : (W2.setCell ⟨D + 1 + 1 + 1, j, none⟩ (.int .u64 (L : Nat))).heap[D + 1 + 1]? = _ := (set_else (by omega)).trans hh2; have k0 : (W2.setCell ⟨D + 1 + 1 + 1, j, none⟩ (.int .u64 (L : Nat))).heap[D]? = _ := (set_else (by omega)).trans hh0; have k1 : (W2.setCell ⟨D + 1 + 1 + 1, j, none⟩ (.int .u64 (L : Nat))).heap[D + 1]? = _ := (set_else (by omega)).trans hh1; have k4 : (W2.setCell ⟨D + 1 + 1 + 1, j, none⟩ (.int .u64 (L : Nat))).heap[D + 1 + 1 + 1 + 1]? = _ := (set_else (by omega)).trans hh4; have k3 := set_row (k := j) (v := .int .u64 (L : Nat)) hh3)
    all_goals (have KK := Lib.hid (And.intro k0 (And.intro k1 (And.intro k2 (And.intro k3 (And.intro k4 (And.intro (hh5.setCell (p := ⟨D + 1 + 1 + 1, j, none⟩) (by simp; omega) (.int .u64 (L : Nat))) (hrd.set (p := ⟨D + 1 + 1 + 1, j, none⟩) (.inr rfl) (.int .u64 (L : Nat))))))))); clear hh0 hh1 hh2 hh3 hh4 hh5 hrd; have e0 := cell_one k0; have e2 := cell_one k2; have z2 := free_one k2; clear k0 k1 k2 k3 k4 HHH2; generalize (W2.setCell ⟨D + 1 + 1 + 1, j, none⟩ (.int .u64 (L : Nat))) = W3 at *)
    all_goals gi_wp2
    all_goals exact FIN.out W3 KK.out
  case done =>
    rintro Dd W hDd ⟨h0, h1, h2, ⟨cs, h3, h3s, h3c⟩, h4, h5⟩ hK
    rw [downL_length, Nat.sub_self] at h2 h3c
    rw [Nat.pow_zero, Nat.div_one] at h2
    obtain ⟨R2, hR2⟩ : ∃ R2, X % d = R2 := ⟨_, rfl⟩
    rw [hR2] at h2
    have HR2 := Lib.hid hR2
    clear hR2
    have hrow : Row W (some ⟨D + 1 + 1 + 1, 0, none⟩) n n (D + 1 + 1 + 1) 0 (X / d) := ⟨Nat.le_refl _, fun _ => rfl, fun _ => (Array.getElem?_eq_some_iff.1 h3).1, fun k hk => by
      rw [Nat.zero_add, cell_row h3, h3c k hk]; unfold qfB; rw [if_neg (by omega)], Nat.lt_of_le_of_lt (Nat.div_le_self _ _) HX.out.fits⟩
    have TR := Lib.hid (fun (W' : World) (h : W'.heap = W.heap) => trimmed_any (some ⟨D + 1 + 1 + 1, 0, none⟩) n n (D + 1 + 1 + 1) 0 (X / d) W' ⟨hrow.cap, hrow.at_, fun p => by rw [h]; exact hrow.lt p, fun k hk => (World.cell?_of_block (a := ⟨D + 1 + 1 + 1, 0 + k, none⟩) (by rw [h])).trans (hrow.cell k hk), hrow.fits⟩ (by omega))
    have HRT := Lib.hid hrow.trim
    have c1 := cell_one h1
    have f1 := free_one h1
    have c2 := cell_one h2
    have f2 := free_one h2
    have HH := Lib.hid (And.intro h1 (And.intro h2 (And.intro h3 (And.intro h5 hK))))
    clear h0 h1 h2 h3 h3s h3c h4 h5 hK hrow h0V h1V h2V h3V h4V hwV hcs
    gi_upto_region 8 with fail
    gi_region_with (refine (callsIn_wide.2 (TR.out _ (by rfl))).mono ?_; rintro e w9 ⟨rfl, hw9⟩; subst w9)
    all_goals (obtain ⟨h1, h2, h3, h5, hK⟩ := HH.out; clear c1 f1 c2 f2; have k1 : ((W.setCell ⟨D + 1, 0, none⟩ (.slice (some ⟨D + 1 + 1 + 1, 0, none⟩) (nd (X / d)) n)).setCell ⟨D + 1 + 1, 0, none⟩ (.int .u64 (R2 : Nat))).drew.heap[D + 1]? = some (.cells #[.slice (some ⟨D + 1 + 1 + 1, 0, none⟩) (nd (X / d)) n] 78) := (set_else (by omega)).trans (set_one h1); have k2 : ((W.setCell ⟨D + 1, 0, none⟩ (.slice (some ⟨D + 1 + 1 + 1, 0, none⟩) (nd (X / d)) n)).setCell ⟨D + 1 + 1, 0, none⟩ (.int .u64 (R2 : Nat))).drew.heap[D + 1 + 1]? = some (.cells #[.int .u64 (R2 : Nat)] 106) := set_one ((set_else (by omega)).trans h2); have k3 : ((W.setCell ⟨D + 1, 0, none⟩ (.slice (some ⟨D + 1 + 1 + 1, 0, none⟩) (nd (X / d)) n)).setCell ⟨D + 1 + 1, 0, none⟩ (.int .u64 (R2 : Nat))).drew.heap[Dd]? = _ := (set_else (by omega)).trans ((set_else (by omega)).trans hK); have k4 : ((W.setCell ⟨D + 1, 0, none⟩ (.slice (some ⟨D + 1 + 1 + 1, 0, none⟩) (nd (X / d)) n)).setCell ⟨D + 1 + 1, 0, none⟩ (.int .u64 (R2 : Nat))).drew.heap[D + 1 + 1 + 1]? = some (.cells cs 106) := (set_else (by omega)).trans ((set_else (by omega)).trans h3); have k5 : Below D w ((W.setCell ⟨D + 1, 0, none⟩ (.slice (some ⟨D + 1 + 1 + 1, 0, none⟩) (nd (X / d)) n)).setCell ⟨D + 1 + 1, 0, none⟩ (.int .u64 (R2 : Nat))).drew := ((h5.setCell (p := ⟨D + 1, 0, none⟩) (by simp) _).setCell (p := ⟨D + 1 + 1, 0, none⟩) (by simp; omega) _).drew)
    all_goals (have kr : Row ((W.setCell ⟨D + 1, 0, none⟩ (.slice (some ⟨D + 1 + 1 + 1, 0, none⟩) (nd (X / d)) n)).setCell ⟨D + 1 + 1, 0, none⟩ (.int .u64 (R2 : Nat))).drew (some ⟨D + 1 + 1 + 1, 0, none⟩) (nd (X / d)) n (D + 1 + 1 + 1) 0 (X / d) := (((HRT.out.set ⟨D + 1, 0, none⟩ (fun _ => (show D + 1 + 1 + 1 ≠ D + 1 by omega)) _).set ⟨D + 1 + 1, 0, none⟩ (fun _ => (show D + 1 + 1 + 1 ≠ D + 1 + 1 by omega)) _).below ((Below.refl _ _).drew) (Nat.le_refl _)))
    all_goals (have KK := Lib.hid (And.intro k1 (And.intro k2 (And.intro k3 (And.intro k4 (And.intro k5 kr))))); clear h1 h2 h3 h5 hK k1 k2 k3 k4 k5 kr; generalize ((W.setCell ⟨D + 1, 0, none⟩ (.slice (some ⟨D + 1 + 1 + 1, 0, none⟩) (nd (X / d)) n)).setCell ⟨D + 1 + 1, 0, none⟩ (.int .u64 (R2 : Nat))).drew = A at *)
    all_goals gi_wp2
    all_goals (obtain ⟨k1, k2, k3, k4, k5, kr⟩ := KK.out; refine ⟨by simp, .inl ⟨_, _, rfl, run_takeDeferred k3, ?_⟩⟩)
    all_goals (have hst := Rg.Step.putObj (b := D) A _ (.deferred none) (by omega) k3 rfl; have y1 := cell_one (hst.same _ _ _ _ k1); have y2 := cell_one (hst.same _ _ _ _ k2))
    all_goals (exact ⟨.tuple #[.slice (some ⟨D + 1 + 1 + 1, 0, none⟩) (nd (X / d)) n, .int .u64 (R2 : Nat)], by simp [results, Tryz.results108, go_sem, y1, y2], ⟨_, by rw [HR2.out], some ⟨D + 1 + 1 + 1, 0, none⟩, n, D + 1 + 1 + 1, 0, rfl, ⟨kr.cap, kr.at_, fun h => by have := kr.lt h; have := hst.below.size; omega, fun k hk => (World.cell?_of_block (a := ⟨D + 1 + 1 + 1, 0 + k, none⟩) ((hst.same _ _ _ _ k4).trans k4.symm)).trans (kr.cell k hk), kr.fits⟩⟩, by rw [hD]; exact k5.trans hst.below⟩)
  case stop =>
    rintro Dd c pre W hDd _ h hK
    exact h.elim
end Go.Proofs.YtnchodofgaaeeaaGreatDoor
