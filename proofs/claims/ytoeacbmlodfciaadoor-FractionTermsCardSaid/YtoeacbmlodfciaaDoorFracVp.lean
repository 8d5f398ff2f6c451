/- Value over lists of terms. -/
import Derived.Test.YtoeacbmlodfciaaDoorFracVr
import Derived.Test.YtoeacbmlodfciaaDoorBk
namespace Go.Proofs.YtoeacbmlodfciaaDoor
open Go Go.RowKit Go.Shelf
attribute [local go_sem] Oper.semAt_some wide_fn wide_depth


/-- The boxes of Value: the result's, the error's, numerator's and denominator's. -/
structure VB (D : Nat) (p q a b e : Int) (W : World) : Prop where
  res : W.heap[D]? = some (.cells #[.int .i64 a, .int .i64 b] 27)
  err : W.heap[D + 1]? = some (.cells #[.int .i64 e] 29)
  num : W.heap[D + 1 + 1]? = some (.cells #[.int .i64 p] 3)
  den : W.heap[D + 1 + 1 + 1]? = some (.cells #[.int .i64 q] 3)
theorem cell_one {W : World} {b : Nat} {c : Value} {T : TypeId} (h : W.heap[b]? = some (.cells #[c] T)) : W.cell? ⟨b, 0, none⟩ = some c := by simp [World.cell?, h]
theorem free_one {W : World} {b : Nat} {c : Value} {T : TypeId} (h : W.heap[b]? = some (.cells #[c] T)) : W.frozen? ⟨b, 0, none⟩ = false := by simp [World.frozen?, h]
theorem set_one {W : World} {b : Nat} {c x : Value} {T : TypeId} (h : W.heap[b]? = some (.cells #[c] T)) : (W.setCell ⟨b, 0, none⟩ x).heap[b]? = some (.cells #[x] T) := by
  simp only [World.setCell, Array.getElem?_modify, if_true, h, Option.map_some]
  rfl
theorem set_else {W : World} {b k o : Nat} {x : Value} (h : k ≠ b) : (W.setCell ⟨b, o, none⟩ x).heap[k]? = W.heap[k]? := Below.heap_setCell _ _ _ _ (by simpa using h)
theorem heap_at {X : World} {o : Obj} {k : Nat} (hk : k = X.heap.size) : (X.alloc o).heap[k]? = some o := by subst hk; exact World.alloc_heap_new X o
theorem heap_up {X : World} {o o' : Obj} {k : Nat} (h : X.heap[k]? = some o') : (X.alloc o).heap[k]? = some o' := (Below.heap_alloc _ _ _ (heap_lt h)).trans h
theorem VB.step {D : Nat} {p q a b e : Int} {A B : World} (h : VB D p q a b e A) (hs : ∀ (k : Nat) (c : Array Value) (u : TypeId) (f : Nat × Nat), A.heap[k]? = some (.cells c u f) → B.heap[k]? = some (.cells c u f)) : VB D p q a b e B :=
  ⟨hs _ _ _ _ h.res, hs _ _ _ _ h.err, hs _ _ _ _ h.num, hs _ _ _ _ h.den⟩
theorem VB.call {D : Nat} {p q a b e : Int} {A B : World} (h : VB D p q a b e A) (hb : Below A.heap.size A B) : VB D p q a b e B :=
  h.step fun k _ _ _ hk => (hb.block k (heap_lt hk)).trans hk
theorem VB.setp {D : Nat} {p q a b e : Int} {W : World} (h : VB D p q a b e W) (x : Int) : VB D x q a b e (W.setCell ⟨D + 1 + 1, 0, none⟩ (.int .i64 x)) :=
  ⟨(set_else (by omega)).trans h.res, (set_else (by omega)).trans h.err, set_one h.num, (set_else (by omega)).trans h.den⟩
theorem VB.setq {D : Nat} {p q a b e : Int} {W : World} (h : VB D p q a b e W) (x : Int) : VB D p x a b e (W.setCell ⟨D + 1 + 1 + 1, 0, none⟩ (.int .i64 x)) :=
  ⟨(set_else (by omega)).trans h.res, (set_else (by omega)).trans h.err, (set_else (by omega)).trans h.num, set_one h.den⟩
theorem VB.sete {D : Nat} {p q a b e : Int} {W : World} (h : VB D p q a b e W) (x : Int) : VB D p q a b x (W.setCell ⟨D + 1, 0, none⟩ (.int .i64 x)) :=
  ⟨(set_else (by omega)).trans h.res, set_one h.err, (set_else (by omega)).trans h.num, (set_else (by omega)).trans h.den⟩
theorem VB.setr {D : Nat} {p q a b e : Int} {W : World} (h : VB D p q a b e W) (x y : Int) : VB D p q x y e ((W.setCell ⟨D, 0, none⟩ (.int .i64 x)).setCell ⟨D, 1, none⟩ (.int .i64 y)) :=
  ⟨set_two h.res, (set_two_other (by omega)).trans h.err, (set_two_other (by omega)).trans h.num, (set_two_other (by omega)).trans h.den⟩
theorem VB.putObj {D : Nat} {p q a b e : Int} {W : World} (h : VB D p q a b e W) {K : Nat} (o : Obj) (hK : D + 4 ≤ K) : VB D p q a b e (W.putObj K o) :=
  ⟨(World.putObj_heap_other (by omega)).trans h.res, (World.putObj_heap_other (by omega)).trans h.err, (World.putObj_heap_other (by omega)).trans h.num, (World.putObj_heap_other (by omega)).trans h.den⟩

set_option maxRecDepth 100000 in
set_option maxHeartbeats 4000000 in
theorem value_main (B off n cap : Nat) (X : Nat → Int) (w : World) (h0 : 0 < n) (hn : n ≤ 40) (hcap : cap ≠ 1) (hB : B < w.heap.size) (hx : ∀ k, k < n → w.cell? ⟨B, off + k, none⟩ = some (.int .i64 (X k))) (hf : ∀ i, 1 ≤ i → i < n → 1 ≤ X i) (r1 r2 r3 : Int) (hr : FracMath.cfV X n = (r1, r2, r3)) :
    Calls Tryd.prog 24 #[.slice (some ⟨B, off, none⟩) n cap] w fun e w' => e = .returned (.tuple #[.agg #[.int .i64 r1, .int .i64 r2], .int .i64 r3]) ∧ Below w.heap.size w w' := by
  have hz : ((n : Int) == 0) = false := by rw [beq_eq_false_iff_ne]; omega
  have hl : ¬ (40 : Int) < (n : Int) := by omega
  have hne : w.heap.size ≠ B := by omega
  have h1n : (1 : Int) ≤ (n : Int) := by omega
  have hc1 : ((cap : Int) == 1) = false := by rw [beq_eq_false_iff_ne]; omega
  have hcn : ¬ cap = 1 := hcap
  have HX := Lib.hid hx
  have HF := Lib.hid hf
  have HR := Lib.hid hr
  clear hx hf hr hcap
  refine (callsIn_wide (n := 5)).1 ?_
  refine callsIn_of_wp_marks Tryd.func24 rfl trivial ?_ rfl
  simp only [Tryd.ntmps24, List.size_toArray, List.length_cons, List.length_nil, Nat.reduceAdd, Nat.reduceSub, Array.replicate_succ, Array.replicate_zero, List.push_toArray, List.append_toArray, List.nil_append, List.cons_append]
  gi_wp2_with fail
  gi_loop [23] (fun i => ∃ k : Nat, k + 1 ≤ n ∧ i = .int .i64 (k : Int)) (fun i => n - (intOf i).toNat)
  case atStart => exact ⟨0, h0, rfl⟩
  case round =>
    obtain ⟨k, hk, rfl⟩ := hrel
    by_cases e : k + 1 < n
    · have hc := HX.out (k + 1) e
      have hc2 : ((w.alloc (.cells #[.int .i64 0, .int .i64 0] 27)).alloc (.cells #[.int .i64 0] 29)).cell? ⟨B, off + 1 + k, none⟩ = some (.int .i64 (X (k + 1))) := by
        rw [show off + 1 + k = off + (k + 1) by omega]
        exact ((((Below.refl _ w).alloc (Nat.le_refl _) _).alloc (by simp) _).cell (p := ⟨B, off + (k + 1), none⟩) hB).trans hc
      have hkn : (k : Int) < (n : Int) - 1 := by omega
      have hkn2 : k < n - 1 := by omega
      have hx := HF.out (k + 1) (by omega) e
      generalize X (k + 1) = x at *
      gi_wp2
      go_round
      case rel => exact ⟨k + 1, by omega, by go_num⟩
      case measure => simp [intOf]; omega
    · obtain rfl : k + 1 = n := by omega
      gi_wp2_with fail
      refine (callsIn_wide.2 (backward_any _ _ _ _)).mono ?_
      rintro e w' ⟨rfl, rfl⟩
      gi_wp2_with fail
      have HXB := Lib.hid (fun (V : World) (hV : Below w.heap.size w V) j (hj : j < k + 1) => (hV.cell (p := ⟨B, off + j, none⟩) hB).trans (HX.out j hj))
      clear HX e
      obtain ⟨V, hV⟩ : ∃ V, (((((w.alloc (.cells #[.int .i64 0, .int .i64 0] 27)).alloc (.cells #[.int .i64 0] 29)).alloc (.cells #[.int .i64 1] 3)).alloc (.cells #[.int .i64 0] 3)).alloc (.cells #[.slice (some ⟨B, off, none⟩) (k + 1) cap] 42)) = V := ⟨_, rfl⟩
      have hwV : Below w.heap.size w V := by
        rw [← hV]
        exact (((((Below.refl _ _).alloc (Nat.le_refl _) _).alloc (by simp) _).alloc (by simp; omega) _).alloc (by simp; omega) _).alloc (by simp; omega) _
      have hvb : VB w.heap.size 1 0 0 0 0 V := by
        rw [← hV]
        exact ⟨heap_up (heap_up (heap_up (heap_up (heap_at rfl)))), heap_up (heap_up (heap_up (heap_at (by simp)))), heap_up (heap_up (heap_at (by simp))), heap_up (heap_at (by simp))⟩
      have hbk : V.heap[w.heap.size + 1 + 1 + 1 + 1]? = some (.cells #[.slice (some ⟨B, off, none⟩) (k + 1) cap] 42) := by rw [← hV]; exact heap_at (by simp)
      have hzV : V.heap.size = w.heap.size + 5 := by rw [← hV]; simp
      rw [hV]
      clear hV
      refine Rg.range_all rfl (by omega) (gf := 58) (lb := #[.pointer (some ⟨w.heap.size + 1 + 1 + 1 + 1, 0, none⟩)]) rfl trivial (enters_of Tryd.func58 (by kernel_rfl) rfl)
        (backward_gives (w.heap.size + 1 + 1 + 1 + 1) (some ⟨B, off, none⟩) B off (k + 1) cap X (by omega) 4 V) (fun _ => rfl)
        (fun j => w.heap.size ≤ j ∧ j ≤ w.heap.size + 3) (by omega) (by omega)
        (fun pre W => VB w.heap.size (FracMath.cfs X (k + 1) pre.length).1 (FracMath.cfs X (k + 1) pre.length).2 0 0 0 W ∧ W.heap[w.heap.size + 1 + 1 + 1 + 1]? = some (.cells #[.slice (some ⟨B, off, none⟩) (k + 1) cap] 42) ∧ Below w.heap.size w W ∧ (∀ j, j < pre.length → FracMath.okP (FracMath.cfs X (k + 1) j).1 (X (k + 1 - 1 - j)) = true) ∧ (0 < pre.length → -2000001000000 ≤ (FracMath.cfs X (k + 1) pre.length).1 ∧ (FracMath.cfs X (k + 1) pre.length).1 ≤ 2000001000000 ∧ 1 ≤ (FracMath.cfs X (k + 1) pre.length).2 ∧ (FracMath.cfs X (k + 1) pre.length).2 ≤ 1000000))
        (fun c pre W => c = .ret ∧ (∃ p q, VB w.heap.size p q 0 0 4 W) ∧ Below w.heap.size w W ∧ (r1, r2, r3) = ((0 : Int), (0 : Int), (4 : Int)))
        (fun s A B' ⟨h1, h2, h3, h4, h5⟩ st => ⟨h1.step st.same, st.same _ _ _ _ h2, h3.trans (st.below.mono (by omega)), h4, h5⟩)
        (fun c s A B' ⟨h1, ⟨p, q, h2⟩, h3, h4⟩ st => ⟨h1, ⟨p, q, h2.step st.same⟩, h3.trans (st.below.mono (by omega)), h4⟩)
        (fun s A ⟨h1, h2, h3, h4, h5⟩ => ⟨cell_one h2, fun _ => rfl, fun j hj => HXB.out A h3 j hj⟩)
        ⟨hvb, hbk, hwV, fun j hj => absurd hj (Nat.not_lt_zero _), fun h => absurd h (by decide)⟩
        (fun x => { tmps := #[.slice (some ⟨B, off, none⟩) (k + 1) cap, undef, .pointer (some ⟨w.heap.size, 0, none⟩), .pointer (some ⟨w.heap.size + 1, 0, none⟩), undef, u5, .pointer (some ⟨w.heap.size + 1 + 1, 0, none⟩), .pointer (some ⟨w.heap.size + 1 + 1 + 1, 0, none⟩), undef, .int .i64 x.2, .bool false, .slice (some ⟨B, off, none⟩) (k + 1) cap, .int .i64 ((k : Nat) + 1), .bool false, undef, .bool false, .slice (some ⟨B, off, none⟩) (k + 1) cap, .int .i64 ((k : Nat) + 1), .bool false, undef, .slice (some ⟨B, off, none⟩) (k + 1) cap, .slice (some ⟨B, off + 1, none⟩) k (cap - 1), .int .i64 (k : Nat), .int .i64 (k : Nat), .bool false, u25, u26, u27, u28, u29, u30, .slice (some ⟨B, off, none⟩) (k + 1) cap, .func (.func 58) #[] #[.pointer (some ⟨w.heap.size + 1 + 1 + 1 + 1, 0, none⟩)], .int .i64 (x.1 : Nat), .int .i64 x.2, undef, undef, undef, undef, undef, undef, undef, undef, undef, undef, undef, undef, undef, undef, undef, undef, undef, undef, undef, undef, undef, undef], defers := [] }) ?assign ?body ?done ?stop
      case assign =>
        intro l x W K hK
        gi_wp2
        exact hK
      case body =>
        rintro l pre x W ⟨hvb, hbk, hw, ha, hb⟩ hpost -
        obtain ⟨hlt, -, hx⟩ := downL_at X (k + 1) hpost
        obtain ⟨r, hr⟩ : ∃ r, pre.length = r := ⟨_, rfl⟩
        rw [hr] at hvb ha hb hlt hx
        have HPR := Lib.hid hr
        have HA := Lib.hid ha
        have HBK := Lib.hid hbk
        clear ha hb hbk hr hpost
        subst hx
        obtain ⟨p1, p2, p3⟩ := FracMath.cf_pos HF.out hlt
        have HS := Lib.hid (FracMath.cfs_succ X (k + 1) r)
        have hstop : FracMath.okP (FracMath.cfs X (k + 1) r).1 (X (k + 1 - 1 - r)) = false → FracMath.cfV X (k + 1) = (0, 0, 4) := fun h => FracMath.cf_stopP hlt h
        have HST := Lib.hid hstop
        clear hstop
        obtain ⟨p, hp⟩ : ∃ p, (FracMath.cfs X (k + 1) r).1 = p := ⟨_, rfl⟩
        obtain ⟨q, hq⟩ : ∃ q, (FracMath.cfs X (k + 1) r).2 = q := ⟨_, rfl⟩
        obtain ⟨t, ht⟩ : ∃ t, X (k + 1 - 1 - r) = t := ⟨_, rfl⟩
        rw [hp, hq, ht] at HS
        rw [hp, ht] at HST
        rw [hp, hq] at hvb p3
        rw [hp] at p1
        rw [hq] at p2
        rw [ht]
        have HP := Lib.hid hp
        have HT := Lib.hid ht
        clear hp hq ht
        have HVB := Lib.hid hvb
        have c2 := cell_one hvb.num
        have c3 := cell_one hvb.den
        have f0 := cells_f0 hvb.res
        have f01 := cells_f1 hvb.res
        have f1 := free_one hvb.err
        have f2 := free_one hvb.num
        have f3 := free_one hvb.den
        have g0 := cells_fst hvb.res
        have g1 := cells_snd hvb.res
        have e0 := cell_one hvb.err
        clear hvb
        have fin : ∀ h : FracMath.okP p t = false, (r1, r2, r3) = ((0 : Int), (0 : Int), (4 : Int)) := fun h => by rw [← HR.out]; exact HST.out h
        have FIN := Lib.hid fin
        clear fin
        by_cases hok : p ≤ 1000000 ∧ t ≤ 1000000 ∧ -1000001 ≤ t
        · obtain ⟨o1, o2, o3⟩ := hok
          have k1 : decide ((1000000 : Int) < p) = false := by simp; omega
          have k2 : decide ((1000000 : Int) < t) = false := by simp; omega
          have k3 : decide (t < (-1000001 : Int)) = false := by simp; omega
          obtain ⟨m1, m2⟩ := FracMath.mul_bound (t := t) (p := p) (A := 2000000) (B := 1000000) (by omega) (by omega) (by omega) (by omega) (by omega)
          have HOK := Lib.hid (show FracMath.okP p t = true by unfold FracMath.okP; simp; omega)
          gi_wp2
          refine ⟨((Rg.Round.refl _ _).set (by simp; omega) _).set (by simp; omega) _, ?_, ?_, (hw.setCell (by simp; omega) _).setCell (by simp; omega) _, ?_, ?_⟩
          · rw [List.length_append, List.length_singleton, HPR.out, HS.out]
            exact (HVB.out.setp _).setq _
          · exact ((set_else (by omega)).trans (set_else (by omega))).trans HBK.out
          · rw [List.length_append, List.length_singleton, HPR.out]
            intro j hj
            by_cases e : j = r
            · subst e; rw [HP.out, HT.out]; exact HOK.out
            · exact HA.out j (by omega)
          · rw [List.length_append, List.length_singleton, HPR.out, HS.out]
            intro _
            simp only
            omega
        · have hfin := FIN.out (by unfold FracMath.okP; simpa using hok)
          have HFIN := Lib.hid hfin
          clear hfin
          have ret : ∀ W' : World, W' = ((W.setCell ⟨w.heap.size, 0, none⟩ (.int .i64 0)).setCell ⟨w.heap.size, 1, none⟩ (.int .i64 0)).setCell ⟨w.heap.size + 1, 0, none⟩ (.int .i64 4) →
              Rg.Round (fun j => w.heap.size ≤ j ∧ j ≤ w.heap.size + 3) W W' ∧ (∃ p q, VB w.heap.size p q 0 0 4 W') ∧ Below w.heap.size w W' ∧ (r1, r2, r3) = ((0 : Int), (0 : Int), (4 : Int)) := fun W' e => by
            subst e
            exact ⟨(((Rg.Round.refl _ _).set (by simp) _).set (by simp) _).set (by simp) _, ⟨_, _, (HVB.out.setr 0 0).sete 4⟩, ((hw.setCell (by simp) _).setCell (by simp) _).setCell (by simp) _, HFIN.out⟩
          have RET := Lib.hid ret
          clear ret
          by_cases k1 : (1000000 : Int) < p
          · have k1' : decide ((1000000 : Int) < p) = true := by simpa using k1
            clear hok
            gi_wp2
            obtain ⟨x1, x2, x3, x4⟩ := RET.out _ rfl; exact ⟨x1, rfl, x2, x3, by first | exact x4 | simpa using x4⟩
          · have k1' : decide ((1000000 : Int) < p) = false := by simpa using k1
            by_cases k2 : (1000000 : Int) < t
            · have k2' : decide ((1000000 : Int) < t) = true := by simpa using k2
              clear hok
              gi_wp2
              obtain ⟨x1, x2, x3, x4⟩ := RET.out _ rfl; exact ⟨x1, rfl, x2, x3, by first | exact x4 | simpa using x4⟩
            · have k2' : decide ((1000000 : Int) < t) = false := by simpa using k2
              have k3' : decide (t < (-1000001 : Int)) = true := by simp; omega
              clear hok
              gi_wp2
              obtain ⟨x1, x2, x3, x4⟩ := RET.out _ rfl; exact ⟨x1, rfl, x2, x3, by first | exact x4 | simpa using x4⟩
      case done =>
        rintro Dd W hD ⟨hvb, hbk, hw, ha, hb⟩ hK
        rw [downL_length] at hvb ha hb
        obtain ⟨b1, b2, b3, b4⟩ := hb (by omega)
        have hfin := (FracMath.cf_doneP ha).symm.trans HR.out
        obtain ⟨p, hp⟩ : ∃ p, (FracMath.cfs X (k + 1) (k + 1)).1 = p := ⟨_, rfl⟩
        obtain ⟨q, hq⟩ : ∃ q, (FracMath.cfs X (k + 1) (k + 1)).2 = q := ⟨_, rfl⟩
        rw [hp] at b1 b2 hfin hvb
        rw [hq] at b3 b4 hfin hvb
        have mk := fun W => lowest_any p q W (by omega) (by omega) (by omega) (by omega) (by omega)
        rw [hfin] at mk
        have MK := Lib.hid mk
        clear hp hq mk hfin ha hb
        have HVB := Lib.hid hvb
        have c2 := cell_one hvb.num
        have c3 := cell_one hvb.den
        have HK := Lib.hid hK
        clear hvb hbk hK
        gi_wp2_with fail
        refine (callsIn_wide.2 (MK.out _)).mono ?_
        rintro e w4 ⟨rfl, hb4⟩
        have hvb := HVB.out.call hb4
        have hK4 := (hb4.block Dd (heap_lt HK.out)).trans HK.out
        have hw4 := hw.trans (hb4.mono hw.size)
        have f0 := cells_f0 hvb.res
        have f01 := cells_f1 hvb.res
        have f1 := free_one hvb.err
        have g0 := cells_fst hvb.res
        have g1 := cells_snd hvb.res
        have e0 := cell_one hvb.err
        have HV4 := Lib.hid hvb
        have HK4 := Lib.hid hK4
        clear hvb hK4
        gi_wp2
        have hK5 : (((w4.setCell ⟨w.heap.size, 0, none⟩ (.int .i64 r1)).setCell ⟨w.heap.size, 1, none⟩ (.int .i64 r2)).setCell ⟨w.heap.size + 1, 0, none⟩ (.int .i64 r3)).heap[Dd]? = some (.deferred (some [])) :=
          (set_else (by omega)).trans ((set_else (by omega)).trans ((set_else (by omega)).trans HK4.out))
        refine ⟨by simp, .inl ⟨_, _, rfl, run_takeDeferred hK5, ?_⟩⟩
        have hv5 := ((HV4.out.setr r1 r2).sete r3).putObj (K := Dd) (.deferred none) (by omega)
        have y0 := cells_fst hv5.res
        have y1 := cells_snd hv5.res
        have y2 := cell_one hv5.err
        exact ⟨.tuple #[.agg #[.int .i64 r1, .int .i64 r2], .int .i64 r3], by simp [results, Tryd.results24, go_sem, y0, y1, y2], rfl, (((hw4.setCell (by simp) _).setCell (by simp) _).setCell (by simp) _).trans (Rg.below_putObj _ _ _ (by omega))⟩
      case stop =>
        rintro Dd c pre W hD - ⟨rfl, ⟨p, q, hvb⟩, hw, hr⟩ hK
        cases hr
        gi_wp2
        refine ⟨by simp, .inl ⟨_, _, rfl, run_takeDeferred hK, ?_⟩⟩
        have hv5 := hvb.putObj (K := Dd) (.deferred none) (by omega)
        have y0 := cells_fst hv5.res
        have y1 := cells_snd hv5.res
        have y2 := cell_one hv5.err
        exact ⟨.tuple #[.agg #[.int .i64 0, .int .i64 0], .int .i64 4], by simp [results, Tryd.results24, go_sem, y0, y1, y2], rfl, hw.trans (Rg.below_putObj _ _ _ (by omega))⟩
set_option maxRecDepth 100000 in
set_option maxHeartbeats 4000000 in
theorem value_one (B off : Nat) (X : Nat → Int) (w : World) (hB : B < w.heap.size) (hx : ∀ k, k < 1 → w.cell? ⟨B, off + k, none⟩ = some (.int .i64 (X k))) (r1 r2 r3 : Int) (hr : FracMath.cfV X 1 = (r1, r2, r3)) :
    Calls Tryd.prog 24 #[.slice (some ⟨B, off, none⟩) 1 1] w fun e w' => e = .returned (.tuple #[.agg #[.int .i64 r1, .int .i64 r2], .int .i64 r3]) ∧ Below w.heap.size w w' := by
  have hne : w.heap.size ≠ B := by omega
  have HX := Lib.hid hx
  have HF := Lib.hid (show ∀ i, 1 ≤ i → i < 1 → 1 ≤ X i from fun i h1 h2 => by omega)
  have HR := Lib.hid hr
  clear hx hr
  refine (callsIn_wide (n := 5)).1 ?_
  refine callsIn_of_wp_marks Tryd.func24 rfl trivial ?_ rfl
  simp only [Tryd.ntmps24, List.size_toArray, List.length_cons, List.length_nil, Nat.reduceAdd, Nat.reduceSub, Array.replicate_succ, Array.replicate_zero, List.push_toArray, List.append_toArray, List.nil_append, List.cons_append]
  gi_wp2_with fail
  gi_loop [23] (fun i => i = .int .i64 0) (fun _ => 0)
  case atStart => rfl
  case round =>
    cases hrel
    · skip
      gi_wp2_with fail
      refine (callsIn_wide.2 (backward_any _ _ _ _)).mono ?_
      rintro e w' ⟨rfl, rfl⟩
      gi_wp2_with fail
      have HXB := Lib.hid (fun (V : World) (hV : Below w.heap.size w V) j (hj : j < 1) => (hV.cell (p := ⟨B, off + j, none⟩) hB).trans (HX.out j hj))
      clear HX
      obtain ⟨V, hV⟩ : ∃ V, (((((w.alloc (.cells #[.int .i64 0, .int .i64 0] 27)).alloc (.cells #[.int .i64 0] 29)).alloc (.cells #[.int .i64 1] 3)).alloc (.cells #[.int .i64 0] 3)).alloc (.cells #[.slice (some ⟨B, off, none⟩) 1 1] 42)) = V := ⟨_, rfl⟩
      have hwV : Below w.heap.size w V := by
        rw [← hV]
        exact (((((Below.refl _ _).alloc (Nat.le_refl _) _).alloc (by simp) _).alloc (by simp; omega) _).alloc (by simp; omega) _).alloc (by simp; omega) _
      have hvb : VB w.heap.size 1 0 0 0 0 V := by
        rw [← hV]
        exact ⟨heap_up (heap_up (heap_up (heap_up (heap_at rfl)))), heap_up (heap_up (heap_up (heap_at (by simp)))), heap_up (heap_up (heap_at (by simp))), heap_up (heap_at (by simp))⟩
      have hbk : V.heap[w.heap.size + 1 + 1 + 1 + 1]? = some (.cells #[.slice (some ⟨B, off, none⟩) 1 1] 42) := by rw [← hV]; exact heap_at (by simp)
      have hzV : V.heap.size = w.heap.size + 5 := by rw [← hV]; simp
      rw [hV]
      clear hV
      refine Rg.range_all rfl (by omega) (gf := 58) (lb := #[.pointer (some ⟨w.heap.size + 1 + 1 + 1 + 1, 0, none⟩)]) rfl trivial (enters_of Tryd.func58 (by kernel_rfl) rfl)
        (backward_gives (w.heap.size + 1 + 1 + 1 + 1) (some ⟨B, off, none⟩) B off 1 1 X (by omega) 4 V) (fun _ => rfl)
        (fun j => w.heap.size ≤ j ∧ j ≤ w.heap.size + 3) (by omega) (by omega)
        (fun pre W => VB w.heap.size (FracMath.cfs X (1) pre.length).1 (FracMath.cfs X (1) pre.length).2 0 0 0 W ∧ W.heap[w.heap.size + 1 + 1 + 1 + 1]? = some (.cells #[.slice (some ⟨B, off, none⟩) 1 1] 42) ∧ Below w.heap.size w W ∧ (∀ j, j < pre.length → FracMath.okP (FracMath.cfs X (1) j).1 (X (1 - 1 - j)) = true) ∧ (0 < pre.length → -2000001000000 ≤ (FracMath.cfs X (1) pre.length).1 ∧ (FracMath.cfs X (1) pre.length).1 ≤ 2000001000000 ∧ 1 ≤ (FracMath.cfs X (1) pre.length).2 ∧ (FracMath.cfs X (1) pre.length).2 ≤ 1000000))
        (fun c pre W => c = .ret ∧ (∃ p q, VB w.heap.size p q 0 0 4 W) ∧ Below w.heap.size w W ∧ (r1, r2, r3) = ((0 : Int), (0 : Int), (4 : Int)))
        (fun s A B' ⟨h1, h2, h3, h4, h5⟩ st => ⟨h1.step st.same, st.same _ _ _ _ h2, h3.trans (st.below.mono (by omega)), h4, h5⟩)
        (fun c s A B' ⟨h1, ⟨p, q, h2⟩, h3, h4⟩ st => ⟨h1, ⟨p, q, h2.step st.same⟩, h3.trans (st.below.mono (by omega)), h4⟩)
        (fun s A ⟨h1, h2, h3, h4, h5⟩ => ⟨cell_one h2, fun _ => rfl, fun j hj => HXB.out A h3 j hj⟩)
        ⟨hvb, hbk, hwV, fun j hj => absurd hj (Nat.not_lt_zero _), fun h => absurd h (by decide)⟩
        (fun x => { tmps := #[.slice (some ⟨B, off, none⟩) 1 1, undef, .pointer (some ⟨w.heap.size, 0, none⟩), .pointer (some ⟨w.heap.size + 1, 0, none⟩), undef, u5, .pointer (some ⟨w.heap.size + 1 + 1, 0, none⟩), .pointer (some ⟨w.heap.size + 1 + 1 + 1, 0, none⟩), undef, .int .i64 x.2, .bool false, .slice (some ⟨B, off, none⟩) 1 1, .int .i64 1, .bool false, undef, .bool false, .slice (some ⟨B, off, none⟩) 1 1, .int .i64 1, .bool false, undef, .slice (some ⟨B, off, none⟩) 1 1, .slice (some ⟨B, off, none⟩) 0 0, .int .i64 0, .int .i64 0, .bool false, u25, u26, u27, u28, u29, u30, .slice (some ⟨B, off, none⟩) 1 1, .func (.func 58) #[] #[.pointer (some ⟨w.heap.size + 1 + 1 + 1 + 1, 0, none⟩)], .int .i64 (x.1 : Nat), .int .i64 x.2, undef, undef, undef, undef, undef, undef, undef, undef, undef, undef, undef, undef, undef, undef, undef, undef, undef, undef, undef, undef, undef, undef], defers := [] }) ?assign ?body ?done ?stop
      case assign =>
        intro l x W K hK
        gi_wp2
        exact hK
      case body =>
        rintro l pre x W ⟨hvb, hbk, hw, ha, hb⟩ hpost -
        obtain ⟨hlt, -, hx⟩ := downL_at X (1) hpost
        obtain ⟨r, hr⟩ : ∃ r, pre.length = r := ⟨_, rfl⟩
        rw [hr] at hvb ha hb hlt hx
        have HPR := Lib.hid hr
        have HA := Lib.hid ha
        have HBK := Lib.hid hbk
        clear ha hb hbk hr hpost
        subst hx
        obtain ⟨p1, p2, p3⟩ := FracMath.cf_pos HF.out hlt
        have HS := Lib.hid (FracMath.cfs_succ X (1) r)
        have hstop : FracMath.okP (FracMath.cfs X (1) r).1 (X (1 - 1 - r)) = false → FracMath.cfV X (1) = (0, 0, 4) := fun h => FracMath.cf_stopP hlt h
        have HST := Lib.hid hstop
        clear hstop
        obtain ⟨p, hp⟩ : ∃ p, (FracMath.cfs X (1) r).1 = p := ⟨_, rfl⟩
        obtain ⟨q, hq⟩ : ∃ q, (FracMath.cfs X (1) r).2 = q := ⟨_, rfl⟩
        obtain ⟨t, ht⟩ : ∃ t, X (1 - 1 - r) = t := ⟨_, rfl⟩
        rw [hp, hq, ht] at HS
        rw [hp, ht] at HST
        rw [hp, hq] at hvb p3
        rw [hp] at p1
        rw [hq] at p2
        rw [ht]
        have HP := Lib.hid hp
        have HT := Lib.hid ht
        clear hp hq ht
        have HVB := Lib.hid hvb
        have c2 := cell_one hvb.num
        have c3 := cell_one hvb.den
        have f0 := cells_f0 hvb.res
        have f01 := cells_f1 hvb.res
        have f1 := free_one hvb.err
        have f2 := free_one hvb.num
        have f3 := free_one hvb.den
        have g0 := cells_fst hvb.res
        have g1 := cells_snd hvb.res
        have e0 := cell_one hvb.err
        clear hvb
        have fin : ∀ h : FracMath.okP p t = false, (r1, r2, r3) = ((0 : Int), (0 : Int), (4 : Int)) := fun h => by rw [← HR.out]; exact HST.out h
        have FIN := Lib.hid fin
        clear fin
        by_cases hok : p ≤ 1000000 ∧ t ≤ 1000000 ∧ -1000001 ≤ t
        · obtain ⟨o1, o2, o3⟩ := hok
          have k1 : decide ((1000000 : Int) < p) = false := by simp; omega
          have k2 : decide ((1000000 : Int) < t) = false := by simp; omega
          have k3 : decide (t < (-1000001 : Int)) = false := by simp; omega
          obtain ⟨m1, m2⟩ := FracMath.mul_bound (t := t) (p := p) (A := 2000000) (B := 1000000) (by omega) (by omega) (by omega) (by omega) (by omega)
          have HOK := Lib.hid (show FracMath.okP p t = true by unfold FracMath.okP; simp; omega)
          gi_wp2
          refine ⟨((Rg.Round.refl _ _).set (by simp; omega) _).set (by simp; omega) _, ?_, ?_, (hw.setCell (by simp; omega) _).setCell (by simp; omega) _, ?_, ?_⟩
          · rw [List.length_append, List.length_singleton, HPR.out, HS.out]
            exact (HVB.out.setp _).setq _
          · exact ((set_else (by omega)).trans (set_else (by omega))).trans HBK.out
          · rw [List.length_append, List.length_singleton, HPR.out]
            intro j hj
            by_cases e : j = r
            · subst e; rw [HP.out, HT.out]; exact HOK.out
            · exact HA.out j (by omega)
          · rw [List.length_append, List.length_singleton, HPR.out, HS.out]
            intro _
            simp only
            omega
        · have hfin := FIN.out (by unfold FracMath.okP; simpa using hok)
          have HFIN := Lib.hid hfin
          clear hfin
          have ret : ∀ W' : World, W' = ((W.setCell ⟨w.heap.size, 0, none⟩ (.int .i64 0)).setCell ⟨w.heap.size, 1, none⟩ (.int .i64 0)).setCell ⟨w.heap.size + 1, 0, none⟩ (.int .i64 4) →
              Rg.Round (fun j => w.heap.size ≤ j ∧ j ≤ w.heap.size + 3) W W' ∧ (∃ p q, VB w.heap.size p q 0 0 4 W') ∧ Below w.heap.size w W' ∧ (r1, r2, r3) = ((0 : Int), (0 : Int), (4 : Int)) := fun W' e => by
            subst e
            exact ⟨(((Rg.Round.refl _ _).set (by simp) _).set (by simp) _).set (by simp) _, ⟨_, _, (HVB.out.setr 0 0).sete 4⟩, ((hw.setCell (by simp) _).setCell (by simp) _).setCell (by simp) _, HFIN.out⟩
          have RET := Lib.hid ret
          clear ret
          by_cases k1 : (1000000 : Int) < p
          · have k1' : decide ((1000000 : Int) < p) = true := by simpa using k1
            clear hok
            gi_wp2
            obtain ⟨x1, x2, x3, x4⟩ := RET.out _ rfl; exact ⟨x1, rfl, x2, x3, by first | exact x4 | simpa using x4⟩
          · have k1' : decide ((1000000 : Int) < p) = false := by simpa using k1
            by_cases k2 : (1000000 : Int) < t
            · have k2' : decide ((1000000 : Int) < t) = true := by simpa using k2
              clear hok
              gi_wp2
              obtain ⟨x1, x2, x3, x4⟩ := RET.out _ rfl; exact ⟨x1, rfl, x2, x3, by first | exact x4 | simpa using x4⟩
            · have k2' : decide ((1000000 : Int) < t) = false := by simpa using k2
              have k3' : decide (t < (-1000001 : Int)) = true := by simp; omega
              clear hok
              gi_wp2
              obtain ⟨x1, x2, x3, x4⟩ := RET.out _ rfl; exact ⟨x1, rfl, x2, x3, by first | exact x4 | simpa using x4⟩
      case done =>
        rintro Dd W hD ⟨hvb, hbk, hw, ha, hb⟩ hK
        rw [downL_length] at hvb ha hb
        obtain ⟨b1, b2, b3, b4⟩ := hb (by omega)
        have hfin := (FracMath.cf_doneP ha).symm.trans HR.out
        obtain ⟨p, hp⟩ : ∃ p, (FracMath.cfs X (1) (1)).1 = p := ⟨_, rfl⟩
        obtain ⟨q, hq⟩ : ∃ q, (FracMath.cfs X (1) (1)).2 = q := ⟨_, rfl⟩
        rw [hp] at b1 b2 hfin hvb
        rw [hq] at b3 b4 hfin hvb
        have mk := fun W => lowest_any p q W (by omega) (by omega) (by omega) (by omega) (by omega)
        rw [hfin] at mk
        have MK := Lib.hid mk
        clear hp hq mk hfin ha hb
        have HVB := Lib.hid hvb
        have c2 := cell_one hvb.num
        have c3 := cell_one hvb.den
        have HK := Lib.hid hK
        clear hvb hbk hK
        gi_wp2_with fail
        refine (callsIn_wide.2 (MK.out _)).mono ?_
        rintro e w4 ⟨rfl, hb4⟩
        have hvb := HVB.out.call hb4
        have hK4 := (hb4.block Dd (heap_lt HK.out)).trans HK.out
        have hw4 := hw.trans (hb4.mono hw.size)
        have f0 := cells_f0 hvb.res
        have f01 := cells_f1 hvb.res
        have f1 := free_one hvb.err
        have g0 := cells_fst hvb.res
        have g1 := cells_snd hvb.res
        have e0 := cell_one hvb.err
        have HV4 := Lib.hid hvb
        have HK4 := Lib.hid hK4
        clear hvb hK4
        gi_wp2
        have hK5 : (((w4.setCell ⟨w.heap.size, 0, none⟩ (.int .i64 r1)).setCell ⟨w.heap.size, 1, none⟩ (.int .i64 r2)).setCell ⟨w.heap.size + 1, 0, none⟩ (.int .i64 r3)).heap[Dd]? = some (.deferred (some [])) :=
          (set_else (by omega)).trans ((set_else (by omega)).trans ((set_else (by omega)).trans HK4.out))
        refine ⟨by simp, .inl ⟨_, _, rfl, run_takeDeferred hK5, ?_⟩⟩
        have hv5 := ((HV4.out.setr r1 r2).sete r3).putObj (K := Dd) (.deferred none) (by omega)
        have y0 := cells_fst hv5.res
        have y1 := cells_snd hv5.res
        have y2 := cell_one hv5.err
        exact ⟨.tuple #[.agg #[.int .i64 r1, .int .i64 r2], .int .i64 r3], by simp [results, Tryd.results24, go_sem, y0, y1, y2], rfl, (((hw4.setCell (by simp) _).setCell (by simp) _).setCell (by simp) _).trans (Rg.below_putObj _ _ _ (by omega))⟩
      case stop =>
        rintro Dd c pre W hD - ⟨rfl, ⟨p, q, hvb⟩, hw, hr⟩ hK
        cases hr
        gi_wp2
        refine ⟨by simp, .inl ⟨_, _, rfl, run_takeDeferred hK, ?_⟩⟩
        have hv5 := hvb.putObj (K := Dd) (.deferred none) (by omega)
        have y0 := cells_fst hv5.res
        have y1 := cells_snd hv5.res
        have y2 := cell_one hv5.err
        exact ⟨.tuple #[.agg #[.int .i64 0, .int .i64 0], .int .i64 4], by simp [results, Tryd.results24, go_sem, y0, y1, y2], rfl, hw.trans (Rg.below_putObj _ _ _ (by omega))⟩

set_option maxHeartbeats 1000000 in
theorem value_empty (sa : Option Addr) (cap : Nat) (w : World) :
    Calls Tryd.prog 24 #[.slice sa 0 cap] w fun e w' => e = .returned (.tuple #[.agg #[.int .i64 0, .int .i64 0], .int .i64 13]) ∧ Below w.heap.size w w' := by
  go_enter Tryd.func24, Tryd.ntmps24
  go_wp2_with fail
  exact bodyPost_ret (v := .tuple #[.agg #[.int .i64 0, .int .i64 0], .int .i64 13]) (by simp [results, Tryd.results24, go_sem]) rfl ⟨rfl, by go_grown⟩
set_option maxHeartbeats 1000000 in
theorem value_long (sa : Option Addr) (n cap : Nat) (hn : 40 < n) (w : World) :
    Calls Tryd.prog 24 #[.slice sa n cap] w fun e w' => e = .returned (.tuple #[.agg #[.int .i64 0, .int .i64 0], .int .i64 4]) ∧ Below w.heap.size w w' := by
  have h1 : ((n : Int) == 0) = false := by rw [beq_eq_false_iff_ne]; omega
  have h2 : (40 : Int) < (n : Int) := by omega
  go_enter Tryd.func24, Tryd.ntmps24
  go_wp2_with fail
  exact bodyPost_ret (v := .tuple #[.agg #[.int .i64 0, .int .i64 0], .int .i64 4]) (by simp [results, Tryd.results24, go_sem]) rfl ⟨rfl, by go_grown⟩

set_option maxRecDepth 100000 in
set_option maxHeartbeats 2000000 in
theorem value_form (B off n cap m : Nat) (X : Nat → Int) (w : World) (h0 : 0 < n) (hn : n ≤ 40) (hcap : cap ≠ 1) (hB : B < w.heap.size) (hx : ∀ k, k < n → w.cell? ⟨B, off + k, none⟩ = some (.int .i64 (X k)))
    (h1 : 1 ≤ m) (h2 : m < n) (h3 : X m < 1) (h4 : ∀ i, 1 ≤ i → i < m → 1 ≤ X i) :
    Calls Tryd.prog 24 #[.slice (some ⟨B, off, none⟩) n cap] w fun e w' => e = .returned (.tuple #[.agg #[.int .i64 0, .int .i64 0], .int .i64 7]) ∧ Below w.heap.size w w' := by
  have hz : ((n : Int) == 0) = false := by rw [beq_eq_false_iff_ne]; omega
  have hl : ¬ (40 : Int) < (n : Int) := by omega
  have hne : w.heap.size ≠ B := by omega
  have h1n : (1 : Int) ≤ (n : Int) := by omega
  have hc1 : ((cap : Int) == 1) = false := by rw [beq_eq_false_iff_ne]; omega
  have HX := Lib.hid hx
  have H4 := Lib.hid h4
  clear hx h4
  go_enter Tryd.func24, Tryd.ntmps24
  go_wp2_with fail
  go_loop [23] (fun i => ∃ k : Nat, k + 1 ≤ m ∧ i = .int .i64 (k : Int)) (fun i => n - (intOf i).toNat)
  case atStart => exact ⟨0, h1, rfl⟩
  case round =>
    obtain ⟨k, hk, rfl⟩ := hrel
    have hc := HX.out (k + 1) (by omega)
    have hc2 : ((w.alloc (.cells #[.int .i64 0, .int .i64 0] 27)).alloc (.cells #[.int .i64 0] 29)).cell? ⟨B, off + 1 + k, none⟩ = some (.int .i64 (X (k + 1))) := by
      rw [show off + 1 + k = off + (k + 1) by omega]
      exact ((((Below.refl _ w).alloc (Nat.le_refl _) _).alloc (by simp) _).cell (p := ⟨B, off + (k + 1), none⟩) hB).trans hc
    have hkn : (k : Int) < (n : Int) - 1 := by omega
    have hkn2 : k < n - 1 := by omega
    by_cases e : k + 1 < m
    · have hx := H4.out (k + 1) (by omega) e
      generalize X (k + 1) = x at *
      go_wp2
      go_round
      case rel => exact ⟨k + 1, by omega, by go_num⟩
      case measure => simp [intOf]; omega
    · obtain rfl : k + 1 = m := by omega
      generalize X (k + 1) = x at *
      go_wp2
      exact bodyPost_ret (v := .tuple #[.agg #[.int .i64 0, .int .i64 0], .int .i64 7]) (by simp [results, Tryd.results24, go_sem]) rfl ⟨rfl, by go_grown⟩

/-- What Value returns: one number for every list. -/
theorem cfR (X : Nat → Int) (n : Nat) : ∃ r1 r2 r3 : Int, ((n = 0 ∧ r1 = 0 ∧ r2 = 0 ∧ r3 = 13) ∨ (40 < n ∧ r1 = 0 ∧ r2 = 0 ∧ r3 = 4) ∨ (0 < n ∧ n ≤ 40 ∧ FracMath.CfForm X n (r1, r2, r3))) := by
  by_cases h : n = 0
  · exact ⟨_, _, _, .inl ⟨h, rfl, rfl, rfl⟩⟩
  · by_cases h2 : 40 < n
    · exact ⟨_, _, _, .inr (.inl ⟨h2, rfl, rfl, rfl⟩)⟩
    · obtain ⟨⟨r1, r2, r3⟩, hr⟩ := FracMath.cf_form X n
      exact ⟨r1, r2, r3, .inr (.inr ⟨by omega, by omega, hr⟩)⟩
theorem value_both (sa : Option Addr) (B off n cap : Nat) (X : Nat → Int) (w : World) (hcap : n ≤ cap) (ha : 0 < n → sa = some ⟨B, off, none⟩ ∧ B < w.heap.size) (hx : ∀ k, k < n → w.cell? ⟨B, off + k, none⟩ = some (.int .i64 (X k))) (r1 r2 r3 : Int)
    (hr : (n = 0 ∧ r1 = 0 ∧ r2 = 0 ∧ r3 = 13) ∨ (40 < n ∧ r1 = 0 ∧ r2 = 0 ∧ r3 = 4) ∨ (0 < n ∧ n ≤ 40 ∧ FracMath.CfForm X n (r1, r2, r3))) :
    Calls Tryd.prog 24 #[.slice sa n cap] w (fun e w' => e = .returned (.tuple #[.agg #[.int .i64 r1, .int .i64 r2], .int .i64 r3]) ∧ Below w.heap.size w w') ∧
    Calls Tryd.prog 25 #[.slice sa n cap] w (fun e w' => e = .returned (.tuple #[.agg #[.int .i64 r1, .int .i64 r2], .int .i64 r3]) ∧ Below w.heap.size w w') := by
  rcases hr with ⟨rfl, rfl, rfl, rfl⟩ | ⟨h, rfl, rfl, rfl⟩ | ⟨h0, h40, ⟨m, m1, m2, m3, m4, hm⟩ | ⟨hf, hm⟩⟩
  · exact ⟨value_empty sa cap w, rvalue_empty sa cap w⟩
  · exact ⟨value_long sa n cap h w, rvalue_long sa n cap h w⟩
  · cases hm
    obtain ⟨rfl, hB⟩ := ha h0
    exact ⟨value_form B off n cap m X w h0 h40 (by omega) hB hx m1 m2 m3 m4, rvalue_form B off n cap m X w h0 h40 hB hx m1 m2 m3 m4⟩
  · obtain ⟨rfl, hB⟩ := ha h0
    refine ⟨?_, rvalue_main B off n cap X w h0 h40 hB hx hf r1 r2 r3 hm.symm⟩
    by_cases hc : cap = 1
    · subst hc
      obtain rfl : n = 1 := by omega
      exact value_one B off X w hB hx r1 r2 r3 hm.symm
    · exact value_main B off n cap X w h0 h40 hc hB hx hf r1 r2 r3 hm.symm
end Go.Proofs.YtoeacbmlodfciaaDoor
