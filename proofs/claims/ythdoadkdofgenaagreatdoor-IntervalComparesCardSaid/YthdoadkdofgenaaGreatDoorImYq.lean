/- The reference's quotient. -/
import Derived.Test.YthdoadkdofgenaaGreatDoorImYd
import Derived.Test.YthdoadkdofgenaaGreatDoorImYh
namespace Go.Proofs.YthdoadkdofgenaaGreatDoor
open Go Go.RowKit Go.Shelf

theorem quot_step {X Y i : Nat} (hY : 0 < Y) : (RB * (X / RB ^ (i + 1) % Y) + rdg X i) / Y = rdg (X / Y) i ∧ (RB * (X / RB ^ (i + 1) % Y) + rdg X i) % Y = X / RB ^ i % Y := by
  have h1 := rdiv_dg X i
  have h2 := rdiv_dg (X / Y) i
  rw [Nat.div_div_eq_div_mul, Nat.mul_comm Y, ← Nat.div_div_eq_div_mul, Nat.div_div_eq_div_mul X Y (RB ^ (i + 1)), Nat.mul_comm Y, ← Nat.div_div_eq_div_mul] at h2
  rw [h1] at h2 ⊢
  have h3 := Nat.div_add_mod (X / RB ^ (i + 1)) Y
  generalize X / RB ^ (i + 1) = B at *
  generalize rdg X i = d at *
  generalize B / Y = b at *
  generalize B % Y = r at *
  have e : RB * B + d = Y * (RB * b) + (RB * r + d) := by rw [← h3, Nat.mul_add, Nat.mul_left_comm]; omega
  rw [e] at h2 ⊢
  rw [Nat.mul_add_div hY] at h2
  exact ⟨by omega, (Nat.mul_add_mod _ _ _).symm⟩
theorem rnd_mono2 {x y : Nat} (h : x ≤ y) : rnd x ≤ rnd y := Im.nd_mono rb2 h
theorem rdg_up (R d : Nat) (hd : d < 10000) : rdg (RB * R + d) 0 = d ∧ ∀ j, rdg (RB * R + d) (j + 1) = rdg R j := by
  unfold rdg Im.dg
  refine ⟨?_, fun j => ?_⟩
  · rw [Nat.pow_zero, Nat.div_one, Nat.mul_add_mod]; exact Nat.mod_eq_of_lt hd
  · rw [Nat.pow_succ', ← Nat.div_div_eq_div_mul, Nat.mul_add_div (by unfold RB; omega), Nat.div_eq_of_lt (show d < RB from hd), Nat.add_zero]
theorem rpcs_up (R d m : Nat) (hd : d < 10000) : rpcs (RB * R + d) (m + 1) = [.int .i64 (d : Nat)] ++ rpcs R m := by
  obtain ⟨h1, h2⟩ := rdg_up R d hd
  unfold rpcs
  rw [List.range_succ_eq_map, List.map_cons, List.map_map, h1]
  simp [Function.comp_def, h2]
theorem own_one (W : World) (d : Int) : (W.alloc (.cells #[.int .i64 d] 3)).ownsRow W.heap.size 3 1 (.slice (some ⟨W.heap.size, 0, none⟩) 1 1) 1 [.int .i64 d] :=
  ⟨rfl, .inr ⟨W.heap.size, 1, _, rfl, Nat.le_refl _, heap_at rfl, Nat.le_refl _, by unfold maxLen; omega, rfl, rfl⟩⟩
theorem row_one (W : World) (d : Nat) (hd : d < 10000) : RRow (W.alloc (.cells #[.int .i64 (d : Nat)] 3)) (some ⟨W.heap.size, 0, none⟩) 1 1 W.heap.size 0 d :=
  ⟨Nat.le_refl _, fun _ => rfl, fun _ => by simp, fun k hk => by
    obtain rfl : k = 0 := by omega
    have e : rdg d 0 = d := by unfold rdg Im.dg; rw [Nat.pow_zero, Nat.div_one]; exact Nat.mod_eq_of_lt hd
    rw [e]; simp, by rw [Nat.pow_one]; exact hd⟩
theorem put_i {N D : Nat} {A : World} {f g : Nat → Nat} {k : Nat} {v q : Value} (hq : A.cell? ⟨D, k, none⟩ = some q) (hv : v = .int .i64 (g k : Nat)) (hfg : ∀ j, j ≠ k → g j = f j)
    (h : ∀ j, j < N → A.cell? ⟨D, j, none⟩ = some (.int .i64 (f j : Nat))) : ∀ j, j < N → (A.setCell ⟨D, k, none⟩ v).cell? ⟨D, j, none⟩ = some (.int .i64 (g j : Nat)) := fun j hj => by
  by_cases e : j = k
  · subst e; rw [World.cell?_setCell_same _ _ _ hq, hv]
  · rw [hfg j e]
    exact (World.cell?_setCell_other _ _ _ _ (fun e2 => by have := congrArg Addr.off e2; simp at this; omega)).trans (h j hj)
theorem cmp_le {X Y : Nat} (h : X ≤ Y) : ∃ c : Int, cmpN X Y = c ∧ c ≤ 0 ∧ -1 ≤ c := by
  unfold cmpN
  by_cases h2 : X < Y
  · rw [if_pos h2]; exact ⟨-1, rfl, by decide, by decide⟩
  · rw [if_neg h2, if_neg (by omega)]; exact ⟨0, rfl, by decide, by decide⟩
theorem cmp_gt {X Y : Nat} (h : ¬ X ≤ Y) : cmpN X Y = 1 := by unfold cmpN; rw [if_neg (by omega), if_pos (by omega)]
theorem rnd_mul2 (x y : Nat) : rnd (x * y) ≤ rnd x + rnd y := by
  refine Im.nd_le rb2 ?_
  rw [Nat.pow_add]
  exact Nat.mul_lt_mul'' (Im.lt_pow_nd rb2 _) (Im.lt_pow_nd rb2 _)
theorem rnd_digit {d : Nat} (h : d < 10000) : rnd d ≤ 1 := Im.nd_le rb2 (by rw [Nat.pow_one]; exact h)

/-- The quotient's cells while it is made: below k zeros, above the digits. -/
def qf (Q k j : Nat) : Nat := if j < k then 0 else rdg Q j

set_option maxRecDepth 100000 in
set_option maxHeartbeats 4000000 in
theorem quotient_any (sx : Option Addr) (cx bx ox X : Nat) (sy : Option Addr) (cpy by_ oy Y : Nat) (hY : 0 < Y) (w : World) (hx : RRow w sx (rnd X) cx bx ox X) (hy : RRow w sy (rnd Y) cpy by_ oy Y) (hn1 : rnd X ≤ 40000) (hn2 : rnd Y ≤ 40000) :
    Calls Tryz.prog 113 #[.slice sx (rnd X) cx, .slice sy (rnd Y) cpy] w fun e w' => (∃ v1 v2, e = .returned (.tuple #[v1, v2]) ∧ RMag w' v1 (X / Y) ∧ RMag w' v2 (X % Y)) ∧ Below w.heap.size w w' := by
  obtain ⟨i0, hi0, hz0, hz1, hz2⟩ := info_parts info_int
  have HX := Lib.hid hx
  have HY := Lib.hid hy
  have hcx := hx.cap
  have HYP := Lib.hid hY
  have HST := Lib.hid (fun i => quot_step (X := X) (i := i) hY)
  have hRN := Lib.hid (fun k => rnd_mono2 (Nat.le_of_lt (Nat.mod_lt (X / RB ^ k) hY)))
  obtain ⟨nx, hnx⟩ : ∃ nx, rnd X = nx := ⟨_, rfl⟩
  rw [hnx] at HX hcx hn1 ⊢
  have HNX := Lib.hid hnx
  obtain ⟨D, hD⟩ : ∃ D, w.heap.size = D := ⟨_, rfl⟩
  obtain ⟨Q, hQ⟩ : ∃ Q, X / Y = Q := ⟨_, rfl⟩
  rw [hQ] at HST ⊢
  have hQn : rnd Q ≤ nx := by rw [← hQ, ← hnx]; exact rnd_mono2 (Nat.div_le_self _ _)
  have HQN := Lib.hid hQn
  clear hx hy hnx hY hQn
  have hmk : (Instr.makeSlice 120 (.int .i64 (nx : Int)) (.int .i64 (nx : Int))).run Tryz.prog w = .ok (.slice (some ⟨w.heap.size, 0, none⟩) nx nx) (w.alloc (.cells (madeCells #[.int .i64 0] (nx * 1)) 3)) := by
    have := run_makeSlice (P := Tryz.prog) w 120 3 i0 (.int .i64 0) Tryz.underlying120 hi0 hz0 .i64 .i64 (nx : Int) (nx : Int) (by omega) (by omega) (by rw [hz1]; simp; omega) (by rw [hz2]; omega) (by omega)
    rw [hz1] at this
    simpa [Value.cells] using this
  rw [hD] at hmk
  obtain ⟨W1, hW1⟩ : ∃ W1, (w.alloc (.cells (madeCells #[.int .i64 0] (nx * 1)) 3)) = W1 := ⟨_, rfl⟩
  have hw1 : Below D w W1 := by rw [← hW1]; exact (Below.refl _ _).alloc (by omega) _
  have hz1' : W1.heap.size = D + 1 := by rw [← hW1]; simp [hD]
  have hh1 : W1.heap[D]? = some (.cells (madeCells #[.int .i64 0] (nx * 1)) 3) := by rw [← hW1]; exact heap_at hD.symm
  have hc1 : ∀ j, j < nx → W1.cell? ⟨D, j, none⟩ = some (.int .i64 (qf Q nx j : Nat)) := fun j hj => by
    have e2 : (madeCells #[Value.int .i64 0] (nx * 1))[j]? = some (.int .i64 0) := by rw [← Array.getElem?_toList, toList_madeCells_one, List.getElem?_replicate, if_pos (by omega)]
    rw [Lib.cell_of_heap hh1, e2]
    unfold qf; rw [if_pos hj]; rfl
  have hf1 : ∀ j, W1.frozen? ⟨D, j, none⟩ = false := fun j => by simp [World.frozen?, hh1]
  rw [hW1] at hmk
  have HC1 := Lib.hid hc1
  have HF1 := Lib.hid hf1
  clear hW1 hh1 hc1 hf1
  go_enter Tryz.func113, Tryz.ntmps113
  go_wp2_with fail
  go_loopw [6, 8] (fun r i wr => ∃ k : Nat, k ≤ nx ∧ i = .int .i64 ((k : Int) - 1) ∧ RMagF (D + 1) wr r (X / RB ^ k % Y) ∧ Below D w wr ∧ D + 1 ≤ wr.heap.size ∧ (∀ j, j < nx → wr.cell? ⟨D, j, none⟩ = some (.int .i64 (qf Q k j : Nat))) ∧ ∀ j, wr.frozen? ⟨D, j, none⟩ = false) (fun _ i _ => (intOf i + 1).toNat)
  case atStart =>
    have e : X / RB ^ nx % Y = 0 := by rw [Nat.div_eq_of_lt HX.out.fits, Nat.zero_mod]
    exact ⟨nx, Nat.le_refl _, rfl, ⟨none, 0, 0, 0, by rw [e, rnd_zero], by rw [e, rnd_zero]; exact ⟨Nat.le_refl _, fun p => absurd p (Nat.lt_irrefl _), fun p => absurd p (Nat.lt_irrefl _), fun k hk => absurd hk (Nat.not_lt_zero _), Nat.one_pos⟩, by rw [e, rnd_zero]; exact fun h => absurd h (Nat.lt_irrefl _)⟩, hw1, by omega, HC1.out, HF1.out⟩
  case round =>
    obtain ⟨k, hk, rfl, hr, hw, hsz, hc, hf⟩ := hrel
    have HCC := Lib.hid hc
    have HFF := Lib.hid hf
    clear hc hf
    cases k with
    | zero =>
      have hrow : RRow wr (some ⟨D, 0, none⟩) nx nx D 0 Q := ⟨Nat.le_refl _, fun _ => rfl, fun _ => by omega, fun j hj => by
        rw [Nat.zero_add]; have := HCC.out j hj; unfold qf at this; rwa [if_neg (by omega)] at this, Nat.lt_of_lt_of_le (Im.lt_pow_nd rb2 Q) (Nat.pow_le_pow_right (by unfold RB; omega) HQN.out)⟩
      rw [Nat.pow_zero, Nat.div_one] at hr
      have HR := Lib.hid hr.mag
      have HS := Lib.hid (short_any (some ⟨D, 0, none⟩) nx nx D 0 Q wr hrow (by omega))
      have HRT := Lib.hid hrow.trim
      obtain ⟨sa, cap, b, o, rfl, hra, hfr⟩ := hr
      clear hrow hra hfr
      go_wp2_with fail
      refine HS.out.mono ?_
      rintro e w7 ⟨rfl, hww⟩
      subst w7
      go_wp2
      exact bodyPost_ret (v := .tuple #[.slice (some ⟨D, 0, none⟩) (rnd Q) nx, .slice sa (rnd (X % Y)) cap]) (by simp [results, Tryz.results113, go_sem]) rfl ⟨⟨_, _, rfl, ⟨some ⟨D, 0, none⟩, nx, D, 0, rfl, HRT.out⟩, HR.out⟩, by rw [hD]; exact hw⟩
    | succ k =>
      have hki : ((k + 1 : Nat) : Int) - 1 = (k : Int) := by omega
      rw [hki]
      have HKI := Lib.hid hki
      obtain ⟨hq1, hq2⟩ := HST.out k
      have hd := rdg_lt X k
      have ca := (hw.cell (p := ⟨bx, ox + k, none⟩) (by have := HX.out.lt (by omega); show bx < D; omega)).trans (HX.out.cell k (by omega))
      obtain rfl := HX.out.at_ (by omega)
      have hRY := hRN.out (k + 1)
      have hLl : rdg Q k < 10000 := rdg_lt Q k
      obtain ⟨L, hL⟩ : ∃ L, rdg Q k = L := ⟨_, rfl⟩
      obtain ⟨R, hR⟩ : ∃ R, X / RB ^ (k + 1) % Y = R := ⟨_, rfl⟩
      rw [hL] at hq1 hLl
      rw [hR] at hq1 hq2 hRY hr
      obtain ⟨d, hdd⟩ : ∃ d, rdg X k = d := ⟨_, rfl⟩
      rw [hdd] at hq1 hq2 hd ca
      have HL := Lib.hid hL
      have hup := rpcs_up R d (rnd R) hd
      obtain ⟨T, hT⟩ : ∃ T, RB * R + d = T := ⟨_, rfl⟩
      rw [hT] at hq1 hq2 hup
      have hTf : T < RB ^ (rnd R + 1) := by
        rw [← hT, Nat.pow_succ']
        have h9 := Im.lt_pow_nd rb2 R
        change R < RB ^ rnd R at h9
        generalize RB ^ rnd R = p at *
        unfold RB
        omega
      have HUP := Lib.hid hup
      have HTF := Lib.hid hTf
      have HQ1 := Lib.hid hq1
      have HQ2 := Lib.hid hq2
      obtain ⟨sr, cr, br, orr, rfl, hrow, hfr⟩ := hr
      have hgo : 0 < rnd R → sr = some ⟨br, orr, none⟩ := hrow.at_
      have hTz : rnd R = 0 → T = d := fun h => by rw [← hT, rnd_pos_iff.1 h]; omega
      have HTZ := Lib.hid hTz
      clear hup hTf hq1 hq2 hL hR hdd hT hTz
      have hkn : (k : Int) < (nx : Int) := by omega
      cases sr with
      | none =>
        have hm0 : rnd R = 0 := by
          rcases Nat.eq_zero_or_pos (rnd R) with h | h
          · exact h
          · exact absurd (hgo h) (by simp)
        rw [hm0]
        have HTD := Lib.hid (HTZ.out hm0)
        have hrow1 := row_one wr d hd
        rw [← HTD.out] at hrow1
        have HSH := Lib.hid (short_any (some ⟨wr.heap.size, 0, none⟩) 1 1 wr.heap.size 0 T _ hrow1 (by decide))
        have HR7 := Lib.hid hrow1.trim
        have hw7 := hw.alloc (by omega) (.cells #[.int .i64 (T : Nat)] 3)
        have hz7 : D + 1 ≤ (wr.alloc (.cells #[.int .i64 (T : Nat)] 3)).heap.size := by simp; omega
        have hc7 := fun j (hj : j < nx) => (((Below.refl wr.heap.size wr).alloc (Nat.le_refl _) (.cells #[.int .i64 (T : Nat)] 3)).cell (p := ⟨D, j, none⟩) (by show D < wr.heap.size; omega)).trans (HCC.out j hj)
        have hf7 := fun j => (((Below.refl wr.heap.size wr).alloc (Nat.le_refl _) (.cells #[.int .i64 (T : Nat)] 3)).frozen (p := ⟨D, j, none⟩) (by show D < wr.heap.size; omega)).trans (HFF.out j)
        have hTn : rnd T ≤ rnd Y + 1 := by rw [HTD.out]; have := rnd_digit hd; omega
        obtain ⟨bT, hbT0⟩ : ∃ bT, wr.heap.size = bT := ⟨_, rfl⟩
        have hbT : D + 1 ≤ bT := by omega
        have hTd := HTD.out
        subst hTd
        rw [hbT0] at HSH HR7
        go_upto_region 7 with fail
        obtain ⟨V, hV⟩ : ∃ V, (wr.alloc (.cells #[.int .i64 (T : Nat)] 3)) = V := ⟨_, rfl⟩
        rw [hV] at HSH HR7 hw7 hz7 hc7 hf7 ⊢
        have HW7 := Lib.hid hw7
        have HC7 := Lib.hid hc7
        have HF7 := Lib.hid hf7
        clear hV hrow1 hw7 hc7 hf7 hw hsz HCC HFF ca
        refine HSH.out.mono ?_
        rintro e w7 ⟨rfl, hw77⟩
        subst w7
        go_wp2_with fail
        go_loopw [9, 10] (fun l h wk => ∃ lo hi : Nat, lo ≤ L ∧ L < hi ∧ hi ≤ 10000 ∧ l = .int .i64 (lo : Int) ∧ h = .int .i64 (hi : Int) ∧ Below V.heap.size V wk) (fun l h _ => (intOf h - intOf l).toNat)
        case atStart => exact ⟨0, 10000, Nat.zero_le _, hLl, Nat.le_refl _, rfl, rfl, Below.refl _ _⟩
        case round =>
          obtain ⟨lo, hi, h1, h2, h3, rfl, rfl, hb⟩ := hrel
          have hbs := hb.size
          by_cases hgap : lo + 1 < hi
          · have hgi : (1 : Int) < (hi : Int) - (lo : Int) := by omega
            obtain ⟨mid, hmid⟩ : ∃ mid, (lo + hi) / 2 = mid := ⟨_, rfl⟩
            have hmi : ((lo : Int) + (hi : Int)).tdiv 2 = (mid : Int) := by rw [Int.tdiv_eq_ediv_of_nonneg (by omega)]; omega
            have hm1 : lo < mid ∧ mid < hi ∧ mid < 10000 := by omega
            have hwD : Below D w wr := HW7.out.trans (hb.mono (by have := HW7.out.size; omega))
            have TM := Lib.hid (rtimes_any sy (rnd Y) cpy by_ oy Y (some ⟨wr.heap.size, 0, none⟩) 1 1 wr.heap.size 0 mid (wr.alloc (.cells #[.int .i64 (mid : Nat)] 3)) ((HY.out.below hwD (by omega)).below ((Below.refl wr.heap.size wr).alloc (Nat.le_refl _) _) (Nat.le_refl _)) (row_one wr mid (by omega)) (by omega))
            have HT8 := Lib.hid (HR7.out.below hb (Nat.le_refl _))
            have hYm := rnd_mul2 Y mid
            have hm9 := rnd_digit hm1.2.2
            have hwa : Below V.heap.size V (wr.alloc (.cells #[.int .i64 (mid : Nat)] 3)) := hb.alloc hbs _
            clear hmid hwD
            go_wp2_with fail
            refine TM.out.mono ?_
            rintro e w8 ⟨⟨v8, rfl, h8⟩, hb8⟩
            have hb78 := hwa.trans (hb8.mono (by simp; omega))
            go_wp2_with fail
            refine (order_mag v8 _ (Y * mid) T w8 h8 ⟨_, _, _, _, rfl, HR7.out.below hb78 (Nat.le_refl _)⟩ (by omega)).mono ?_
            rintro e w9 ⟨rfl, m9, hw9⟩
            have hb79 : Below V.heap.size V w9 := by rw [hw9]; exact hb78.trans (drew_below _ _ |>.mono hb78.size)
            clear hw9 h8
            by_cases hle : Y * mid ≤ T
            · obtain ⟨c, hc, hc0, hc1⟩ := cmp_le hle
              rw [hc]
              have hmL : mid ≤ L := by rw [← HQ1.out]; exact (Nat.le_div_iff_mul_le HYP.out).2 (by rw [Nat.mul_comm]; exact hle)
              clear hc hle
              go_wp2_with fail
              go_roundw
              case rel => exact ⟨mid, hi, hmL, h2, h3, rfl, rfl, hb79⟩
              case measure => simp [intOf]; omega
            · rw [cmp_gt hle]
              have hmL : L < mid := by rw [← HQ1.out]; exact (Nat.div_lt_iff_lt_mul HYP.out).2 (by rw [Nat.mul_comm]; omega)
              clear hle
              go_wp2_with fail
              go_roundw
              case rel => exact ⟨lo, mid, h1, hmL, by omega, rfl, rfl, hb79⟩
              case measure => simp [intOf]; omega
          · obtain rfl : lo = L := by omega
            have hgi : ¬ (1 : Int) < (hi : Int) - (lo : Int) := by omega
            have hww := HW7.out.trans (hb.mono (by have := HW7.out.size; omega))
            have cD := fun j (hj : j < nx) => (hb.cell (p := ⟨D, j, none⟩) (by show D < V.heap.size; omega)).trans (HC7.out j hj)
            have fD := fun j => (hb.frozen (p := ⟨D, j, none⟩) (by show D < V.heap.size; omega)).trans (HF7.out j)
            have HRW := Lib.hid (HR7.out.below hb (Nat.le_refl _))
            have hDW : D + 1 ≤ wr.heap.size := by omega
            by_cases hL0 : lo = 0
            · have hTY : T = X / RB ^ k % Y := by
                rw [← HQ2.out]
                refine (Nat.mod_eq_of_lt ?_).symm
                have h9 := HQ1.out
                rw [hL0] at h9
                rcases (Nat.div_eq_zero_iff).1 h9 with h | h
                · have := HYP.out; omega
                · exact h
              have HTY := Lib.hid hTY
              have hli : ¬ (0 : Int) < (lo : Int) := by omega
              have cD2 := cD
              have fD2 := fD
              clear cD fD hTY
              have c0 := cD2 k (by omega)
              have f0 := fD2 k
              have hqf : ∀ j, j ≠ k → qf Q k j = qf Q (k + 1) j := fun j hj => by
                unfold qf
                by_cases h9 : j < k
                · rw [if_pos h9, if_pos (by omega)]
                · rw [if_neg h9, if_neg (by omega)]
              have hqk : qf Q k k = 0 := by unfold qf; rw [if_neg (by omega)]; exact HL.out.trans hL0
              have HP := Lib.hid (put_i (f := qf Q (k + 1)) (g := qf Q k) (v := .int .i64 0) c0 (by rw [hqk]; rfl) hqf cD2)
              have HFD := Lib.hid fD2
              clear cD2 fD2 hqf hqk
              have HWW := Lib.hid hww
              clear hww
              go_wp2_with fail
              go_roundw
              case rel =>
                refine ⟨k, by omega, by go_num, ?_, HWW.out.setCell (by simp) _, by simpa [World.setCell] using hDW, HP.out, fun j => by have := HFD.out j; simpa using this⟩
                rw [← HTY.out]
                exact RMagF.set ⟨_, _, _, _, rfl, HRW.out, fun _ => hbT⟩ ⟨D, k, none⟩ (by simp) _
              case measure => simp [intOf]
            · have hli : (0 : Int) < (lo : Int) := by omega
              have TM := Lib.hid (rtimes_any sy (rnd Y) cpy by_ oy Y (some ⟨wr.heap.size, 0, none⟩) 1 1 wr.heap.size 0 lo (wr.alloc (.cells #[.int .i64 (lo : Nat)] 3)) ((HY.out.below hww (by omega)).below ((Below.refl wr.heap.size wr).alloc (Nat.le_refl _) _) (Nat.le_refl _)) (row_one wr lo (by omega)) (by omega))
              have hYm := rnd_mul2 Y lo
              have hm9 := rnd_digit (show lo < 10000 by omega)
              have hwa : Below V.heap.size V (wr.alloc (.cells #[.int .i64 (lo : Nat)] 3)) := hb.alloc hbs _
              have hTY : ((X / RB ^ k % Y : Nat) : Int) = (T : Int) + (-1) * ((Y * lo : Nat) : Int) := by
                have h9 := Nat.div_add_mod T Y
                rw [HQ1.out, HQ2.out] at h9
                omega
              have HTY := Lib.hid hTY
              clear cD fD hTY
              go_wp2_with fail
              refine TM.out.mono ?_
              rintro e w8 ⟨⟨v8, rfl, h8⟩, hb8⟩
              have hb78 := hwa.trans (hb8.mono (by simp; omega))
              obtain ⟨s8, c8, b8, o8, rfl, hr8⟩ := h8
              go_wp2_with fail
              refine (both_subF _ _ _ _ _ T s8 _ c8 b8 o8 (Y * lo) (X / RB ^ k % Y) HTY.out w8 (HR7.out.below hb78 (Nat.le_refl _)) hr8 (by omega) (by omega)).mono ?_
              rintro e w9 ⟨⟨v9, rfl, h9⟩, hb9⟩
              have hb79 := hb78.trans (hb9.mono hb78.size)
              have hs79 := hb79.size
              have hs78 := hb78.size
              obtain ⟨s9, c9, b9, o9, rfl, hr9, hf9⟩ := h9
              have HR9 := Lib.hid (show RMagF (D + 1) w9 (.slice s9 (rnd (X / RB ^ k % Y)) c9) (X / RB ^ k % Y) from ⟨s9, c9, b9, o9, rfl, hr9, fun h => by have := hf9 h; omega⟩)
              have hww9 := HW7.out.trans (hb79.mono (by have := HW7.out.size; omega))
              have cD2 := fun j (hj : j < nx) => (hb79.cell (p := ⟨D, j, none⟩) (by show D < V.heap.size; omega)).trans (HC7.out j hj)
              have fD2 := fun j => (hb79.frozen (p := ⟨D, j, none⟩) (by show D < V.heap.size; omega)).trans (HF7.out j)
              have hDW9 : D + 1 ≤ w9.heap.size := by omega
              clear hr8 hr9 hf9 hww
              have c0 := cD2 k (by omega)
              have f0 := fD2 k
              have hqf : ∀ j, j ≠ k → qf Q k j = qf Q (k + 1) j := fun j hj => by
                unfold qf
                by_cases h9 : j < k
                · rw [if_pos h9, if_pos (by omega)]
                · rw [if_neg h9, if_neg (by omega)]
              have hqk : qf Q k k = lo := by unfold qf; rw [if_neg (by omega)]; exact HL.out
              have HP := Lib.hid (put_i (f := qf Q (k + 1)) (g := qf Q k) (v := .int .i64 (lo : Nat)) c0 (by rw [hqk]) hqf cD2)
              have HFD := Lib.hid fD2
              clear cD2 fD2 hqf hqk
              have HWW := Lib.hid hww9
              clear hww9
              go_wp2_with fail
              go_roundw
              case rel =>
                exact ⟨k, by omega, by go_num, HR9.out.set ⟨D, k, none⟩ (by simp) _, HWW.out.setCell (by simp) _, by simpa [World.setCell] using hDW9, HP.out, fun j => by have := HFD.out j; simpa using this⟩
              case measure => simp [intOf]
      | some ar =>
        have hnews : ∀ (j : Nat) (u : Value), (rpcs R (rnd R))[j]? = some u → (wr.alloc (.cells #[.int .i64 (d : Nat)] 3)).cell? (ar.add j) = some u := fun j u hu => by
          have hj : j < rnd R := by have := (List.getElem?_eq_some_iff.1 hu).1; simpa [rpcs] using this
          have hu2 : u = .int .i64 (rdg R j : Nat) := by simp [rpcs, hj] at hu; exact hu.symm
          have ha : ar = ⟨br, orr, none⟩ := by have := hgo (by omega); simpa using this
          subst hu2 ha
          have e : (⟨br, orr, none⟩ : Addr).add j = ⟨br, orr + j, none⟩ := by
            unfold Addr.add
            split <;> simp_all
          rw [e]
          exact (((Below.refl wr.heap.size wr).alloc (Nat.le_refl _) _).cell (p := ⟨br, orr + j, none⟩) (hrow.lt (by omega))).trans (hrow.cell j hj)
        have hone := own_one wr (d : Nat)
        have HNW := Lib.hid hnews
        have hlen : (rpcs R (rnd R)).length = rnd R * 1 := by simp [rpcs]
        have hcells : ∀ u ∈ rpcs R (rnd R), u.oneCell' = true := fun u hu => by
          obtain ⟨j, _, rfl⟩ := List.mem_map.1 hu
          rfl
        have HCELL := Lib.hid hcells
        clear hnews hgo hrow hfr hcells
        go_upto_region 7 with (first | (go_at_call 110; fail) | (at_builtin; refine wpList_append_own _ rfl _ _ 120 rfl wr.heap.size 3 i0 (.int .i64 0) 1 8 Tryz.underlying120 hi0 hz0 hz1 hz2 rfl (by decide) _ _ _ rfl hone ar (rnd R) cr (rpcs R (rnd R)) rfl hlen HNW.out HCELL.out (by unfold maxLen; omega) (by omega) (by simp) ?_; intro v' V hown' hgrow _))
        have hbV : Below wr.heap.size wr V := ((Below.refl wr.heap.size wr).alloc (Nat.le_refl _) (.cells #[.int .i64 (d : Nat)] 3)).grown hgrow (by simp) (fun g hgv => by have h9 : (Value.slice (some ⟨wr.heap.size, 0, none⟩) 1 1).ownBlock = some g := hgv; simp [Value.ownBlock] at h9; omega)
        rw [Nat.add_comm 1 (rnd R), ← HUP.out] at hown'
        obtain ⟨sT, cT, bT, rfl, hrT, hfT⟩ := rrow_of hown' HTF.out
        obtain rfl := hrT.at_ (by omega)
        have hbT : D + 1 ≤ bT := by have := hfT (by omega); omega
        have hTn : rnd T ≤ rnd Y + 1 := by have := Im.nd_le rb2 HTF.out; change rnd T ≤ _ at this; omega
        have HSH := Lib.hid (short_any (some ⟨bT, 0, none⟩) (rnd R + 1) cT bT 0 T V hrT (by omega))
        have HR7 := Lib.hid hrT.trim
        have HW7 := Lib.hid (hw.trans (hbV.mono (by have := hw.size; omega)))
        have hz7 : D + 1 ≤ V.heap.size := Nat.le_trans hsz hbV.size
        have HC7 := Lib.hid (fun j (hj : j < nx) => (hbV.cell (p := ⟨D, j, none⟩) (by show D < wr.heap.size; omega)).trans (HCC.out j hj))
        have HF7 := Lib.hid (fun j => (hbV.frozen (p := ⟨D, j, none⟩) (by show D < wr.heap.size; omega)).trans (HFF.out j))
        clear hbV hown' hgrow hrT hfT hw hsz HCC HFF ca hone HNW HCELL hlen
        go_wp2_with fail
        refine HSH.out.mono ?_
        rintro e w7 ⟨rfl, hw77⟩
        subst w7
        go_wp2_with fail
        go_loopw [9, 10] (fun l h wk => ∃ lo hi : Nat, lo ≤ L ∧ L < hi ∧ hi ≤ 10000 ∧ l = .int .i64 (lo : Int) ∧ h = .int .i64 (hi : Int) ∧ Below V.heap.size V wk) (fun l h _ => (intOf h - intOf l).toNat)
        case atStart => exact ⟨0, 10000, Nat.zero_le _, hLl, Nat.le_refl _, rfl, rfl, Below.refl _ _⟩
        case round =>
          obtain ⟨lo, hi, h1, h2, h3, rfl, rfl, hb⟩ := hrel
          have hbs := hb.size
          by_cases hgap : lo + 1 < hi
          · have hgi : (1 : Int) < (hi : Int) - (lo : Int) := by omega
            obtain ⟨mid, hmid⟩ : ∃ mid, (lo + hi) / 2 = mid := ⟨_, rfl⟩
            have hmi : ((lo : Int) + (hi : Int)).tdiv 2 = (mid : Int) := by rw [Int.tdiv_eq_ediv_of_nonneg (by omega)]; omega
            have hm1 : lo < mid ∧ mid < hi ∧ mid < 10000 := by omega
            have hwD : Below D w wr := HW7.out.trans (hb.mono (by have := HW7.out.size; omega))
            have TM := Lib.hid (rtimes_any sy (rnd Y) cpy by_ oy Y (some ⟨wr.heap.size, 0, none⟩) 1 1 wr.heap.size 0 mid (wr.alloc (.cells #[.int .i64 (mid : Nat)] 3)) ((HY.out.below hwD (by omega)).below ((Below.refl wr.heap.size wr).alloc (Nat.le_refl _) _) (Nat.le_refl _)) (row_one wr mid (by omega)) (by omega))
            have HT8 := Lib.hid (HR7.out.below hb (Nat.le_refl _))
            have hYm := rnd_mul2 Y mid
            have hm9 := rnd_digit hm1.2.2
            have hwa : Below V.heap.size V (wr.alloc (.cells #[.int .i64 (mid : Nat)] 3)) := hb.alloc hbs _
            clear hmid hwD
            go_wp2_with fail
            refine TM.out.mono ?_
            rintro e w8 ⟨⟨v8, rfl, h8⟩, hb8⟩
            have hb78 := hwa.trans (hb8.mono (by simp; omega))
            go_wp2_with fail
            refine (order_mag v8 _ (Y * mid) T w8 h8 ⟨_, _, _, _, rfl, HR7.out.below hb78 (Nat.le_refl _)⟩ (by omega)).mono ?_
            rintro e w9 ⟨rfl, m9, hw9⟩
            have hb79 : Below V.heap.size V w9 := by rw [hw9]; exact hb78.trans (drew_below _ _ |>.mono hb78.size)
            clear hw9 h8
            by_cases hle : Y * mid ≤ T
            · obtain ⟨c, hc, hc0, hc1⟩ := cmp_le hle
              rw [hc]
              have hmL : mid ≤ L := by rw [← HQ1.out]; exact (Nat.le_div_iff_mul_le HYP.out).2 (by rw [Nat.mul_comm]; exact hle)
              clear hc hle
              go_wp2_with fail
              go_roundw
              case rel => exact ⟨mid, hi, hmL, h2, h3, rfl, rfl, hb79⟩
              case measure => simp [intOf]; omega
            · rw [cmp_gt hle]
              have hmL : L < mid := by rw [← HQ1.out]; exact (Nat.div_lt_iff_lt_mul HYP.out).2 (by rw [Nat.mul_comm]; omega)
              clear hle
              go_wp2_with fail
              go_roundw
              case rel => exact ⟨lo, mid, h1, hmL, by omega, rfl, rfl, hb79⟩
              case measure => simp [intOf]; omega
          · obtain rfl : lo = L := by omega
            have hgi : ¬ (1 : Int) < (hi : Int) - (lo : Int) := by omega
            have hww := HW7.out.trans (hb.mono (by have := HW7.out.size; omega))
            have cD := fun j (hj : j < nx) => (hb.cell (p := ⟨D, j, none⟩) (by show D < V.heap.size; omega)).trans (HC7.out j hj)
            have fD := fun j => (hb.frozen (p := ⟨D, j, none⟩) (by show D < V.heap.size; omega)).trans (HF7.out j)
            have HRW := Lib.hid (HR7.out.below hb (Nat.le_refl _))
            have hDW : D + 1 ≤ wr.heap.size := by omega
            by_cases hL0 : lo = 0
            · have hTY : T = X / RB ^ k % Y := by
                rw [← HQ2.out]
                refine (Nat.mod_eq_of_lt ?_).symm
                have h9 := HQ1.out
                rw [hL0] at h9
                rcases (Nat.div_eq_zero_iff).1 h9 with h | h
                · have := HYP.out; omega
                · exact h
              have HTY := Lib.hid hTY
              have hli : ¬ (0 : Int) < (lo : Int) := by omega
              have cD2 := cD
              have fD2 := fD
              clear cD fD hTY
              have c0 := cD2 k (by omega)
              have f0 := fD2 k
              have hqf : ∀ j, j ≠ k → qf Q k j = qf Q (k + 1) j := fun j hj => by
                unfold qf
                by_cases h9 : j < k
                · rw [if_pos h9, if_pos (by omega)]
                · rw [if_neg h9, if_neg (by omega)]
              have hqk : qf Q k k = 0 := by unfold qf; rw [if_neg (by omega)]; exact HL.out.trans hL0
              have HP := Lib.hid (put_i (f := qf Q (k + 1)) (g := qf Q k) (v := .int .i64 0) c0 (by rw [hqk]; rfl) hqf cD2)
              have HFD := Lib.hid fD2
              clear cD2 fD2 hqf hqk
              have HWW := Lib.hid hww
              clear hww
              go_wp2_with fail
              go_roundw
              case rel =>
                refine ⟨k, by omega, by go_num, ?_, HWW.out.setCell (by simp) _, by simpa [World.setCell] using hDW, HP.out, fun j => by have := HFD.out j; simpa using this⟩
                rw [← HTY.out]
                exact RMagF.set ⟨_, _, _, _, rfl, HRW.out, fun _ => hbT⟩ ⟨D, k, none⟩ (by simp) _
              case measure => simp [intOf]
            · have hli : (0 : Int) < (lo : Int) := by omega
              have TM := Lib.hid (rtimes_any sy (rnd Y) cpy by_ oy Y (some ⟨wr.heap.size, 0, none⟩) 1 1 wr.heap.size 0 lo (wr.alloc (.cells #[.int .i64 (lo : Nat)] 3)) ((HY.out.below hww (by omega)).below ((Below.refl wr.heap.size wr).alloc (Nat.le_refl _) _) (Nat.le_refl _)) (row_one wr lo (by omega)) (by omega))
              have hYm := rnd_mul2 Y lo
              have hm9 := rnd_digit (show lo < 10000 by omega)
              have hwa : Below V.heap.size V (wr.alloc (.cells #[.int .i64 (lo : Nat)] 3)) := hb.alloc hbs _
              have hTY : ((X / RB ^ k % Y : Nat) : Int) = (T : Int) + (-1) * ((Y * lo : Nat) : Int) := by
                have h9 := Nat.div_add_mod T Y
                rw [HQ1.out, HQ2.out] at h9
                omega
              have HTY := Lib.hid hTY
              clear cD fD hTY
              go_wp2_with fail
              refine TM.out.mono ?_
              rintro e w8 ⟨⟨v8, rfl, h8⟩, hb8⟩
              have hb78 := hwa.trans (hb8.mono (by simp; omega))
              obtain ⟨s8, c8, b8, o8, rfl, hr8⟩ := h8
              go_wp2_with fail
              refine (both_subF _ _ _ _ _ T s8 _ c8 b8 o8 (Y * lo) (X / RB ^ k % Y) HTY.out w8 (HR7.out.below hb78 (Nat.le_refl _)) hr8 (by omega) (by omega)).mono ?_
              rintro e w9 ⟨⟨v9, rfl, h9⟩, hb9⟩
              have hb79 := hb78.trans (hb9.mono hb78.size)
              have hs79 := hb79.size
              have hs78 := hb78.size
              obtain ⟨s9, c9, b9, o9, rfl, hr9, hf9⟩ := h9
              have HR9 := Lib.hid (show RMagF (D + 1) w9 (.slice s9 (rnd (X / RB ^ k % Y)) c9) (X / RB ^ k % Y) from ⟨s9, c9, b9, o9, rfl, hr9, fun h => by have := hf9 h; omega⟩)
              have hww9 := HW7.out.trans (hb79.mono (by have := HW7.out.size; omega))
              have cD2 := fun j (hj : j < nx) => (hb79.cell (p := ⟨D, j, none⟩) (by show D < V.heap.size; omega)).trans (HC7.out j hj)
              have fD2 := fun j => (hb79.frozen (p := ⟨D, j, none⟩) (by show D < V.heap.size; omega)).trans (HF7.out j)
              have hDW9 : D + 1 ≤ w9.heap.size := by omega
              clear hr8 hr9 hf9 hww
              have c0 := cD2 k (by omega)
              have f0 := fD2 k
              have hqf : ∀ j, j ≠ k → qf Q k j = qf Q (k + 1) j := fun j hj => by
                unfold qf
                by_cases h9 : j < k
                · rw [if_pos h9, if_pos (by omega)]
                · rw [if_neg h9, if_neg (by omega)]
              have hqk : qf Q k k = lo := by unfold qf; rw [if_neg (by omega)]; exact HL.out
              have HP := Lib.hid (put_i (f := qf Q (k + 1)) (g := qf Q k) (v := .int .i64 (lo : Nat)) c0 (by rw [hqk]) hqf cD2)
              have HFD := Lib.hid fD2
              clear cD2 fD2 hqf hqk
              have HWW := Lib.hid hww9
              clear hww9
              go_wp2_with fail
              go_roundw
              case rel =>
                exact ⟨k, by omega, by go_num, HR9.out.set ⟨D, k, none⟩ (by simp) _, HWW.out.setCell (by simp) _, by simpa [World.setCell] using hDW9, HP.out, fun j => by have := HFD.out j; simpa using this⟩
              case measure => simp [intOf]
end Go.Proofs.YthdoadkdofgenaaGreatDoor
