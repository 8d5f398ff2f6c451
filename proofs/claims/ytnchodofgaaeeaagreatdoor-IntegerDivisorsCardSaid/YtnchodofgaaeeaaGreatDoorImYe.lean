/- The reference's times. -/
import Derived.Test.YtnchodofgaaeeaaGreatDoorImYd
namespace Go.Proofs.YtnchodofgaaeeaaGreatDoor
open Go Go.RowKit Go.Shelf

/-- The carry in the row of factor d at place k. -/
def tc (d y k : Nat) : Nat := d * (y % RB ^ k) / RB ^ k
theorem tc_zero (d y : Nat) : tc d y 0 = 0 := by simp [tc, Nat.mod_one]
theorem tc_le (d y k : Nat) : tc d y k ≤ d := by
  unfold tc
  have hp := rb_pos k
  refine Nat.le_of_lt_succ ((Nat.div_lt_iff_lt_mul hp).2 ?_)
  have h1 : d * (y % RB ^ k) ≤ d * RB ^ k := Nat.mul_le_mul_left _ (Nat.le_of_lt (Nat.mod_lt y hp))
  rw [Nat.succ_mul]
  omega
theorem tc_arg (d y k : Nat) : d * (y % RB ^ (k + 1)) = d * (y % RB ^ k) + RB ^ k * (d * rdg y k) := by
  rw [rmod_succ y k, Nat.mul_add, Nat.mul_left_comm]
theorem tc_digit (d y k : Nat) : (tc d y k + d * rdg y k) % 10000 = rdg (d * y) k := by
  have h := Im.carry_digit rb2 0 (d * (y % RB ^ k)) (d * rdg y k) k
  rw [← tc_arg, Nat.zero_mod, Nat.zero_add, show Im.dg RB 0 k = 0 by unfold Im.dg; simp, Nat.add_zero, Nat.zero_add] at h
  refine Eq.trans h (Im.dg_mod ?_)
  simp [Nat.mul_mod]
theorem tc_next (d y k : Nat) : (tc d y k + d * rdg y k) / 10000 = tc d y (k + 1) := by
  have h := Im.carry_next rb2 0 (d * (y % RB ^ k)) (d * rdg y k) k
  rw [← tc_arg, Nat.zero_mod, Nat.zero_add, show Im.dg RB 0 k = 0 by unfold Im.dg; simp, Nat.add_zero, Nat.zero_mod, Nat.zero_add] at h
  exact h
theorem tc_high {d y k : Nat} (hy : y < RB ^ k) : tc d y k = d * y / RB ^ k := by unfold tc; rw [Nat.mod_eq_of_lt hy]
theorem rdg_shift (P i k : Nat) : rdg (RB ^ i * P) (i + k) = rdg P k := by
  unfold rdg Im.dg
  rw [Nat.pow_add, Nat.mul_div_mul_left _ _ (rb_pos i)]
theorem rdg_low (P i j : Nat) (h : j < i) : rdg (RB ^ i * P) j = 0 := by
  unfold rdg Im.dg
  obtain ⟨q, rfl⟩ : ∃ q, i = j + (q + 1) := ⟨i - j - 1, by omega⟩
  rw [Nat.pow_add, Nat.mul_assoc, Nat.mul_div_cancel_left _ (rb_pos j), Nat.pow_succ, Nat.mul_right_comm, Nat.mul_comm _ RB, Nat.mul_mod_right]
theorem own_zero (W : World) (P i : Nat) (hi : i ≤ 1000000) : (W.alloc (.cells (madeCells #[.int .i64 0] (i * 1)) 3)).ownsRow W.heap.size 3 1 (.slice (some ⟨W.heap.size, 0, none⟩) i i) i (rpcs (RB ^ i * P) i) := by
  have e : rpcs (RB ^ i * P) i = List.replicate i (.int .i64 0) := by
    apply List.ext_getElem
    · simp [rpcs]
    · intro j h1 h2
      have hj : j < i := by simpa [rpcs] using h1
      simp [rpcs, rdg_low P i j hj]
  rw [e]
  refine ⟨by simp, .inr ⟨W.heap.size, i, _, rfl, Nat.le_refl _, heap_at rfl, Nat.le_refl _, by unfold maxLen; omega, ?_, ?_⟩⟩
  · rw [← Array.length_toList, toList_madeCells_one]; simp
  · rw [toList_madeCells_one]; simp
theorem own_up {W : World} {b0 : Nat} {v : Value} {k : Nat} {xs : List Value} (q : Nat) (h : W.ownsRow b0 3 1 v k xs) : (W.drewN q).ownsRow b0 3 1 v k xs := h

set_option maxRecDepth 100000 in
set_option maxHeartbeats 4000000 in
theorem rtimes_any (sx : Option Addr) (nx cx bx ox x : Nat) (sy : Option Addr) (ny cpy by_ oy y : Nat) (w : World) (hx : RRow w sx nx cx bx ox x) (hy : RRow w sy ny cpy by_ oy y) (hn : nx + ny ≤ 100000) :
    Calls Tryz.prog 74 #[.slice sx nx cx, .slice sy ny cpy] w fun e w' => (∃ v, e = .returned v ∧ RMag w' v (x * y)) ∧ Below w.heap.size w w' := by
  obtain ⟨i0, hi0, hz0, hz1, hz2⟩ := info_parts info_int
  have HX := Lib.hid hx
  have HY := Lib.hid hy
  have hcx := hx.cap
  have hcy := hy.cap
  have SH := Lib.hid (fun sa n cap b o W h hn => short_any sa n cap b o (x * y) W h hn)
  clear hx hy
  obtain ⟨D, hD⟩ : ∃ D, w.heap.size = D := ⟨_, rfl⟩
  rw [hD]
  go_enter Tryz.func74, Tryz.ntmps74
  go_wp2_with fail
  go_loopw [5, 6] (fun v i wr => ∃ i' : Nat, i' ≤ nx ∧ i = .int .i64 (i' : Int) ∧ RMag wr v ((x % RB ^ i') * y) ∧ Below D w wr) (fun _ i _ => nx - (intOf i).toNat)
  case atStart => exact ⟨0, Nat.zero_le _, rfl, ⟨none, 0, 0, 0, by rw [Nat.pow_zero, Nat.mod_one, Nat.zero_mul, rnd_zero], by rw [Nat.pow_zero, Nat.mod_one, Nat.zero_mul, rnd_zero]; exact ⟨Nat.le_refl _, fun p => absurd p (Nat.lt_irrefl _), fun p => absurd p (Nat.lt_irrefl _), fun k hk => absurd hk (Nat.not_lt_zero _), Nat.one_pos⟩⟩, Below.refl _ _⟩
  case round =>
    obtain ⟨i, hi, rfl, hm, hw⟩ := hrel
    by_cases h1 : i < nx
    · obtain ⟨wo, hwo⟩ : ∃ wo, wo = wr := ⟨_, rfl⟩
      subst hwo
      have hii : (i : Int) < (nx : Int) := by omega
      have hsz := hw.size
      have ld := rdg_lt x i
      have hS : (x % RB ^ (i + 1)) * y = (x % RB ^ i) * y + RB ^ i * (rdg x i * y) := by
        rw [rmod_succ x i, Nat.add_mul, Nat.mul_assoc]
      have HS := Lib.hid hS
      have hfit : rdg x i * y < RB ^ (ny + 1) := by
        rw [Nat.pow_succ, Nat.mul_comm]
        exact Nat.mul_lt_mul'' HY.out.fits ld
      have hT : rnd ((x % RB ^ i) * y) ≤ i + ny := by
        refine Im.nd_le rb2 ?_
        rw [Nat.pow_add]
        exact Nat.mul_lt_mul'' (Nat.mod_lt _ (rb_pos i)) HY.out.fits
      have HT := Lib.hid hT
      have HFIT := Lib.hid hfit
      have ca := (hw.cell (p := ⟨bx, ox + i, none⟩) (by have := HX.out.lt (by omega); show bx < D; omega)).trans (HX.out.cell i h1)
      obtain rfl := HX.out.at_ (by omega)
      have hmk : (Instr.makeSlice 89 (.int .i64 (i : Int)) (.int .i64 (i : Int))).run Tryz.prog wo = .ok (.slice (some ⟨wo.heap.size, 0, none⟩) i i) (wo.alloc (.cells (madeCells #[.int .i64 0] (i * 1)) 3)) := by
        have := run_makeSlice (P := Tryz.prog) wo 89 3 i0 (.int .i64 0) Tryz.underlying89 hi0 hz0 .i64 .i64 (i : Int) (i : Int) (by omega) (by omega) (by rw [hz1]; simp; omega) (by rw [hz2]; omega) (by omega)
        rw [hz1] at this
        simpa [Value.cells] using this
      have ho0 := own_zero wo (rdg x i * y) i (by omega)
      have hb0 : Below wo.heap.size wo (wo.alloc (.cells (madeCells #[.int .i64 0] (i * 1)) 3)) := (Below.refl _ _).alloc (Nat.le_refl _) _
      obtain ⟨d, hd⟩ : ∃ d, rdg x i = d := ⟨_, rfl⟩
      rw [hd] at HS HFIT ld ca ho0
      have HM := Lib.hid hm
      obtain ⟨E, hE⟩ : ∃ E, wo.heap.size = E := ⟨_, rfl⟩
      rw [hE] at ho0 hb0 hmk
      obtain ⟨W1, hW1⟩ : ∃ W1, (wo.alloc (.cells (madeCells #[.int .i64 0] (i * 1)) 3)) = W1 := ⟨_, rfl⟩
      rw [hW1] at ho0 hb0 hmk
      have HO := Lib.hid ho0
      have HB := Lib.hid hb0
      have HDG := Lib.hid (fun k => tc_digit d y k)
      have HNX := Lib.hid (fun k => tc_next d y k)
      clear hS hfit hT hm hd hW1 ho0 hb0
      go_wp2_with fail
      go_loopw [7, 8, 9] (fun r c k wk => ∃ k' : Nat, k' ≤ ny + 1 ∧ k = .int .i64 (k' : Int) ∧ c = .int .i64 (tc d y k' : Nat) ∧ wk.ownsRow E 3 1 r (i + k') (rpcs (RB ^ i * (d * y)) (i + k')) ∧ Below E wo wk) (fun _ _ k _ => ny + 2 - (intOf k).toNat)
      case atStart => exact ⟨0, Nat.zero_le _, rfl, by rw [tc_zero]; rfl, HO.out, HB.out⟩
      case round =>
        obtain ⟨k, hk, rfl, rfl, hrow, hb⟩ := hrel
        have hszk := hb.size
        rw [hE] at hszk
        have lt1 := tc_le d y k
        have D3 := rpcs_succ (RB ^ i * (d * y)) (i + k)
        rw [rdg_shift] at D3
        have dg := HDG.out k
        have nx_ := HNX.out k
        have hr0 := rdg_lt (d * y) k
        by_cases h2 : k < ny
        · have hki : (k : Int) < (ny : Int) := by omega
          have hwk : Below D w wr := hw.trans (hb.mono (by omega))
          have cb := (hwk.cell (p := ⟨by_, oy + k, none⟩) (by have := HY.out.lt (by omega); show by_ < D; omega)).trans (HY.out.cell k h2)
          have ca2 := (hb.cell (p := ⟨bx, ox + i, none⟩) (by rw [← hE]; have := HX.out.lt (by omega); show bx < _; omega)).trans ca
          obtain rfl := HY.out.at_ (by omega)
          have ll := rdg_lt y k
          obtain ⟨c2, hc2⟩ : ∃ c2, tc d y (k + 1) = c2 := ⟨_, rfl⟩
          have HC2 := Lib.hid hc2
          have lt2 := tc_le d y (k + 1)
          rw [hc2] at nx_ lt2
          obtain ⟨r, hr⟩ : ∃ r, rdg (d * y) k = r := ⟨_, rfl⟩
          rw [hr] at D3 dg hr0
          clear hc2 hr
          generalize tc d y k = c at *
          generalize rdg y k = dk at *
          have hp0 : d * dk ≤ 9999 * 9999 := Nat.mul_le_mul (by omega) (by omega)
          obtain ⟨p, hp⟩ : ∃ p, d * dk = p := ⟨_, rfl⟩
          have hpi : (d : Int) * (dk : Int) = (p : Int) := by rw [← hp]; simp
          rw [hp] at dg nx_ hp0
          have m1 : ((c : Int) + (p : Int)).tmod 10000 = (r : Int) := by rw [Int.tmod_eq_emod_of_nonneg (by omega)]; omega
          have m2 : ((c : Int) + (p : Int)).tdiv 10000 = (c2 : Int) := by rw [Int.tdiv_eq_ediv_of_nonneg (by omega)]; omega
          have HD3 := Lib.hid D3
          have HR := Lib.hid hrow
          clear D3 dg nx_ hp hrow hw
          go_upto_region 12 with (go_quiet (fail))
          go_wp2_with (at_builtin; refine wpList_append_own _ rfl _ _ 89 rfl E 3 i0 (.int .i64 0) 1 8 Tryz.underlying89 hi0 hz0 hz1 hz2 rfl (by decide) _ _ _ rfl ((own_up _ HR.out).alloc _) ⟨wr.heap.size, 0, none⟩ 1 1 [.int .i64 (r : Int)] rfl rfl (by first | exact cell_one_new _ _ _ | simpa using cell_one_new (wr.drewN _) (.int .i64 (r : Int)) 3) (by simp [Value.oneCell']) (by unfold maxLen; omega) (by omega) (by simp; omega) ?_; intro v' w6 hown' hgrow _)
          have hb6 := grown_below (by first | exact hszk | simpa using hszk) (own_up _ HR.out) hgrow
          go_roundw
          case rel => exact ⟨k + 1, by omega, by go_num, by rw [HC2.out], by rw [← Nat.add_assoc, HD3.out]; simpa using hown', (hb.trans (drew_below _ _ |>.mono hszk)).trans hb6⟩
          case measure => simp [intOf]; omega
        · have hki : ¬ (k : Int) < (ny : Int) := by omega
          have zy : rdg y k = 0 := rdg_high (Nat.lt_of_lt_of_le HY.out.fits (Nat.pow_le_pow_right (by unfold RB; omega) (by omega)))
          rw [zy, Nat.mul_zero, Nat.add_zero] at dg nx_
          have hth : tc d y k = d * y / RB ^ k := tc_high (Nat.lt_of_lt_of_le HY.out.fits (Nat.pow_le_pow_right (by unfold RB; omega) (by omega)))
          by_cases hc0 : tc d y k = 0
          · have hfit2 : d * y < RB ^ k := by
              rcases Nat.lt_or_ge (d * y) (RB ^ k) with h9 | h9
              · exact h9
              · have := Nat.div_pos h9 (rb_pos k)
                omega
            have hfit3 : RB ^ i * (d * y) < RB ^ (i + k) := by rw [Nat.pow_add]; exact Nat.mul_lt_mul_of_pos_left hfit2 (rb_pos i)
            rw [hc0]
            obtain ⟨sr, cr, br, rfl, hR, _⟩ := rrow_of hrow hfit3
            obtain ⟨so, co, bo, oo, rfl, hO⟩ := HM.out
            have hO2 := hO.below hb (by omega)
            have BO := Lib.hid (both_add so _ co bo oo _ sr (i + k) cr br 0 (RB ^ i * (d * y)) ((x % RB ^ (i + 1)) * y) (by rw [HS.out]; push_cast; omega) wr hO2 hR (by have := HT.out; omega) (by omega))
            obtain ⟨m, hmm⟩ : ∃ m, rnd (x % RB ^ i * y) = m := ⟨_, rfl⟩
            rw [hmm] at BO ⊢
            have hwk : Below D w wr := hw.trans (hb.mono (by omega))
            clear D3 dg nx_ hth hc0 hfit2 hfit3 hR hO hO2 hmm hrow zy hr0 lt1
            go_wp2_with fail
            refine BO.out.mono ?_
            rintro e w7 ⟨⟨v7, rfl, h7⟩, hb7⟩
            go_wp2_with fail
            go_roundw
            case rel => exact ⟨i + 1, by omega, by go_num, h7, hwk.trans (hb7.mono (by have := hwk.size; omega))⟩
            case measure => simp [intOf]; omega
          · have hkn : k ≤ ny := by
              rcases Nat.lt_or_ge ny k with h9 | h9
              · exfalso
                apply hc0
                rw [hth, Nat.div_eq_of_lt]
                exact Nat.lt_of_lt_of_le HFIT.out (Nat.pow_le_pow_right (by unfold RB; omega) h9)
              · exact h9
            obtain ⟨c2, hc2⟩ : ∃ c2, tc d y (k + 1) = c2 := ⟨_, rfl⟩
            have HC2 := Lib.hid hc2
            have lt2 := tc_le d y (k + 1)
            rw [hc2] at nx_ lt2
            obtain ⟨r, hr⟩ : ∃ r, rdg (d * y) k = r := ⟨_, rfl⟩
            rw [hr] at D3 dg hr0
            clear hc2 hr hth zy
            generalize tc d y k = c at *
            have hcp : (0 : Int) < (c : Int) := by omega
            have m1 : (c : Int).tmod 10000 = (r : Int) := by rw [Int.tmod_eq_emod_of_nonneg (by omega)]; omega
            have m2 : (c : Int).tdiv 10000 = (c2 : Int) := by rw [Int.tdiv_eq_ediv_of_nonneg (by omega)]; omega
            have HD3 := Lib.hid D3
            clear D3 dg nx_ hc0 hw
            go_wp2_with (at_builtin; refine wpList_append_own _ rfl _ _ 89 rfl E 3 i0 (.int .i64 0) 1 8 Tryz.underlying89 hi0 hz0 hz1 hz2 rfl (by decide) _ _ _ rfl (hrow.alloc _) ⟨wr.heap.size, 0, none⟩ 1 1 [.int .i64 (r : Int)] rfl rfl (cell_one_new _ _ _) (by simp [Value.oneCell']) (by unfold maxLen; omega) (by omega) (by simp; omega) ?_; intro v' w6 hown' hgrow _)
            have hb6 := grown_below hszk hrow hgrow
            go_roundw
            case rel => exact ⟨k + 1, by omega, by go_num, by rw [HC2.out], by rw [← Nat.add_assoc, HD3.out]; simpa using hown', hb.trans hb6⟩
            case measure => simp [intOf]; omega
    · obtain rfl : i = nx := by omega
      have hxx : x % RB ^ i = x := Nat.mod_eq_of_lt HX.out.fits
      rw [hxx] at hm
      obtain ⟨so, co, bo, oo, rfl, hO⟩ := hm
      have hnz : rnd (x * y) ≤ i + ny := by
        refine Im.nd_le rb2 ?_
        rw [Nat.pow_add]
        exact Nat.mul_lt_mul'' HX.out.fits HY.out.fits
      have hS := Lib.hid (SH.out so (rnd (x * y)) co bo oo wr hO (by omega))
      have HO := Lib.hid hO
      have hii : ¬ (i : Int) < (i : Int) := by omega
      obtain ⟨m, hmm⟩ : ∃ m, rnd (x * y) = m := ⟨_, rfl⟩
      rw [hmm] at hS HO ⊢
      have HMM := Lib.hid hmm
      clear hxx hnz hO hmm
      go_wp2_with fail
      refine hS.out.mono ?_
      rintro e w7 ⟨rfl, hww⟩
      subst w7
      go_wp2
      go_ret
      exact ⟨⟨_, rfl, so, co, bo, oo, by rw [HMM.out]; rfl, by rw [HMM.out]; exact HO.out⟩, hw⟩
theorem rtimes_mag (v u : Value) (x y : Nat) (w : World) (hx : RMag w v x) (hy : RMag w u y) (hn : rnd x + rnd y ≤ 100000) :
    Calls Tryz.prog 74 #[v, u] w fun e w' => (∃ v', e = .returned v' ∧ RMag w' v' (x * y)) ∧ Below w.heap.size w w' := by
  obtain ⟨sx, cx, bx, ox, rfl, h1⟩ := hx
  obtain ⟨sy, cy, by_, oy, rfl, h2⟩ := hy
  exact rtimes_any sx _ cx bx ox x sy _ cy by_ oy y w h1 h2 hn
end Go.Proofs.YtnchodofgaaeeaaGreatDoor
