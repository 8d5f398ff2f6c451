/- The reference's times. -/
import Derived.Test.YthdoadkdofgenaaGreatDoorImYd
import Derived.Test.YthdoadkdofgenaaGreatDoorImM
import Derived.Deep.AppendLies
namespace Go.Proofs.YthdoadkdofgenaaGreatDoor
open Go Go.RowKit Go.Shelf

/-- The carry in the row of factor d at place k. -/
def tc (d y k : Nat) : Nat := d * (y % RB ^ k) / RB ^ k
theorem tc_zero (d y : Nat) : tc d y 0 = 0 := by simp [tc, Nat.mod_one]
theorem tc_le (d y k : Nat) : tc d y k ≤ d := by
  unfold tc
  have hp := rb_pos k
  refine Nat.le_of_lt_succ ((Nat.div_lt_iff_lt_mul hp).2 ?_)
  have h1 : d * (y % RB ^ k) ≤ d * RB ^ k := Nat.mul_le_mul_left _ (Nat.le_of_lt (Nat.mod_lt y hp))
  rw [Nat.succ_mul]
  omega
theorem tc_arg (d y k : Nat) : d * (y % RB ^ (k + 1)) = d * (y % RB ^ k) + RB ^ k * (d * rdg y k) := by
  rw [rmod_succ y k, Nat.mul_add, Nat.mul_left_comm]
theorem tc_digit (d y k : Nat) : (tc d y k + d * rdg y k) % 10000 = rdg (d * y) k := by
  have h := Im.carry_digit rb2 0 (d * (y % RB ^ k)) (d * rdg y k) k
  rw [← tc_arg, Nat.zero_mod, Nat.zero_add, show Im.dg RB 0 k = 0 by unfold Im.dg; simp, Nat.add_zero, Nat.zero_add] at h
  refine Eq.trans h (Im.dg_mod ?_)
  simp [Nat.mul_mod]
theorem tc_next (d y k : Nat) : (tc d y k + d * rdg y k) / 10000 = tc d y (k + 1) := by
  have h := Im.carry_next rb2 0 (d * (y % RB ^ k)) (d * rdg y k) k
  rw [← tc_arg, Nat.zero_mod, Nat.zero_add, show Im.dg RB 0 k = 0 by unfold Im.dg; simp, Nat.add_zero, Nat.zero_mod, Nat.zero_add] at h
  exact h
theorem tc_high {d y k : Nat} (hy : y < RB ^ k) : tc d y k = d * y / RB ^ k := by unfold tc; rw [Nat.mod_eq_of_lt hy]
theorem rdg_shift (P i k : Nat) : rdg (RB ^ i * P) (i + k) = rdg P k := by
  unfold rdg Im.dg
  rw [Nat.pow_add, Nat.mul_div_mul_left _ _ (rb_pos i)]
theorem rdg_low (P i j : Nat) (h : j < i) : rdg (RB ^ i * P) j = 0 := by
  unfold rdg Im.dg
  obtain ⟨q, rfl⟩ : ∃ q, i = j + (q + 1) := ⟨i - j - 1, by omega⟩
  rw [Nat.pow_add, Nat.mul_assoc, Nat.mul_div_cancel_left _ (rb_pos j), Nat.pow_succ, Nat.mul_right_comm, Nat.mul_comm _ RB, Nat.mul_mod_right]
theorem own_zero (W : World) (P i : Nat) (hi : i ≤ 1000000) : (W.alloc (.cells (madeCells #[.int .i64 0] (i * 1)) 3)).ownsRow W.heap.size 3 1 (.slice (some ⟨W.heap.size, 0, none⟩) i i) i (rpcs (RB ^ i * P) i) := by
  have e : rpcs (RB ^ i * P) i = List.replicate i (.int .i64 0) := by
    apply List.ext_getElem
    · simp [rpcs]
    · intro j h1 h2
      have hj : j < i := by simpa [rpcs] using h1
      simp [rpcs, rdg_low P i j hj]
  rw [e]
  refine ⟨by simp, .inr ⟨W.heap.size, i, _, rfl, Nat.le_refl _, heap_at rfl, Nat.le_refl _, by unfold maxLen; omega, ?_, ?_⟩⟩
  · rw [← Array.length_toList, toList_madeCells_one]; simp
  · rw [toList_madeCells_one]; simp
theorem own_up {W : World} {b0 : Nat} {v : Value} {k : Nat} {xs : List Value} (q : Nat) (h : W.ownsRow b0 3 1 v k xs) : (W.drewN q).ownsRow b0 3 1 v k xs := h

set_option maxRecDepth 100000 in
set_option maxHeartbeats 4000000 in
theorem rtimes_any (sx : Option Addr) (nx cx bx ox x : Nat) (sy : Option Addr) (ny cpy by_ oy y : Nat) (w : World) (hx : RRow w sx nx cx bx ox x) (hy : RRow w sy ny cpy by_ oy y) (hn : nx + ny ≤ 100000) :
    Calls Tryz.prog 83 #[.slice sx nx cx, .slice sy ny cpy] w fun e w' => (∃ v, e = .returned v ∧ RMag w' v (x * y)) ∧ Below w.heap.size w w' := by
  obtain ⟨i0, hi0, hz0, hz1, hz2⟩ := info_parts info_int
  have HX := Lib.hid hx
  have HY := Lib.hid hy
  have hcx := hx.cap
  have hcy := hy.cap
  have SH := Lib.hid (fun sa n cap b o W h hn => short_any sa n cap b o (x * y) W h hn)
  clear hx hy
  obtain ⟨D, hD⟩ : ∃ D, w.heap.size = D := ⟨_, rfl⟩
  rw [hD]
  go_enter Tryz.func83, Tryz.ntmps83
  go_wp2_with fail
  go_loopw [5, 6] (fun v i wr => ∃ i' : Nat, i' ≤ nx ∧ i = .int .i64 (i' : Int) ∧ RMag wr v ((x % RB ^ i') * y) ∧ Below D w wr) (fun _ i _ => nx - (intOf i).toNat)
  case atStart => exact ⟨0, Nat.zero_le _, rfl, ⟨none, 0, 0, 0, by rw [Nat.pow_zero, Nat.mod_one, Nat.zero_mul, rnd_zero], by rw [Nat.pow_zero, Nat.mod_one, Nat.zero_mul, rnd_zero]; exact ⟨Nat.le_refl _, fun p => absurd p (Nat.lt_irrefl _), fun p => absurd p (Nat.lt_irrefl _), fun k hk => absurd hk (Nat.not_lt_zero _), Nat.one_pos⟩⟩, Below.refl _ _⟩
  case round =>
    obtain ⟨i, hi, rfl, hm, hw⟩ := hrel
    by_cases h1 : i < nx
    · obtain ⟨wo, hwo⟩ : ∃ wo, wo = wr := ⟨_, rfl⟩
      subst hwo
      have hii : (i : Int) < (nx : Int) := by omega
      have hsz := hw.size
      have ld := rdg_lt x i
      have hS : (x % RB ^ (i + 1)) * y = (x % RB ^ i) * y + RB ^ i * (rdg x i * y) := by
        rw [rmod_succ x i, Nat.add_mul, Nat.mul_assoc]
      have HS := Lib.hid hS
      have hfit : rdg x i * y < RB ^ (ny + 1) := by
        rw [Nat.pow_succ, Nat.mul_comm]
        exact Nat.mul_lt_mul'' HY.out.fits ld
      have hT : rnd ((x % RB ^ i) * y) ≤ i + ny := by
        refine Im.nd_le rb2 ?_
        rw [Nat.pow_add]
        exact Nat.mul_lt_mul'' (Nat.mod_lt _ (rb_pos i)) HY.out.fits
      have HT := Lib.hid hT
      have HFIT := Lib.hid hfit
      have ca := (hw.cell (p := ⟨bx, ox + i, none⟩) (by have := HX.out.lt (by omega); show bx < D; omega)).trans (HX.out.cell i h1)
      obtain rfl := HX.out.at_ (by omega)
      have hmk : (Instr.makeSlice 120 (.int .i64 (i : Int)) (.int .i64 (i : Int))).run Tryz.prog wo = .ok (.slice (some ⟨wo.heap.size, 0, none⟩) i i) (wo.alloc (.cells (madeCells #[.int .i64 0] (i * 1)) 3)) := by
        have := run_makeSlice (P := Tryz.prog) wo 120 3 i0 (.int .i64 0) Tryz.underlying120 hi0 hz0 .i64 .i64 (i : Int) (i : Int) (by omega) (by omega) (by rw [hz1]; simp; omega) (by rw [hz2]; omega) (by omega)
        rw [hz1] at this
        simpa [Value.cells] using this
      have ho0 := own_zero wo (rdg x i * y) i (by omega)
      have hb0 : Below wo.heap.size wo (wo.alloc (.cells (madeCells #[.int .i64 0] (i * 1)) 3)) := (Below.refl _ _).alloc (Nat.le_refl _) _
      obtain ⟨d, hd⟩ : ∃ d, rdg x i = d := ⟨_, rfl⟩
      rw [hd] at HS HFIT ld ca ho0
      have HM := Lib.hid hm
      obtain ⟨E, hE⟩ : ∃ E, wo.heap.size = E := ⟨_, rfl⟩
      rw [hE] at ho0 hb0 hmk
      obtain ⟨W1, hW1⟩ : ∃ W1, (wo.alloc (.cells (madeCells #[.int .i64 0] (i * 1)) 3)) = W1 := ⟨_, rfl⟩
      rw [hW1] at ho0 hb0 hmk
      have HO := Lib.hid ho0
      have HB := Lib.hid hb0
      have HDG := Lib.hid (fun k => tc_digit d y k)
      have HNX := Lib.hid (fun k => tc_next d y k)
      clear hS hfit hT hm hd hW1 ho0 hb0
      go_wp2_with fail
      go_loopw [7, 8, 9] (fun r c k wk => ∃ k' : Nat, k' ≤ ny + 1 ∧ k = .int .i64 (k' : Int) ∧ c = .int .i64 (tc d y k' : Nat) ∧ wk.ownsRow E 3 1 r (i + k') (rpcs (RB ^ i * (d * y)) (i + k')) ∧ Below E wo wk) (fun _ _ k _ => ny + 2 - (intOf k).toNat)
      case atStart => exact ⟨0, Nat.zero_le _, rfl, by rw [tc_zero]; rfl, HO.out, HB.out⟩
      case round =>
        obtain ⟨k, hk, rfl, rfl, hrow, hb⟩ := hrel
        have hszk := hb.size
        rw [hE] at hszk
        have lt1 := tc_le d y k
        have D3 := rpcs_succ (RB ^ i * (d * y)) (i + k)
        rw [rdg_shift] at D3
        have dg := HDG.out k
        have nx_ := HNX.out k
        have hr0 := rdg_lt (d * y) k
        by_cases h2 : k < ny
        · have hki : (k : Int) < (ny : Int) := by omega
          have hwk : Below D w wr := hw.trans (hb.mono (by omega))
          have cb := (hwk.cell (p := ⟨by_, oy + k, none⟩) (by have := HY.out.lt (by omega); show by_ < D; omega)).trans (HY.out.cell k h2)
          have ca2 := (hb.cell (p := ⟨bx, ox + i, none⟩) (by rw [← hE]; have := HX.out.lt (by omega); show bx < _; omega)).trans ca
          obtain rfl := HY.out.at_ (by omega)
          have ll := rdg_lt y k
          obtain ⟨c2, hc2⟩ : ∃ c2, tc d y (k + 1) = c2 := ⟨_, rfl⟩
          have HC2 := Lib.hid hc2
          have lt2 := tc_le d y (k + 1)
          rw [hc2] at nx_ lt2
          obtain ⟨r, hr⟩ : ∃ r, rdg (d * y) k = r := ⟨_, rfl⟩
          rw [hr] at D3 dg hr0
          clear hc2 hr
          generalize tc d y k = c at *
          generalize rdg y k = dk at *
          have hp0 : d * dk ≤ 9999 * 9999 := Nat.mul_le_mul (by omega) (by omega)
          obtain ⟨p, hp⟩ : ∃ p, d * dk = p := ⟨_, rfl⟩
          have hpi : (d : Int) * (dk : Int) = (p : Int) := by rw [← hp]; simp
          rw [hp] at dg nx_ hp0
          have m1 : ((c : Int) + (p : Int)).tmod 10000 = (r : Int) := by rw [Int.tmod_eq_emod_of_nonneg (by omega)]; omega
          have m2 : ((c : Int) + (p : Int)).tdiv 10000 = (c2 : Int) := by rw [Int.tdiv_eq_ediv_of_nonneg (by omega)]; omega
          have HD3 := Lib.hid D3
          have HR := Lib.hid hrow
          clear D3 dg nx_ hp hrow hw
          go_upto_region 12 with (go_quiet (fail))
          go_wp2_with (at_builtin; refine wpList_append_own _ rfl _ _ 120 rfl E 3 i0 (.int .i64 0) 1 8 Tryz.underlying120 hi0 hz0 hz1 hz2 rfl (by decide) _ _ _ rfl ((own_up _ HR.out).alloc _) ⟨wr.heap.size, 0, none⟩ 1 1 [.int .i64 (r : Int)] rfl rfl (by first | exact cell_one_new _ _ _ | simpa using cell_one_new (wr.drewN _) (.int .i64 (r : Int)) 3) (by simp [Value.oneCell']) (by unfold maxLen; omega) (by omega) (by simp; omega) ?_; intro v' w6 hown' hgrow _)
          have hb6 := grown_below (by first | exact hszk | simpa using hszk) (own_up _ HR.out) hgrow
          go_roundw
          case rel => exact ⟨k + 1, by omega, by go_num, by rw [HC2.out], by rw [← Nat.add_assoc, HD3.out]; simpa using hown', (hb.trans (drew_below _ _ |>.mono hszk)).trans hb6⟩
          case measure => simp [intOf]; omega
        · have hki : ¬ (k : Int) < (ny : Int) := by omega
          have zy : rdg y k = 0 := rdg_high (Nat.lt_of_lt_of_le HY.out.fits (Nat.pow_le_pow_right (by unfold RB; omega) (by omega)))
          rw [zy, Nat.mul_zero, Nat.add_zero] at dg nx_
          have hth : tc d y k = d * y / RB ^ k := tc_high (Nat.lt_of_lt_of_le HY.out.fits (Nat.pow_le_pow_right (by unfold RB; omega) (by omega)))
          by_cases hc0 : tc d y k = 0
          · have hfit2 : d * y < RB ^ k := by
              rcases Nat.lt_or_ge (d * y) (RB ^ k) with h9 | h9
              · exact h9
              · have := Nat.div_pos h9 (rb_pos k)
                omega
            have hfit3 : RB ^ i * (d * y) < RB ^ (i + k) := by rw [Nat.pow_add]; exact Nat.mul_lt_mul_of_pos_left hfit2 (rb_pos i)
            rw [hc0]
            obtain ⟨sr, cr, br, rfl, hR, _⟩ := rrow_of hrow hfit3
            obtain ⟨so, co, bo, oo, rfl, hO⟩ := HM.out
            have hO2 := hO.below hb (by omega)
            have BO := Lib.hid (both_add so _ co bo oo _ sr (i + k) cr br 0 (RB ^ i * (d * y)) ((x % RB ^ (i + 1)) * y) (by rw [HS.out]; push_cast; omega) wr hO2 hR (by have := HT.out; omega) (by omega))
            obtain ⟨m, hmm⟩ : ∃ m, rnd (x % RB ^ i * y) = m := ⟨_, rfl⟩
            rw [hmm] at BO ⊢
            have hwk : Below D w wr := hw.trans (hb.mono (by omega))
            clear D3 dg nx_ hth hc0 hfit2 hfit3 hR hO hO2 hmm hrow zy hr0 lt1
            go_wp2_with fail
            refine BO.out.mono ?_
            rintro e w7 ⟨⟨v7, rfl, h7⟩, hb7⟩
            go_wp2_with fail
            go_roundw
            case rel => exact ⟨i + 1, by omega, by go_num, h7, hwk.trans (hb7.mono (by have := hwk.size; omega))⟩
            case measure => simp [intOf]; omega
          · have hkn : k ≤ ny := by
              rcases Nat.lt_or_ge ny k with h9 | h9
              · exfalso
                apply hc0
                rw [hth, Nat.div_eq_of_lt]
                exact Nat.lt_of_lt_of_le HFIT.out (Nat.pow_le_pow_right (by unfold RB; omega) h9)
              · exact h9
            obtain ⟨c2, hc2⟩ : ∃ c2, tc d y (k + 1) = c2 := ⟨_, rfl⟩
            have HC2 := Lib.hid hc2
            have lt2 := tc_le d y (k + 1)
            rw [hc2] at nx_ lt2
            obtain ⟨r, hr⟩ : ∃ r, rdg (d * y) k = r := ⟨_, rfl⟩
            rw [hr] at D3 dg hr0
            clear hc2 hr hth zy
            generalize tc d y k = c at *
            have hcp : (0 : Int) < (c : Int) := by omega
            have m1 : (c : Int).tmod 10000 = (r : Int) := by rw [Int.tmod_eq_emod_of_nonneg (by omega)]; omega
            have m2 : (c : Int).tdiv 10000 = (c2 : Int) := by rw [Int.tdiv_eq_ediv_of_nonneg (by omega)]; omega
            have HD3 := Lib.hid D3
            clear D3 dg nx_ hc0 hw
            go_wp2_with (at_builtin; refine wpList_append_own _ rfl _ _ 120 rfl E 3 i0 (.int .i64 0) 1 8 Tryz.underlying120 hi0 hz0 hz1 hz2 rfl (by decide) _ _ _ rfl (hrow.alloc _) ⟨wr.heap.size, 0, none⟩ 1 1 [.int .i64 (r : Int)] rfl rfl (cell_one_new _ _ _) (by simp [Value.oneCell']) (by unfold maxLen; omega) (by omega) (by simp; omega) ?_; intro v' w6 hown' hgrow _)
            have hb6 := grown_below hszk hrow hgrow
            go_roundw
            case rel => exact ⟨k + 1, by omega, by go_num, by rw [HC2.out], by rw [← Nat.add_assoc, HD3.out]; simpa using hown', hb.trans hb6⟩
            case measure => simp [intOf]; omega
    · obtain rfl : i = nx := by omega
      have hxx : x % RB ^ i = x := Nat.mod_eq_of_lt HX.out.fits
      rw [hxx] at hm
      obtain ⟨so, co, bo, oo, rfl, hO⟩ := hm
      have hnz : rnd (x * y) ≤ i + ny := by
        refine Im.nd_le rb2 ?_
        rw [Nat.pow_add]
        exact Nat.mul_lt_mul'' HX.out.fits HY.out.fits
      have hS := Lib.hid (SH.out so (rnd (x * y)) co bo oo wr hO (by omega))
      have HO := Lib.hid hO
      have hii : ¬ (i : Int) < (i : Int) := by omega
      obtain ⟨m, hmm⟩ : ∃ m, rnd (x * y) = m := ⟨_, rfl⟩
      rw [hmm] at hS HO ⊢
      have HMM := Lib.hid hmm
      clear hxx hnz hO hmm
      go_wp2_with fail
      refine hS.out.mono ?_
      rintro e w7 ⟨rfl, hww⟩
      subst w7
      go_wp2
      go_ret
      exact ⟨⟨_, rfl, so, co, bo, oo, by rw [HMM.out]; rfl, by rw [HMM.out]; exact HO.out⟩, hw⟩
theorem rtimes_mag (v u : Value) (x y : Nat) (w : World) (hx : RMag w v x) (hy : RMag w u y) (hn : rnd x + rnd y ≤ 100000) :
    Calls Tryz.prog 83 #[v, u] w fun e w' => (∃ v', e = .returned v' ∧ RMag w' v' (x * y)) ∧ Below w.heap.size w w' := by
  obtain ⟨sx, cx, bx, ox, rfl, h1⟩ := hx
  obtain ⟨sy, cy, by_, oy, rfl, h2⟩ := hy
  exact rtimes_any sx _ cx bx ox x sy _ cy by_ oy y w h1 h2 hn
end Go.Proofs.YthdoadkdofgenaaGreatDoor
/- The reference's group. -/
namespace Go.Proofs.YthdoadkdofgenaaGreatDoor
open Go Go.RowKit Go.Shelf

/-- What each operation of 'out, s = append(out, n), s[:len(s)-4]' yields. -/
def grpInv (out x : Value) (s t : ByteArray) (n m : Int) : Nat → Value → Prop := fun j v => match j with
  | 0 => v = out
  | 1 => v = x
  | 4 => v = .string s
  | 5 => v = .string s
  | 6 => v = .int .i64 n
  | 7 => v = .int .i64 m
  | 8 => v = .string t
  | 10 => v = .string t
  | _ => True
structure GrpI (ops : Array Oper) (w : World) (B j : Nat) (out x sv0 : Value) (xs : List Value) (Inv : Nat → Value → Prop) (L : Nat → Bool) (ys : Nat → Value) (W : World) : Prop where
  below : Below B w W
  size : B ≤ W.heap.size
  old : L 3 = false → W.ownsRow B 3 1 out j xs
  new : L 3 = true → W.ownsRow B 3 1 (ys 3) (j + 1) (xs ++ [x])
  box : L 2 = true → L 3 = false → ∃ b, ys 2 = .slice (some ⟨b, 0, none⟩) 1 1 ∧ W.heap[b]? = some (.cells #[x] 3)
  vals : ∀ i, i ≠ 2 → i ≠ 3 → i ≠ 9 → L i = true → Inv i (ys i)
  nine : L 9 = true → ys 9 = ys 3
  u9 : L 9 = false → ys 9 = out
  u10 : L 10 = false → ys 10 = sv0
  clo : ∀ j o, ops[j]? = some o → L j = true → ∀ e ∈ o.after, Region.binds .any e = true → L e.on = true
section
variable {ops : Array Oper} {w : World} {B j : Nat} {out x sv0 : Value} {xs : List Value} {Inv : Nat → Value → Prop} {L : Nat → Bool} {ys : Nat → Value} {W : World}
theorem GrpI.need (h : GrpI ops w B j out x sv0 xs Inv L ys W) (k : Nat) {o : Oper} (ho : ops[k]? = some o) {i : Nat} (hw : waitsB .any o i = true) (hk : L k = true) : L i = true := waits_at (h.clo k o ho hk) hw
theorem GrpI.other (h : GrpI ops w B j out x sv0 xs Inv L ys W) {i : Nat} {o : Oper} (ho : ops[i]? = some o) (ha : ∀ e ∈ o.after, Region.binds .any e = true → L e.on = true) (h2 : i ≠ 2) (h3 : i ≠ 3) (h9 : i ≠ 9) {v : Value} (hv : Inv i v) :
    GrpI ops w B j out x sv0 xs Inv (upd L i true) (upd ys i v) W where
  below := h.below
  size := h.size
  old := by rw [upd_ne _ _ (Ne.symm h3)]; exact h.old
  new := by rw [upd_ne _ _ (Ne.symm h3), upd_ne _ _ (Ne.symm h3)]; exact h.new
  box := by rw [upd_ne _ _ (Ne.symm h3), upd_ne _ _ (Ne.symm h2), upd_ne _ _ (Ne.symm h2)]; exact h.box
  vals := fun k k2 k3 k9 hk => by
    by_cases e : k = i
    · subst e; rw [upd_same]; exact hv
    · rw [upd_ne _ _ e] at hk ⊢; exact h.vals k k2 k3 k9 hk
  nine := by rw [upd_ne _ _ (Ne.symm h3), upd_ne _ _ (Ne.symm h9), upd_ne _ _ (Ne.symm h9)]; exact h.nine
  u9 := by rw [upd_ne _ _ (Ne.symm h9), upd_ne _ _ (Ne.symm h9)]; exact h.u9
  u10 := by
    by_cases e : 10 = i
    · subst e; rw [upd_same]; intro e; cases e
    · rw [upd_ne _ _ e, upd_ne _ _ e]; exact h.u10
  clo := clo_upd ho ha h.clo
theorem GrpI.nineth (h : GrpI ops w B j out x sv0 xs Inv L ys W) {o : Oper} (ho : ops[9]? = some o) (ha : ∀ e ∈ o.after, Region.binds .any e = true → L e.on = true) :
    GrpI ops w B j out x sv0 xs Inv (upd L 9 true) (upd ys 9 (ys 3)) W where
  below := h.below
  size := h.size
  old := by rw [upd_ne _ _ (by decide)]; exact h.old
  new := by rw [upd_ne _ _ (by decide), upd_ne _ _ (by decide)]; exact h.new
  box := by rw [upd_ne _ _ (by decide), upd_ne _ _ (by decide), upd_ne _ _ (by decide)]; exact h.box
  vals := fun k k2 k3 k9 hk => by rw [upd_ne _ _ k9] at hk ⊢; exact h.vals k k2 k3 k9 hk
  nine := fun _ => by rw [upd_same, upd_ne _ _ (by decide)]
  u9 := by rw [upd_same]; intro e; cases e
  u10 := by rw [upd_ne _ _ (by decide), upd_ne _ _ (by decide)]; exact h.u10
  clo := clo_upd ho ha h.clo
theorem GrpI.boxed (h : GrpI ops w B j out x sv0 xs Inv L ys W) {o : Oper} (ho : ops[2]? = some o) (ha : ∀ e ∈ o.after, Region.binds .any e = true → L e.on = true) (hL : L 3 = false) :
    GrpI ops w B j out x sv0 xs Inv (upd L 2 true) (upd ys 2 (.slice (some ⟨W.heap.size, 0, none⟩) 1 1)) (W.alloc (.cells #[x] 3)) where
  below := h.below.alloc h.size _
  size := by have := h.size; simp; omega
  old := fun _ => (h.old hL).alloc _
  new := by rw [upd_ne _ _ (by decide), hL]; intro e; cases e
  box := fun _ _ => ⟨W.heap.size, upd_same _ _ _, heap_at rfl⟩
  vals := fun k k2 k3 k9 hk => by rw [upd_ne _ _ k2] at hk ⊢; exact h.vals k k2 k3 k9 hk
  nine := by rw [upd_ne _ _ (by decide), upd_ne _ _ (by decide), upd_ne _ _ (by decide)]; exact h.nine
  u9 := by rw [upd_ne _ _ (by decide), upd_ne _ _ (by decide)]; exact h.u9
  u10 := by rw [upd_ne _ _ (by decide), upd_ne _ _ (by decide)]; exact h.u10
  clo := clo_upd ho ha h.clo
theorem GrpI.appended {W' : World} (h : GrpI ops w B j out x sv0 xs Inv L ys W) {o : Oper} (ho : ops[3]? = some o) (ha : ∀ e ∈ o.after, Region.binds .any e = true → L e.on = true) (hL : L 3 = false) (hL9 : L 9 = false) {v : Value}
    (hown : W'.ownsRow B 3 1 v (j + 1) (xs ++ [x])) (hg : W.grownBy W' out.ownBlock) :
    GrpI ops w B j out x sv0 xs Inv (upd L 3 true) (upd ys 3 v) W' where
  below := h.below.grown hg h.size (fun g hgv => ((h.old hL).lt g hgv).1)
  size := Nat.le_trans h.size hg.size
  old := by rw [upd_same]; intro e; cases e
  new := fun _ => by rw [upd_same]; exact hown
  box := by rw [upd_same]; intro _ e; cases e
  vals := fun k k2 k3 k9 hk => by rw [upd_ne _ _ k3] at hk ⊢; exact h.vals k k2 k3 k9 hk
  nine := by
    intro e
    rw [upd_ne _ _ (by decide), hL9] at e
    cases e
  u9 := by rw [upd_ne _ _ (by decide), upd_ne _ _ (by decide)]; exact h.u9
  u10 := by rw [upd_ne _ _ (by decide), upd_ne _ _ (by decide)]; exact h.u10
  clo := clo_upd ho ha h.clo
theorem GrpI.start (hn : ops.size = 11) (h1 : Below B w W) (h2 : B ≤ W.heap.size) (h3 : W.ownsRow B 3 1 out j xs) (h9 : ys 9 = out) (h10 : ys 10 = sv0) (HV : ∀ i, 11 ≤ i → Inv i (ys i)) : GrpI ops w B j out x sv0 xs Inv (fun i => decide (ops.size ≤ i)) ys W where
  below := h1
  size := h2
  old := fun _ => h3
  new := fun e => by have := of_decide_eq_true e; omega
  box := fun e => by have := of_decide_eq_true e; omega
  vals := fun i _ _ _ hi => by
    have h4 := of_decide_eq_true hi
    exact HV i (by omega)
  nine := fun e => by have := of_decide_eq_true e; omega
  u9 := fun _ => h9
  u10 := fun _ => h10
  clo := fun j o ho hj => by
    have h4 := (Array.getElem?_eq_some_iff.1 ho).1
    have h5 := of_decide_eq_true hj
    omega
end
theorem own_below {W W' : World} {B k : Nat} {e : TypeId} {v : Value} {xs : List Value} (h : W.ownsRow B e 1 v k xs) (hb : Below W.heap.size W W') : W'.ownsRow B e 1 v k xs := by
  refine ⟨h.1, h.2.imp id ?_⟩
  rintro ⟨g, cap, cur, rfl, h1, h2, h3⟩
  exact ⟨g, cap, cur, rfl, h1, (hb.block g (Array.getElem?_eq_some_iff.1 h2).1).trans h2, h3⟩

theorem take_block {s : ByteArray} {c : Nat} (hc : c + 4 ≤ s.size) (ha : s.data.toList.all Im.isD = true) :
    Im.valL (s.extract (s.size - c - 4) (s.size - c)).data.toList = Im.valL s.data.toList / 10 ^ c % 10 ^ 4 := by
  rw [extract_list, ← size_list]
  exact Im.val_block ha (by rw [size_list]; exact hc)

set_option maxRecDepth 100000 in
set_option maxHeartbeats 4000000 in
theorem group_any (s : ByteArray) (hs : s.size ≤ 100000) (h1 : 1 ≤ s.size) (ha : s.data.toList.all Im.isD = true) (w : World) :
    Calls Tryz.prog 84 #[.string s] w fun e w' => (∃ v, e = .returned v ∧ RMag w' v (Im.valL s.data.toList)) ∧ Below w.heap.size w w' := by
  obtain ⟨i0, hi0, hz0, hz1, hz2⟩ := info_parts info_int
  have A := Lib.hid (fun (t : ByteArray) (h1 : 1 ≤ t.size) (h2 : t.size ≤ 18) (h3 : t.data.toList.all Im.isD = true) W => Tryz.strconv_Atoi_ok t (by omega) (Im.valL t.data.toList : Int) (atoi_digits (by intro e; have := size_list t; rw [e] at this; simp at this; omega) h3 h2) W)
  obtain ⟨X, hX⟩ : ∃ X, Im.valL s.data.toList = X := ⟨_, rfl⟩
  have hblk : ∀ j, 4 * j + 4 ≤ s.size → Im.valL (s.extract (s.size - 4 * j - 4) (s.size - 4 * j)).data.toList = rdg X j := fun j hj => by
    rw [take_block hj ha, hX]
    unfold rdg Im.dg
    rw [Nat.pow_mul]; rfl
  have htop : ∀ j, 4 * j < s.size → s.size ≤ 4 * j + 4 → Im.valL (s.extract 0 (s.size - 4 * j)).data.toList = rdg X j ∧ X < RB ^ (j + 1) := fun j h2 h3 => by
    have hlt := Im.val_lt ha
    rw [size_list, hX] at hlt
    have hp : (10 : Nat) ^ s.size ≤ RB ^ (j + 1) := by
      rw [show RB = 10 ^ 4 from rfl, ← Nat.pow_mul]
      exact Nat.pow_le_pow_right (by decide) (by omega)
    have hfit : X < RB ^ (j + 1) := Nat.lt_of_lt_of_le hlt hp
    refine ⟨?_, hfit⟩
    rw [extract_list, List.drop_zero]
    have := Im.val_take ha (k := 4 * j) (by rw [size_list]; omega)
    rw [size_list, hX] at this
    rw [this]
    unfold rdg Im.dg
    rw [Nat.pow_mul, show (10 : Nat) ^ 4 = RB from rfl, Nat.mod_eq_of_lt]
    rw [Nat.div_lt_iff_lt_mul (rb_pos j), Nat.mul_comm, ← Nat.pow_succ]
    exact hfit
  have hall : ∀ i j, (s.extract i j).data.toList.all Im.isD = true := fun i j => by
    rw [extract_list]; exact Im.all_drop (Im.all_take ha _) _
  have hext : ∀ i j, j ≤ s.size → (s.extract i j).size = j - i := fun i j hj => by rw [← size_list, extract_list, List.length_drop, List.length_take, size_list]; omega
  have hee : ∀ i j k, j ≤ k → k ≤ s.size → (s.extract 0 k).extract i j = s.extract i j := fun i j k h2 h3 => by
    apply ext_bytes
    rw [extract_list, extract_list, extract_list, List.drop_zero, List.take_take, Nat.min_eq_left h2]
  rw [hX]
  have HBLK := Lib.hid hblk
  have HTOP := Lib.hid htop
  have HALL := Lib.hid hall
  have HEXT := Lib.hid hext
  have HEE := Lib.hid hee
  have SH := Lib.hid (fun sa n cap b o W h hn => short_any sa n cap b o X W h hn)
  have hs0 : s = s.extract 0 s.size := by
    apply ext_bytes
    rw [extract_list, ← size_list, List.take_length, List.drop_zero]
  have HS0 := Lib.hid hs0
  clear hX hblk htop hall hext hee ha hs0
  obtain ⟨D, hD⟩ : ∃ D, w.heap.size = D := ⟨_, rfl⟩
  go_enter Tryz.func84, Tryz.ntmps84
  go_wp2_with fail
  go_loopw [0, 3] (fun d v wr => ∃ j : Nat, 4 * j < s.size ∧ d = .string (s.extract 0 (s.size - 4 * j)) ∧ wr.ownsRow D 3 1 v j (rpcs X j) ∧ Below D w wr) (fun d _ _ => match d with | .string y => y.size | _ => 0)
  case atStart => exact ⟨0, by omega, by rw [Nat.mul_zero, Nat.sub_zero, ← HS0.out], World.ownsRow_nil _ _ _ _, Below.refl _ _⟩
  case round =>
    obtain ⟨j, hj, rfl, hrow, hw⟩ := hrel
    have hsz := hw.size
    rw [hD] at hsz
    have hq := HEXT.out 0 (s.size - 4 * j) (by omega)
    obtain ⟨q, hqq⟩ : ∃ q, s.size - 4 * j = q := ⟨_, rfl⟩
    have D3 := rpcs_succ X j
    have hr0 := rdg_lt X j
    by_cases h2 : 4 * j + 4 < s.size
    · have hb := HBLK.out j (by omega)
      have hxx := HEE.out (q - 4) q q (by omega) (by omega)
      have hyy := HEE.out 0 (q - 4) q (by omega) (by omega)
      have hal := HALL.out (q - 4) q
      have hxs := HEXT.out (q - 4) q (by omega)
      rw [hqq] at hq hb ⊢
      rw [Nat.sub_zero] at hq
      have AA := Lib.hid (fun W => A.out (s.extract (q - 4) q) (by omega) (by omega) hal W)
      rw [hb] at AA
      obtain ⟨S, hS⟩ : ∃ S, s.extract 0 q = S := ⟨_, rfl⟩
      obtain ⟨S1, hS1⟩ : ∃ S1, s.extract (q - 4) q = S1 := ⟨_, rfl⟩
      obtain ⟨S2, hS2⟩ : ∃ S2, s.extract 0 (q - 4) = S2 := ⟨_, rfl⟩
      rw [hS] at hq hxx hyy ⊢
      rw [hS1] at AA hxx
      rw [hS2] at hyy
      have hS2' := Lib.hid hS2
      have HQ := Lib.hid hqq
      have hqi : (4 : Int) < (q : Int) := by omega
      obtain ⟨q4, hq4⟩ : ∃ q4 : Nat, q - 4 = q4 := ⟨_, rfl⟩
      have hq4i : (q : Int) - 4 = (q4 : Int) := by omega
      rw [hq4] at hxx hyy
      have hq5 : q4 ≤ q := by omega
      obtain ⟨r, hr⟩ : ∃ r, rdg X j = r := ⟨_, rfl⟩
      rw [hr] at AA D3 hr0
      have HD3 := Lib.hid D3
      clear hb hal hxs hS hS1 hS2 hr D3
      go_upto_region 4 with (first | (go_at_call 90; with_reducible refine (AA.out _).mono ?_; rintro e w2 ⟨rfl, hw2⟩))
      have hbw2 : Below wr.heap.size wr w2 := by
        rcases hw2 with rfl | ⟨t, rfl⟩
        · exact Below.refl _ _
        · exact Lib.bytesWorld_below _ _ _
      have hrow2 := own_below hrow hbw2
      have hww2 : Below D w w2 := hw.trans (hbw2.mono hsz)
      have hsz2 : D ≤ w2.heap.size := Nat.le_trans hsz hbw2.size
      have HROW2 := Lib.hid hrow2
      have HWW2 := Lib.hid hww2
      have hwr : IntKind.i64.wrap (q4 : Int) = (q4 : Int) := by rw [IntKind.wrap_i64]; omega
      clear hw2 hbw2 hrow hw hrow2 hww2 hsz
      refine wp_region_slots_at rfl rfl (fun base ys => ((((((((((base.set 20 (ys 0)).set 21 (ys 1)).set 22 (ys 2)).set 23 (ys 3)).set 24 (ys 4)).set 25 (ys 5)).set 26 (ys 6)).set 27 (ys 7)).set 28 (ys 8)).set 3 (ys 9)).set 0 (ys 10)) (GrpI _ w D j u3 (.int .i64 (r : Nat)) (.string S) (rpcs X j) (grpInv u3 (.int .i64 (r : Nat)) S S2 (q : Nat) (q4 : Nat))) (fun j => match j with | 0 => u20 | 1 => u21 | 2 => u22 | 3 => u23 | 4 => u24 | 5 => u25 | 6 => u26 | 7 => u27 | 8 => u28 | 9 => u3 | 10 => .string S | _ => undef) (by kernel_rfl) (GrpI.start rfl (HWW2.out.trans (Below.refl _ _).drew) hsz2 HROW2.out rfl rfl (fun i hi => by obtain ⟨k, rfl⟩ : ∃ k, i = k + 11 := ⟨i - 11, by omega⟩; trivial)) ?h
      case h =>
        intro F hF
        simp only [List.set_cons_succ, List.set_cons_zero] at hF
        subst hF
        refine ⟨rfl, ?_, ?_⟩
        refine ⟨?_, ?_⟩
        · intro L ys W hn hd hI K hK
          have l9 : L 9 = false := by
            cases h9 : L 9 with
            | false => rfl
            | true => rw [hI.need 3 rfl (by kernel_rfl) (hI.need 9 rfl (by kernel_rfl) h9)] at hn; cases hn
          have s9 := hI.u9 l9
          go_simp
          have hK2 := hK _ _ (hI.other (i := 0) (v := u3) rfl hd (by decide) (by decide) (by decide) rfl)
          simp (config := { decide := true }) only [upd, if_false, if_true, s9] at hK2
          exact hK2
        refine ⟨?_, ?_⟩
        · intro L ys W hn hd hI K hK
          go_simp
          have hK2 := hK _ _ (hI.other (i := 1) (v := .int .i64 (r : Nat)) rfl hd (by decide) (by decide) (by decide) rfl)
          simp (config := { decide := true }) only [upd, if_false, if_true] at hK2
          exact hK2
        refine ⟨?_, ?_⟩
        · intro L ys W hn hd hI K hK
          have d1 : ys 1 = .int .i64 (r : Nat) := hI.vals 1 (by decide) (by decide) (by decide) (waits_at hd (by kernel_rfl))
          have l3 : L 3 = false := by
            cases h9 : L 3 with
            | false => rfl
            | true => rw [hI.need 3 rfl (by kernel_rfl) h9] at hn; cases hn
          go_simp
          have hK2 := hK _ _ (hI.boxed rfl hd l3)
          simp (config := { decide := true }) only [upd, if_false, if_true, d1] at hK2
          exact hK2
        refine ⟨?_, ?_⟩
        · intro L ys W hn hd hI K hK
          have d0 : ys 0 = u3 := hI.vals 0 (by decide) (by decide) (by decide) (waits_at hd (by kernel_rfl))
          have l9 : L 9 = false := by
            cases h9 : L 9 with
            | false => rfl
            | true => rw [hI.need 9 rfl (by kernel_rfl) h9] at hn; cases hn
          obtain ⟨b, hb, hbc⟩ := hI.box (waits_at hd (by kernel_rfl)) hn
          refine step_append_lies W rfl (.tmp 20) (.tmp 22) 120 rfl D 3 i0 (.int .i64 0) 1 8 Tryz.underlying120 hi0 hz0 hz1 hz2 rfl (by decide) u3 j (rpcs X j) (by simp [Act.eval, d0]) (hI.old hn) ⟨b, 0, none⟩ 1 1 [.int .i64 (r : Nat)] (by simp [Act.eval, hb]) rfl (World.news_of_block hbc) (by simp [Value.oneCell']) (by decide) (by unfold maxLen; omega) (by omega) hI.size W.heap.size rfl ?_
          intro g cap w' hown hgrow _ _
          have hK2 := hK _ _ (hI.appended rfl hd hn l9 hown hgrow)
          simp (config := { decide := true }) only [upd, if_false, if_true] at hK2
          exact hK2
        refine ⟨?_, ?_⟩
        · intro L ys W hn hd hI K hK
          have l10 : L 10 = false := by
            cases h9 : L 10 with
            | false => rfl
            | true => rw [hI.need 8 rfl (by kernel_rfl) (hI.need 10 rfl (by kernel_rfl) h9)] at hn; cases hn
          have s10 := hI.u10 l10
          go_simp
          have hK2 := hK _ _ (hI.other (i := 4) (v := .string S) rfl hd (by decide) (by decide) (by decide) rfl)
          simp (config := { decide := true }) only [upd, if_false, if_true, s10] at hK2
          exact hK2
        refine ⟨?_, ?_⟩
        · intro L ys W hn hd hI K hK
          have l10 : L 10 = false := by
            cases h9 : L 10 with
            | false => rfl
            | true => rw [hI.need 6 rfl (by kernel_rfl) (hI.need 7 rfl (by kernel_rfl) (hI.need 8 rfl (by kernel_rfl) (hI.need 10 rfl (by kernel_rfl) h9)))] at hn; cases hn
          have s10 := hI.u10 l10
          go_simp
          have hK2 := hK _ _ (hI.other (i := 5) (v := .string S) rfl hd (by decide) (by decide) (by decide) rfl)
          simp (config := { decide := true }) only [upd, if_false, if_true, s10] at hK2
          exact hK2
        refine ⟨?_, ?_⟩
        · intro L ys W hn hd hI K hK
          have d5 : ys 5 = .string S := hI.vals 5 (by decide) (by decide) (by decide) (waits_at hd (by kernel_rfl))
          go_simp
          have hK2 := hK _ _ (hI.other (i := 6) (v := .int .i64 (q : Nat)) rfl hd (by decide) (by decide) (by decide) rfl)
          simp (config := { decide := true }) only [upd, if_false, if_true, d5] at hK2
          exact hK2
        refine ⟨?_, ?_⟩
        · intro L ys W hn hd hI K hK
          have d6 : ys 6 = .int .i64 (q : Nat) := hI.vals 6 (by decide) (by decide) (by decide) (waits_at hd (by kernel_rfl))
          go_simp
          have hK2 := hK _ _ (hI.other (i := 7) (v := .int .i64 (q4 : Nat)) rfl hd (by decide) (by decide) (by decide) rfl)
          simp (config := { decide := true }) only [upd, if_false, if_true, d6] at hK2
          exact hK2
        refine ⟨?_, ?_⟩
        · intro L ys W hn hd hI K hK
          have d4 : ys 4 = .string S := hI.vals 4 (by decide) (by decide) (by decide) (waits_at hd (by kernel_rfl))
          have d7 : ys 7 = .int .i64 (q4 : Nat) := hI.vals 7 (by decide) (by decide) (by decide) (waits_at hd (by kernel_rfl))
          go_simp
          have hK2 := hK _ _ (hI.other (i := 8) (v := .string S2) rfl hd (by decide) (by decide) (by decide) rfl)
          simp (config := { decide := true }) only [upd, if_false, if_true, d4, d7] at hK2
          exact hK2
        refine ⟨?_, ?_⟩
        · intro L ys W hn hd hI K hK
          go_simp
          have hK2 := hK _ _ (hI.nineth rfl hd)
          simp (config := { decide := true }) only [upd, if_false, if_true] at hK2
          exact hK2
        refine ⟨?_, ?_⟩
        · intro L ys W hn hd hI K hK
          have d8 : ys 8 = .string S2 := hI.vals 8 (by decide) (by decide) (by decide) (waits_at hd (by kernel_rfl))
          go_simp
          have hK2 := hK _ _ (hI.other (i := 10) (v := .string S2) rfl hd (by decide) (by decide) (by decide) rfl)
          simp (config := { decide := true }) only [upd, if_false, if_true, d8] at hK2
          exact hK2
        trivial
        intro L2 ys W hL2 hI
        have e3 := hI.new (hL2 3 (by decide))
        have e9 := hI.nine (hL2 9 (by decide))
        have e10 : ys 10 = .string S2 := hI.vals 10 (by decide) (by decide) (by decide) (hL2 10 (by decide))
        have eb := hI.below
        rw [← HD3.out, ← e9] at e3
        have E3 := Lib.hid e3
        have EB := Lib.hid eb
        simp only [e10]
        clear e3 e9 e10 eb hI hL2
        generalize ys 0 = y0 at *
        generalize ys 1 = y1 at *
        generalize ys 2 = y2 at *
        generalize ys 3 = y3 at *
        generalize ys 4 = y4 at *
        generalize ys 5 = y5 at *
        generalize ys 6 = y6 at *
        generalize ys 7 = y7 at *
        generalize ys 8 = y8 at *
        generalize ys 9 = y9 at *
        trace_state
        go_wp2
        go_roundw
        case rel => exact ⟨j + 1, by omega, by rw [← hS2'.out]; congr 2; omega, E3.out, EB.out⟩
        case measure => rw [← hS2'.out]; have := HEXT.out 0 (q - 4) (by omega); simp [this]; omega
    · have hjt := HTOP.out j hj (by omega)
      have hal := HALL.out 0 (s.size - 4 * j)
      rw [hqq] at hq hal hjt ⊢
      rw [Nat.sub_zero] at hq
      obtain ⟨ht1, ht2⟩ := hjt
      have AA := Lib.hid (fun W => A.out (s.extract 0 q) (by omega) (by omega) hal W)
      rw [ht1] at AA
      obtain ⟨S, hS⟩ : ∃ S, s.extract 0 q = S := ⟨_, rfl⟩
      rw [hS] at hq AA ⊢
      have hqi : ¬ (4 : Int) < (q : Int) := by omega
      obtain ⟨r, hr⟩ : ∃ r, rdg X j = r := ⟨_, rfl⟩
      rw [hr] at AA D3 hr0
      have HD3 := Lib.hid D3
      have HT2 := Lib.hid ht2
      have HROW := Lib.hid hrow
      have HW := Lib.hid hw
      clear hal ht1 ht2 hS hr D3 hrow hw
      go_upto_region 6 with (first | (go_at_call 90; with_reducible refine (AA.out _).mono ?_; rintro e w2 ⟨rfl, hw2⟩))
      have hbw2 : Below wr.heap.size wr w2 := by
        rcases hw2 with rfl | ⟨t, rfl⟩
        · exact Below.refl _ _
        · exact Lib.bytesWorld_below _ _ _
      have hrow2 := own_below HROW.out hbw2
      have hww2 : Below D w w2 := HW.out.trans (hbw2.mono hsz)
      have hsz2 : D ≤ w2.heap.size := Nat.le_trans hsz hbw2.size
      clear hw2
      go_wp2_with (at_builtin; refine wpList_append_own _ rfl _ _ 120 rfl D 3 i0 (.int .i64 0) 1 8 Tryz.underlying120 hi0 hz0 hz1 hz2 rfl (by decide) _ _ _ rfl (hrow2.alloc _) ⟨w2.heap.size, 0, none⟩ 1 1 [.int .i64 (r : Nat)] rfl rfl (cell_one_new _ _ _) (by simp [Value.oneCell']) (by unfold maxLen; omega) (by omega) (by simp; omega) ?_; intro v' w6 hown' hgrow _)
      have hb6 := grown_below hsz2 hrow2 hgrow
      have hown6 : w6.ownsRow D 3 1 v' (j + 1) (rpcs X (j + 1)) := by rw [HD3.out]; simpa using hown'
      obtain ⟨sa, cap, b, rfl, hR, _⟩ := rrow_of hown6 HT2.out
      have hSH := Lib.hid (SH.out sa (j + 1) cap b 0 w6 hR (by omega))
      have hRt := Lib.hid hR.trim
      have HFIN := Lib.hid (hww2.trans hb6)
      clear hR hown6 hown' hgrow hb6 hrow2
      go_wp2_with fail
      refine hSH.out.mono ?_
      rintro e w7 ⟨rfl, hww⟩
      subst w7
      go_wp2
      go_ret
      exact ⟨⟨_, rfl, sa, cap, b, 0, rfl, hRt.out⟩, by rw [hD]; exact HFIN.out⟩
end Go.Proofs.YthdoadkdofgenaaGreatDoor
/- The reference's both for differences: the row that it makes is new. -/
namespace Go.Proofs.YthdoadkdofgenaaGreatDoor
open Go Go.RowKit Go.Shelf

/-- The magnitude x at a slice of blocks from number B on. -/
def RMagF (B : Nat) (W : World) (v : Value) (x : Nat) : Prop := ∃ (sa : Option Addr) (cap b o : Nat), v = .slice sa (rnd x) cap ∧ RRow W sa (rnd x) cap b o x ∧ (0 < rnd x → B ≤ b)
theorem RMagF.mag {B : Nat} {W : World} {v : Value} {x : Nat} (h : RMagF B W v x) : RMag W v x := by
  obtain ⟨sa, cap, b, o, h1, h2, _⟩ := h
  exact ⟨sa, cap, b, o, h1, h2⟩
theorem RMagF.below {B C : Nat} {W W' : World} {v : Value} {x : Nat} (h : RMagF B W v x) (hb : Below C W W') (hC : W.heap.size ≤ C) : RMagF B W' v x := by
  obtain ⟨sa, cap, b, o, h1, h2, h3⟩ := h
  exact ⟨sa, cap, b, o, h1, h2.below hb hC, h3⟩
theorem RMagF.call {B : Nat} {W W' : World} {v : Value} {x : Nat} (h : RMagF B W v x) (hb : Below W.heap.size W W') : RMagF B W' v x := h.below hb (Nat.le_refl _)
theorem RMagF.mono {B C : Nat} {W : World} {v : Value} {x : Nat} (h : RMagF B W v x) (hc : C ≤ B) : RMagF C W v x := by
  obtain ⟨sa, cap, b, o, h1, h2, h3⟩ := h
  exact ⟨sa, cap, b, o, h1, h2, fun h => Nat.le_trans hc (h3 h)⟩
theorem RRow.set {W : World} {sa : Option Addr} {n cap b o x : Nat} (h : RRow W sa n cap b o x) (p : Addr) (hp : 0 < n → b ≠ p.block) (v : Value) : RRow (W.setCell p v) sa n cap b o x :=
  ⟨h.cap, h.at_, fun q => by have := h.lt q; simpa [World.setCell] using this, fun k hk => (World.cell?_setCell_other _ _ _ _ (fun e => hp (by omega) (by have := congrArg Addr.block e; simpa using this.symm))).trans (h.cell k hk), h.fits⟩
theorem RMagF.set {B : Nat} {W : World} {v : Value} {x : Nat} (h : RMagF B W v x) (p : Addr) (hp : p.block < B) (u : Value) : RMagF B (W.setCell p u) v x := by
  obtain ⟨sa, cap, b, o, h1, h2, h3⟩ := h
  exact ⟨sa, cap, b, o, h1, h2.set p (fun h => by have := h3 h; omega) u, h3⟩
set_option maxRecDepth 100000 in
set_option maxHeartbeats 4000000 in
theorem both_subF (sx : Option Addr) (nx cx bx ox x : Nat) (sy : Option Addr) (ny cpy by_ oy y z : Nat) (hz : (z : Int) = (x : Int) + (-1) * (y : Int)) (w : World) (hx : RRow w sx nx cx bx ox x) (hy : RRow w sy ny cpy by_ oy y) (hn1 : nx ≤ 200000) (hn2 : ny ≤ 200000) :
    Calls Tryz.prog 87 #[.slice sx nx cx, .slice sy ny cpy, .int .i64 (-1)] w fun e w' => (∃ v, e = .returned v ∧ RMagF w.heap.size w' v z) ∧ Below w.heap.size w w' := by
  obtain ⟨i0, hi0, hz0, hz1, hz2⟩ := info_parts info_int
  have HX := Lib.hid hx
  have HY := Lib.hid hy
  have hcx := hx.cap
  have hcy := hy.cap
  have SH := Lib.hid (fun sa n cap b o W h hn => short_any sa n cap b o z W h hn)
  have HDG := Lib.hid (fun k => cw_digit (s := (-1)) hz k)
  have HNX := Lib.hid (fun k => cw_next (-1) x y k)
  have HBD := Lib.hid (fun k => cw_bounds (s := (-1)) (by decide) x y k)
  have hfx : ∀ k, nx ≤ k → x < RB ^ k := fun k hk => Nat.lt_of_lt_of_le hx.fits (Nat.pow_le_pow_right (by unfold RB; omega) hk)
  have hfy : ∀ k, ny ≤ k → y < RB ^ k := fun k hk => Nat.lt_of_lt_of_le hy.fits (Nat.pow_le_pow_right (by unfold RB; omega) hk)
  have HFX := Lib.hid hfx
  have HFY := Lib.hid hfy
  have hhigh : ∀ k, nx ≤ k → ny ≤ k → cw (-1) x y k = ((z / RB ^ k : Nat) : Int) := fun k h1 h2 => cw_high hz (hfx k h1) (hfy k h2)
  have HH := Lib.hid hhigh
  have hend : ∀ k, nx ≤ k → ny ≤ k → cw (-1) x y (k + 1) = 0 := fun k h1 h2 => by
    rw [hhigh (k + 1) (by omega) (by omega), Nat.div_eq_of_lt]
    · rfl
    · have a1 := hfx k h1
      have a2 := hfy k h2
      rw [Nat.pow_succ]
      generalize RB ^ k = p at *
      unfold RB
      omega
  have HE := Lib.hid hend
  clear hx hy hz hfx hfy hhigh hend
  go_enter Tryz.func87, Tryz.ntmps87
  go_wp2_with fail
  go_loopw [7, 8, 9] (fun v c i wr => ∃ k : Nat, k ≤ nx + ny + 1 ∧ i = .int .i64 (k : Int) ∧ c = .int .i64 (cw (-1) x y k) ∧ wr.ownsRow w.heap.size 3 1 v k (rpcs z k) ∧ Below w.heap.size w wr) (fun _ _ i _ => nx + ny + 2 - (intOf i).toNat)
  case atStart => exact ⟨0, by omega, rfl, by rw [cw_zero], World.ownsRow_nil _ _ _ _, Below.refl _ _⟩
  case round =>
    obtain ⟨k, hk, rfl, rfl, hrow, hw⟩ := hrel
    have hsz := hw.size
    have bd := HBD.out k
    have dg := HDG.out k
    have nx_ := HNX.out k
    have D3 := rpcs_succ z k
    have ll1 := rdg_lt x k
    have ll2 := rdg_lt y k
    have hr0 := rdg_lt z k
    by_cases h1 : k < nx
    · by_cases h2 : k < ny
      · have hkx : (k : Int) < (nx : Int) := by omega
        have ca := (hw.cell (p := ⟨bx, ox + k, none⟩) (HX.out.lt (by omega))).trans (HX.out.cell k (by omega))
        obtain rfl := HX.out.at_ (by omega)
        have hky : (k : Int) < (ny : Int) := by omega
        have cb := (hw.cell (p := ⟨by_, oy + k, none⟩) (HY.out.lt (by omega))).trans (HY.out.cell k (by omega))
        obtain rfl := HY.out.at_ (by omega)
        have hkk : k ≤ nx + ny := by omega
        obtain ⟨c2, hc2⟩ : ∃ c2, cw (-1) x y (k + 1) = c2 := ⟨_, rfl⟩
        have bd2 := HBD.out (k + 1)
        rw [hc2] at nx_ bd2
        have HC2 := Lib.hid hc2
        clear hc2
        generalize cw (-1) x y k = c at *
        generalize rdg x k = d1 at *
        generalize rdg y k = d2 at *
        obtain ⟨r, hr⟩ : ∃ r : Nat, rdg z k = r := ⟨_, rfl⟩
        rw [hr] at D3 dg hr0
        have ht : c + (d1 : Int) + -(d2 : Int) = c + (d1 : Int) + -(d2 : Int) := rfl
        have dg2 : (c + (d1 : Int) + -(d2 : Int)) % 10000 = (r : Int) := by
          rw [← dg]; congr 1; omega
        have nx2 : (c + (d1 : Int) + -(d2 : Int)) / 10000 = c2 := by
          rw [← nx_]; congr 1; omega
        have m1 := go_mod (c + (d1 : Int) + -(d2 : Int))
        have m2 := go_div (c + (d1 : Int) + -(d2 : Int))
        rw [dg2] at m1 m2
        rw [nx2] at m2
        obtain ⟨t1, ht1⟩ : ∃ t1 : Int, (c + (d1 : Int) + -(d2 : Int)).tmod 10000 = t1 := ⟨_, rfl⟩
        have hb1 : -10000 < t1 ∧ t1 < 10000 := by
          have h9 : t1.natAbs < 10000 := by rw [← ht1, Int.natAbs_tmod]; exact Nat.mod_lt _ (by decide)
          omega
        rw [ht1] at m1
        have HD3 := Lib.hid D3
        clear D3 dg nx_ dg2 nx2 ht hr
        go_wp2_with (at_builtin; refine wpList_append_own _ rfl _ _ 120 rfl w.heap.size 3 i0 (.int .i64 0) 1 8 Tryz.underlying120 hi0 hz0 hz1 hz2 rfl (by decide) _ _ _ rfl (hrow.alloc _) ⟨wr.heap.size, 0, none⟩ 1 1 [.int .i64 (r : Int)] rfl rfl (cell_one_new _ _ _) (by simp [Value.oneCell']) (by unfold maxLen; omega) (by omega) (by simp; omega) ?_; intro v' w6 hown' hgrow _)
        have hb6 := grown_below hsz hrow hgrow
        go_roundw
        case rel => exact ⟨k + 1, by omega, by go_num, by rw [HC2.out], by rw [HD3.out]; simpa using hown', hw.trans hb6⟩
        case measure => simp [intOf]; omega
      · have hkx : (k : Int) < (nx : Int) := by omega
        have ca := (hw.cell (p := ⟨bx, ox + k, none⟩) (HX.out.lt (by omega))).trans (HX.out.cell k (by omega))
        obtain rfl := HX.out.at_ (by omega)
        have hky : ¬ (k : Int) < (ny : Int) := by omega
        have zy := rdg_high (HFY.out k (by omega))
        rw [zy] at dg nx_
        have hkk : k ≤ nx + ny := by omega
        obtain ⟨c2, hc2⟩ : ∃ c2, cw (-1) x y (k + 1) = c2 := ⟨_, rfl⟩
        have bd2 := HBD.out (k + 1)
        rw [hc2] at nx_ bd2
        have HC2 := Lib.hid hc2
        clear hc2
        generalize cw (-1) x y k = c at *
        generalize rdg x k = d1 at *
        obtain ⟨r, hr⟩ : ∃ r : Nat, rdg z k = r := ⟨_, rfl⟩
        rw [hr] at D3 dg hr0
        have ht : c + (d1 : Int) = c + (d1 : Int) := rfl
        have dg2 : (c + (d1 : Int)) % 10000 = (r : Int) := by
          rw [← dg]; congr 1; omega
        have nx2 : (c + (d1 : Int)) / 10000 = c2 := by
          rw [← nx_]; congr 1; omega
        have m1 := go_mod (c + (d1 : Int))
        have m2 := go_div (c + (d1 : Int))
        rw [dg2] at m1 m2
        rw [nx2] at m2
        obtain ⟨t1, ht1⟩ : ∃ t1 : Int, (c + (d1 : Int)).tmod 10000 = t1 := ⟨_, rfl⟩
        have hb1 : -10000 < t1 ∧ t1 < 10000 := by
          have h9 : t1.natAbs < 10000 := by rw [← ht1, Int.natAbs_tmod]; exact Nat.mod_lt _ (by decide)
          omega
        rw [ht1] at m1
        have HD3 := Lib.hid D3
        clear D3 dg nx_ dg2 nx2 ht hr
        go_wp2_with (at_builtin; refine wpList_append_own _ rfl _ _ 120 rfl w.heap.size 3 i0 (.int .i64 0) 1 8 Tryz.underlying120 hi0 hz0 hz1 hz2 rfl (by decide) _ _ _ rfl (hrow.alloc _) ⟨wr.heap.size, 0, none⟩ 1 1 [.int .i64 (r : Int)] rfl rfl (cell_one_new _ _ _) (by simp [Value.oneCell']) (by unfold maxLen; omega) (by omega) (by simp; omega) ?_; intro v' w6 hown' hgrow _)
        have hb6 := grown_below hsz hrow hgrow
        go_roundw
        case rel => exact ⟨k + 1, by omega, by go_num, by rw [HC2.out], by rw [HD3.out]; simpa using hown', hw.trans hb6⟩
        case measure => simp [intOf]; omega
    · by_cases h2 : k < ny
      · have hkx : ¬ (k : Int) < (nx : Int) := by omega
        have zx := rdg_high (HFX.out k (by omega))
        rw [zx] at dg nx_
        have hky : (k : Int) < (ny : Int) := by omega
        have cb := (hw.cell (p := ⟨by_, oy + k, none⟩) (HY.out.lt (by omega))).trans (HY.out.cell k (by omega))
        obtain rfl := HY.out.at_ (by omega)
        have hkk : k ≤ nx + ny := by omega
        obtain ⟨c2, hc2⟩ : ∃ c2, cw (-1) x y (k + 1) = c2 := ⟨_, rfl⟩
        have bd2 := HBD.out (k + 1)
        rw [hc2] at nx_ bd2
        have HC2 := Lib.hid hc2
        clear hc2
        generalize cw (-1) x y k = c at *
        generalize rdg y k = d2 at *
        obtain ⟨r, hr⟩ : ∃ r : Nat, rdg z k = r := ⟨_, rfl⟩
        rw [hr] at D3 dg hr0
        have ht : c + -(d2 : Int) = c + -(d2 : Int) := rfl
        have dg2 : (c + -(d2 : Int)) % 10000 = (r : Int) := by
          rw [← dg]; congr 1; omega
        have nx2 : (c + -(d2 : Int)) / 10000 = c2 := by
          rw [← nx_]; congr 1; omega
        have m1 := go_mod (c + -(d2 : Int))
        have m2 := go_div (c + -(d2 : Int))
        rw [dg2] at m1 m2
        rw [nx2] at m2
        obtain ⟨t1, ht1⟩ : ∃ t1 : Int, (c + -(d2 : Int)).tmod 10000 = t1 := ⟨_, rfl⟩
        have hb1 : -10000 < t1 ∧ t1 < 10000 := by
          have h9 : t1.natAbs < 10000 := by rw [← ht1, Int.natAbs_tmod]; exact Nat.mod_lt _ (by decide)
          omega
        rw [ht1] at m1
        have HD3 := Lib.hid D3
        clear D3 dg nx_ dg2 nx2 ht hr
        go_wp2_with (at_builtin; refine wpList_append_own _ rfl _ _ 120 rfl w.heap.size 3 i0 (.int .i64 0) 1 8 Tryz.underlying120 hi0 hz0 hz1 hz2 rfl (by decide) _ _ _ rfl (hrow.alloc _) ⟨wr.heap.size, 0, none⟩ 1 1 [.int .i64 (r : Int)] rfl rfl (cell_one_new _ _ _) (by simp [Value.oneCell']) (by unfold maxLen; omega) (by omega) (by simp; omega) ?_; intro v' w6 hown' hgrow _)
        have hb6 := grown_below hsz hrow hgrow
        go_roundw
        case rel => exact ⟨k + 1, by omega, by go_num, by rw [HC2.out], by rw [HD3.out]; simpa using hown', hw.trans hb6⟩
        case measure => simp [intOf]; omega
      · by_cases hcz : cw (-1) x y k = 0
        · have hzz := HH.out k (by omega) (by omega)
          rw [hcz] at hzz
          have hfit : z < RB ^ k := by
            rcases Nat.lt_or_ge z (RB ^ k) with h9 | h9
            · exact h9
            · have := Nat.div_pos h9 (rb_pos k)
              omega
          have hkx : ¬ (k : Int) < (nx : Int) := by omega
          have hky : ¬ (k : Int) < (ny : Int) := by omega
          rw [hcz]
          obtain ⟨sa, cap, b, rfl, hR, hfr⟩ := rrow_of hrow hfit
          have HFR := Lib.hid (fun (h0 : 0 < rnd z) => hfr (by have := Im.nd_le rb2 hfit; change rnd z ≤ k at this; omega))
          have hS := Lib.hid (SH.out sa k cap b 0 wr hR (by omega))
          have hRt := Lib.hid hR.trim
          clear hzz hfr hfit hR hrow dg nx_ D3 bd ll1 ll2 hr0 hcz
          go_wp2_with fail
          refine hS.out.mono ?_
          rintro e w7 ⟨rfl, hww⟩
          subst w7
          go_wp2
          go_ret
          exact ⟨⟨_, rfl, sa, cap, b, 0, rfl, hRt.out, HFR.out⟩, hw⟩
        · have hkx : ¬ (k : Int) < (nx : Int) := by omega
          have zx := rdg_high (HFX.out k (by omega))
          rw [zx] at dg nx_
          have hky : ¬ (k : Int) < (ny : Int) := by omega
          have zy := rdg_high (HFY.out k (by omega))
          rw [zy] at dg nx_
          have hc0 : ¬ cw (-1) x y k = 0 := hcz
          have hend := HE.out k (by omega) (by omega)
          have hkk : k ≤ nx + ny := by
            rcases Nat.lt_or_ge (nx + ny) k with h9 | h9
            · exfalso
              have h8 := HE.out (k - 1) (by omega) (by omega)
              rw [show k - 1 + 1 = k by omega] at h8
              exact hc0 h8
            · exact h9
          obtain ⟨c2, hc2⟩ : ∃ c2, cw (-1) x y (k + 1) = c2 := ⟨_, rfl⟩
          have bd2 := HBD.out (k + 1)
          rw [hc2] at nx_ bd2
          have HC2 := Lib.hid hc2
          clear hc2 hend hcz
          generalize cw (-1) x y k = c at *
          obtain ⟨r, hr⟩ : ∃ r : Nat, rdg z k = r := ⟨_, rfl⟩
          rw [hr] at D3 dg hr0
          have ht : c = c := rfl
          have dg2 : (c) % 10000 = (r : Int) := by
            rw [← dg]; congr 1; omega
          have nx2 : (c) / 10000 = c2 := by
            rw [← nx_]; congr 1; omega
          have m1 := go_mod (c)
          have m2 := go_div (c)
          rw [dg2] at m1 m2
          rw [nx2] at m2
          obtain ⟨t1, ht1⟩ : ∃ t1 : Int, (c).tmod 10000 = t1 := ⟨_, rfl⟩
          have hb1 : -10000 < t1 ∧ t1 < 10000 := by
            have h9 : t1.natAbs < 10000 := by rw [← ht1, Int.natAbs_tmod]; exact Nat.mod_lt _ (by decide)
            omega
          rw [ht1] at m1
          have HD3 := Lib.hid D3
          clear D3 dg nx_ dg2 nx2 ht hr
          go_wp2_with (at_builtin; refine wpList_append_own _ rfl _ _ 120 rfl w.heap.size 3 i0 (.int .i64 0) 1 8 Tryz.underlying120 hi0 hz0 hz1 hz2 rfl (by decide) _ _ _ rfl (hrow.alloc _) ⟨wr.heap.size, 0, none⟩ 1 1 [.int .i64 (r : Int)] rfl rfl (cell_one_new _ _ _) (by simp [Value.oneCell']) (by unfold maxLen; omega) (by omega) (by simp; omega) ?_; intro v' w6 hown' hgrow _)
          have hb6 := grown_below hsz hrow hgrow
          go_roundw
          case rel => exact ⟨k + 1, by omega, by go_num, by rw [HC2.out], by rw [HD3.out]; simpa using hown', hw.trans hb6⟩
          case measure => simp [intOf]; omega
end Go.Proofs.YthdoadkdofgenaaGreatDoor
