/- The reference's times. -/
import Derived.Test.YtkoljddejjfbiaaGreatDoorImYd
import Derived.Test.YtkoljddejjfbiaaGreatDoorImJz
import Derived.Deep.AppendLies
import Derived.Test.YtkoljddejjfbiaaGreatDoorIvA
namespace Go.Proofs.YtkoljddejjfbiaaGreatDoor
open Go Go.RowKit Go.Shelf

/-- The carry in the row of factor d at place k. -/
def tc (d y k : Nat) : Nat := d * (y % RB ^ k) / RB ^ k
theorem tc_zero (d y : Nat) : tc d y 0 = 0 := by simp [tc, Nat.mod_one]
theorem tc_le (d y k : Nat) : tc d y k ≤ d := by
  unfold tc
  have hp := rb_pos k
  refine Nat.le_of_lt_succ ((Nat.div_lt_iff_lt_mul hp).2 ?_)
  have h1 : d * (y % RB ^ k) ≤ d * RB ^ k := Nat.mul_le_mul_left _ (Nat.le_of_lt (Nat.mod_lt y hp))
  rw [Nat.succ_mul]
  omega
theorem tc_arg (d y k : Nat) : d * (y % RB ^ (k + 1)) = d * (y % RB ^ k) + RB ^ k * (d * rdg y k) := by
  rw [rmod_succ y k, Nat.mul_add, Nat.mul_left_comm]
theorem tc_digit (d y k : Nat) : (tc d y k + d * rdg y k) % 10000 = rdg (d * y) k := by
  have h := Im.carry_digit rb2 0 (d * (y % RB ^ k)) (d * rdg y k) k
  rw [← tc_arg, Nat.zero_mod, Nat.zero_add, show Im.dg RB 0 k = 0 by unfold Im.dg; simp, Nat.add_zero, Nat.zero_add] at h
  refine Eq.trans h (Im.dg_mod ?_)
  simp [Nat.mul_mod]
theorem tc_next (d y k : Nat) : (tc d y k + d * rdg y k) / 10000 = tc d y (k + 1) := by
  have h := Im.carry_next rb2 0 (d * (y % RB ^ k)) (d * rdg y k) k
  rw [← tc_arg, Nat.zero_mod, Nat.zero_add, show Im.dg RB 0 k = 0 by unfold Im.dg; simp, Nat.add_zero, Nat.zero_mod, Nat.zero_add] at h
  exact h
theorem tc_high {d y k : Nat} (hy : y < RB ^ k) : tc d y k = d * y / RB ^ k := by unfold tc; rw [Nat.mod_eq_of_lt hy]
theorem rdg_shift (P i k : Nat) : rdg (RB ^ i * P) (i + k) = rdg P k := by
  unfold rdg Im.dg
  rw [Nat.pow_add, Nat.mul_div_mul_left _ _ (rb_pos i)]
theorem rdg_low (P i j : Nat) (h : j < i) : rdg (RB ^ i * P) j = 0 := by
  unfold rdg Im.dg
  obtain ⟨q, rfl⟩ : ∃ q, i = j + (q + 1) := ⟨i - j - 1, by omega⟩
  rw [Nat.pow_add, Nat.mul_assoc, Nat.mul_div_cancel_left _ (rb_pos j), Nat.pow_succ, Nat.mul_right_comm, Nat.mul_comm _ RB, Nat.mul_mod_right]
theorem own_zero (W : World) (P i : Nat) (hi : i ≤ 1000000) : (W.alloc (.cells (madeCells #[.int .i64 0] (i * 1)) 3)).ownsRow W.heap.size 3 1 (.slice (some ⟨W.heap.size, 0, none⟩) i i) i (rpcs (RB ^ i * P) i) := by
  have e : rpcs (RB ^ i * P) i = List.replicate i (.int .i64 0) := by
    apply List.ext_getElem
    · simp [rpcs]
    · intro j h1 h2
      have hj : j < i := by simpa [rpcs] using h1
      simp [rpcs, rdg_low P i j hj]
  rw [e]
  refine ⟨by simp, .inr ⟨W.heap.size, i, _, rfl, Nat.le_refl _, heap_at rfl, Nat.le_refl _, by unfold maxLen; omega, ?_, ?_⟩⟩
  · rw [← Array.length_toList, toList_madeCells_one]; simp
  · rw [toList_madeCells_one]; simp
theorem own_up {W : World} {b0 : Nat} {v : Value} {k : Nat} {xs : List Value} (q : Nat) (h : W.ownsRow b0 3 1 v k xs) : (W.drewN q).ownsRow b0 3 1 v k xs := h

set_option maxRecDepth 100000 in
set_option maxHeartbeats 4000000 in
theorem rtimes_any (sx : Option Addr) (nx cx bx ox x : Nat) (sy : Option Addr) (ny cpy by_ oy y : Nat) (w : World) (hx : RRow w sx nx cx bx ox x) (hy : RRow w sy ny cpy by_ oy y) (hn : nx + ny ≤ 100000) :
    Calls Tryz.prog 63 #[.slice sx nx cx, .slice sy ny cpy] w fun e w' => (∃ v, e = .returned v ∧ RMag w' v (x * y)) ∧ Below w.heap.size w w' := by
  obtain ⟨i0, hi0, hz0, hz1, hz2⟩ := info_parts info_int
  have HX := Lib.hid hx
  have HY := Lib.hid hy
  have hcx := hx.cap
  have hcy := hy.cap
  have SH := Lib.hid (fun sa n cap b o W h hn => short_any sa n cap b o (x * y) W h hn)
  clear hx hy
  obtain ⟨D, hD⟩ : ∃ D, w.heap.size = D := ⟨_, rfl⟩
  rw [hD]
  go_enter Tryz.func63, Tryz.ntmps63
  go_wp2_with fail
  go_loopw [5, 6] (fun v i wr => ∃ i' : Nat, i' ≤ nx ∧ i = .int .i64 (i' : Int) ∧ RMag wr v ((x % RB ^ i') * y) ∧ Below D w wr) (fun _ i _ => nx - (intOf i).toNat)
  case atStart => exact ⟨0, Nat.zero_le _, rfl, ⟨none, 0, 0, 0, by rw [Nat.pow_zero, Nat.mod_one, Nat.zero_mul, rnd_zero], by rw [Nat.pow_zero, Nat.mod_one, Nat.zero_mul, rnd_zero]; exact ⟨Nat.le_refl _, fun p => absurd p (Nat.lt_irrefl _), fun p => absurd p (Nat.lt_irrefl _), fun k hk => absurd hk (Nat.not_lt_zero _), Nat.one_pos⟩⟩, Below.refl _ _⟩
  case round =>
    obtain ⟨i, hi, rfl, hm, hw⟩ := hrel
    by_cases h1 : i < nx
    · obtain ⟨wo, hwo⟩ : ∃ wo, wo = wr := ⟨_, rfl⟩
      subst hwo
      have hii : (i : Int) < (nx : Int) := by omega
      have hsz := hw.size
      have ld := rdg_lt x i
      have hS : (x % RB ^ (i + 1)) * y = (x % RB ^ i) * y + RB ^ i * (rdg x i * y) := by
        rw [rmod_succ x i, Nat.add_mul, Nat.mul_assoc]
      have HS := Lib.hid hS
      have hfit : rdg x i * y < RB ^ (ny + 1) := by
        rw [Nat.pow_succ, Nat.mul_comm]
        exact Nat.mul_lt_mul'' HY.out.fits ld
      have hT : rnd ((x % RB ^ i) * y) ≤ i + ny := by
        refine Im.nd_le rb2 ?_
        rw [Nat.pow_add]
        exact Nat.mul_lt_mul'' (Nat.mod_lt _ (rb_pos i)) HY.out.fits
      have HT := Lib.hid hT
      have HFIT := Lib.hid hfit
      have ca := (hw.cell (p := ⟨bx, ox + i, none⟩) (by have := HX.out.lt (by omega); show bx < D; omega)).trans (HX.out.cell i h1)
      obtain rfl := HX.out.at_ (by omega)
      have hmk : (Instr.makeSlice 86 (.int .i64 (i : Int)) (.int .i64 (i : Int))).run Tryz.prog wo = .ok (.slice (some ⟨wo.heap.size, 0, none⟩) i i) (wo.alloc (.cells (madeCells #[.int .i64 0] (i * 1)) 3)) := by
        have := run_makeSlice (P := Tryz.prog) wo 86 3 i0 (.int .i64 0) Tryz.underlying86 hi0 hz0 .i64 .i64 (i : Int) (i : Int) (by omega) (by omega) (by rw [hz1]; simp; omega) (by rw [hz2]; omega) (by omega)
        rw [hz1] at this
        simpa [Value.cells] using this
      have ho0 := own_zero wo (rdg x i * y) i (by omega)
      have hb0 : Below wo.heap.size wo (wo.alloc (.cells (madeCells #[.int .i64 0] (i * 1)) 3)) := (Below.refl _ _).alloc (Nat.le_refl _) _
      obtain ⟨d, hd⟩ : ∃ d, rdg x i = d := ⟨_, rfl⟩
      rw [hd] at HS HFIT ld ca ho0
      have HM := Lib.hid hm
      obtain ⟨E, hE⟩ : ∃ E, wo.heap.size = E := ⟨_, rfl⟩
      rw [hE] at ho0 hb0 hmk
      obtain ⟨W1, hW1⟩ : ∃ W1, (wo.alloc (.cells (madeCells #[.int .i64 0] (i * 1)) 3)) = W1 := ⟨_, rfl⟩
      rw [hW1] at ho0 hb0 hmk
      have HO := Lib.hid ho0
      have HB := Lib.hid hb0
      have HDG := Lib.hid (fun k => tc_digit d y k)
      have HNX := Lib.hid (fun k => tc_next d y k)
      clear hS hfit hT hm hd hW1 ho0 hb0
      go_wp2_with fail
      go_loopw [7, 8, 9] (fun r c k wk => ∃ k' : Nat, k' ≤ ny + 1 ∧ k = .int .i64 (k' : Int) ∧ c = .int .i64 (tc d y k' : Nat) ∧ wk.ownsRow E 3 1 r (i + k') (rpcs (RB ^ i * (d * y)) (i + k')) ∧ Below E wo wk) (fun _ _ k _ => ny + 2 - (intOf k).toNat)
      case atStart => exact ⟨0, Nat.zero_le _, rfl, by rw [tc_zero]; rfl, HO.out, HB.out⟩
      case round =>
        obtain ⟨k, hk, rfl, rfl, hrow, hb⟩ := hrel
        have hszk := hb.size
        rw [hE] at hszk
        have lt1 := tc_le d y k
        have D3 := rpcs_succ (RB ^ i * (d * y)) (i + k)
        rw [rdg_shift] at D3
        have dg := HDG.out k
        have nx_ := HNX.out k
        have hr0 := rdg_lt (d * y) k
        by_cases h2 : k < ny
        · have hki : (k : Int) < (ny : Int) := by omega
          have hwk : Below D w wr := hw.trans (hb.mono (by omega))
          have cb := (hwk.cell (p := ⟨by_, oy + k, none⟩) (by have := HY.out.lt (by omega); show by_ < D; omega)).trans (HY.out.cell k h2)
          have ca2 := (hb.cell (p := ⟨bx, ox + i, none⟩) (by rw [← hE]; have := HX.out.lt (by omega); show bx < _; omega)).trans ca
          obtain rfl := HY.out.at_ (by omega)
          have ll := rdg_lt y k
          obtain ⟨c2, hc2⟩ : ∃ c2, tc d y (k + 1) = c2 := ⟨_, rfl⟩
          have HC2 := Lib.hid hc2
          have lt2 := tc_le d y (k + 1)
          rw [hc2] at nx_ lt2
          obtain ⟨r, hr⟩ : ∃ r, rdg (d * y) k = r := ⟨_, rfl⟩
          rw [hr] at D3 dg hr0
          clear hc2 hr
          generalize tc d y k = c at *
          generalize rdg y k = dk at *
          have hp0 : d * dk ≤ 9999 * 9999 := Nat.mul_le_mul (by omega) (by omega)
          obtain ⟨p, hp⟩ : ∃ p, d * dk = p := ⟨_, rfl⟩
          have hpi : (d : Int) * (dk : Int) = (p : Int) := by rw [← hp]; simp
          rw [hp] at dg nx_ hp0
          have m1 : ((c : Int) + (p : Int)).tmod 10000 = (r : Int) := by rw [Int.tmod_eq_emod_of_nonneg (by omega)]; omega
          have m2 : ((c : Int) + (p : Int)).tdiv 10000 = (c2 : Int) := by rw [Int.tdiv_eq_ediv_of_nonneg (by omega)]; omega
          have HD3 := Lib.hid D3
          have HR := Lib.hid hrow
          clear D3 dg nx_ hp hrow hw
          go_upto_region 12 with (go_quiet (fail))
          go_wp2_with (at_builtin; refine wpList_append_own _ rfl _ _ 86 rfl E 3 i0 (.int .i64 0) 1 8 Tryz.underlying86 hi0 hz0 hz1 hz2 rfl (by decide) _ _ _ rfl ((own_up _ HR.out).alloc _) ⟨wr.heap.size, 0, none⟩ 1 1 [.int .i64 (r : Int)] rfl rfl (by first | exact cell_one_new _ _ _ | simpa using cell_one_new (wr.drewN _) (.int .i64 (r : Int)) 3) (by simp [Value.oneCell']) (by unfold maxLen; omega) (by omega) (by simp; omega) ?_; intro v' w6 hown' hgrow _)
          have hb6 := grown_below (by first | exact hszk | simpa using hszk) (own_up _ HR.out) hgrow
          go_roundw
          case rel => exact ⟨k + 1, by omega, by go_num, by rw [HC2.out], by rw [← Nat.add_assoc, HD3.out]; simpa using hown', (hb.trans (drew_below _ _ |>.mono hszk)).trans hb6⟩
          case measure => simp [intOf]; omega
        · have hki : ¬ (k : Int) < (ny : Int) := by omega
          have zy : rdg y k = 0 := rdg_high (Nat.lt_of_lt_of_le HY.out.fits (Nat.pow_le_pow_right (by unfold RB; omega) (by omega)))
          rw [zy, Nat.mul_zero, Nat.add_zero] at dg nx_
          have hth : tc d y k = d * y / RB ^ k := tc_high (Nat.lt_of_lt_of_le HY.out.fits (Nat.pow_le_pow_right (by unfold RB; omega) (by omega)))
          by_cases hc0 : tc d y k = 0
          · have hfit2 : d * y < RB ^ k := by
              rcases Nat.lt_or_ge (d * y) (RB ^ k) with h9 | h9
              · exact h9
              · have := Nat.div_pos h9 (rb_pos k)
                omega
            have hfit3 : RB ^ i * (d * y) < RB ^ (i + k) := by rw [Nat.pow_add]; exact Nat.mul_lt_mul_of_pos_left hfit2 (rb_pos i)
            rw [hc0]
            obtain ⟨sr, cr, br, rfl, hR, _⟩ := rrow_of hrow hfit3
            obtain ⟨so, co, bo, oo, rfl, hO⟩ := HM.out
            have hO2 := hO.below hb (by omega)
            have BO := Lib.hid (both_add so _ co bo oo _ sr (i + k) cr br 0 (RB ^ i * (d * y)) ((x % RB ^ (i + 1)) * y) (by rw [HS.out]; push_cast; omega) wr hO2 hR (by have := HT.out; omega) (by omega))
            obtain ⟨m, hmm⟩ : ∃ m, rnd (x % RB ^ i * y) = m := ⟨_, rfl⟩
            rw [hmm] at BO ⊢
            have hwk : Below D w wr := hw.trans (hb.mono (by omega))
            clear D3 dg nx_ hth hc0 hfit2 hfit3 hR hO hO2 hmm hrow zy hr0 lt1
            go_wp2_with fail
            refine BO.out.mono ?_
            rintro e w7 ⟨⟨v7, rfl, h7⟩, hb7⟩
            go_wp2_with fail
            go_roundw
            case rel => exact ⟨i + 1, by omega, by go_num, h7, hwk.trans (hb7.mono (by have := hwk.size; omega))⟩
            case measure => simp [intOf]; omega
          · have hkn : k ≤ ny := by
              rcases Nat.lt_or_ge ny k with h9 | h9
              · exfalso
                apply hc0
                rw [hth, Nat.div_eq_of_lt]
                exact Nat.lt_of_lt_of_le HFIT.out (Nat.pow_le_pow_right (by unfold RB; omega) h9)
              · exact h9
            obtain ⟨c2, hc2⟩ : ∃ c2, tc d y (k + 1) = c2 := ⟨_, rfl⟩
            have HC2 := Lib.hid hc2
            have lt2 := tc_le d y (k + 1)
            rw [hc2] at nx_ lt2
            obtain ⟨r, hr⟩ : ∃ r, rdg (d * y) k = r := ⟨_, rfl⟩
            rw [hr] at D3 dg hr0
            clear hc2 hr hth zy
            generalize tc d y k = c at *
            have hcp : (0 : Int) < (c : Int) := by omega
            have m1 : (c : Int).tmod 10000 = (r : Int) := by rw [Int.tmod_eq_emod_of_nonneg (by omega)]; omega
            have m2 : (c : Int).tdiv 10000 = (c2 : Int) := by rw [Int.tdiv_eq_ediv_of_nonneg (by omega)]; omega
            have HD3 := Lib.hid D3
            clear D3 dg nx_ hc0 hw
            go_wp2_with (at_builtin; refine wpList_append_own _ rfl _ _ 86 rfl E 3 i0 (.int .i64 0) 1 8 Tryz.underlying86 hi0 hz0 hz1 hz2 rfl (by decide) _ _ _ rfl (hrow.alloc _) ⟨wr.heap.size, 0, none⟩ 1 1 [.int .i64 (r : Int)] rfl rfl (cell_one_new _ _ _) (by simp [Value.oneCell']) (by unfold maxLen; omega) (by omega) (by simp; omega) ?_; intro v' w6 hown' hgrow _)
            have hb6 := grown_below hszk hrow hgrow
            go_roundw
            case rel => exact ⟨k + 1, by omega, by go_num, by rw [HC2.out], by rw [← Nat.add_assoc, HD3.out]; simpa using hown', hb.trans hb6⟩
            case measure => simp [intOf]; omega
    · obtain rfl : i = nx := by omega
      have hxx : x % RB ^ i = x := Nat.mod_eq_of_lt HX.out.fits
      rw [hxx] at hm
      obtain ⟨so, co, bo, oo, rfl, hO⟩ := hm
      have hnz : rnd (x * y) ≤ i + ny := by
        refine Im.nd_le rb2 ?_
        rw [Nat.pow_add]
        exact Nat.mul_lt_mul'' HX.out.fits HY.out.fits
      have hS := Lib.hid (SH.out so (rnd (x * y)) co bo oo wr hO (by omega))
      have HO := Lib.hid hO
      have hii : ¬ (i : Int) < (i : Int) := by omega
      obtain ⟨m, hmm⟩ : ∃ m, rnd (x * y) = m := ⟨_, rfl⟩
      rw [hmm] at hS HO ⊢
      have HMM := Lib.hid hmm
      clear hxx hnz hO hmm
      go_wp2_with fail
      refine hS.out.mono ?_
      rintro e w7 ⟨rfl, hww⟩
      subst w7
      go_wp2
      go_ret
      exact ⟨⟨_, rfl, so, co, bo, oo, by rw [HMM.out]; rfl, by rw [HMM.out]; exact HO.out⟩, hw⟩
theorem rtimes_mag (v u : Value) (x y : Nat) (w : World) (hx : RMag w v x) (hy : RMag w u y) (hn : rnd x + rnd y ≤ 100000) :
    Calls Tryz.prog 63 #[v, u] w fun e w' => (∃ v', e = .returned v' ∧ RMag w' v' (x * y)) ∧ Below w.heap.size w w' := by
  obtain ⟨sx, cx, bx, ox, rfl, h1⟩ := hx
  obtain ⟨sy, cy, by_, oy, rfl, h2⟩ := hy
  exact rtimes_any sx _ cx bx ox x sy _ cy by_ oy y w h1 h2 hn
end Go.Proofs.YtkoljddejjfbiaaGreatDoor
/- The reference's group. -/
namespace Go.Proofs.YtkoljddejjfbiaaGreatDoor
open Go Go.RowKit Go.Shelf

/-- What each operation of 'out, s = append(out, n), s[:len(s)-4]' yields. -/
def grpInv (out x : Value) (s t : ByteArray) (n m : Int) : Nat → Value → Prop := fun j v => match j with
  | 0 => v = out
  | 1 => v = x
  | 4 => v = .string s
  | 5 => v = .string s
  | 6 => v = .int .i64 n
  | 7 => v = .int .i64 m
  | 8 => v = .string t
  | 10 => v = .string t
  | _ => True
structure GrpI (ops : Array Oper) (w : World) (B j : Nat) (out x sv0 : Value) (xs : List Value) (Inv : Nat → Value → Prop) (L : Nat → Bool) (ys : Nat → Value) (W : World) : Prop where
  below : Below B w W
  size : B ≤ W.heap.size
  old : L 3 = false → W.ownsRow B 3 1 out j xs
  new : L 3 = true → W.ownsRow B 3 1 (ys 3) (j + 1) (xs ++ [x])
  box : L 2 = true → L 3 = false → ∃ b, ys 2 = .slice (some ⟨b, 0, none⟩) 1 1 ∧ W.heap[b]? = some (.cells #[x] 3)
  vals : ∀ i, i ≠ 2 → i ≠ 3 → i ≠ 9 → L i = true → Inv i (ys i)
  nine : L 9 = true → ys 9 = ys 3
  u9 : L 9 = false → ys 9 = out
  u10 : L 10 = false → ys 10 = sv0
  clo : ∀ j o, ops[j]? = some o → L j = true → ∀ e ∈ o.after, Region.binds .any e = true → L e.on = true
section
variable {ops : Array Oper} {w : World} {B j : Nat} {out x sv0 : Value} {xs : List Value} {Inv : Nat → Value → Prop} {L : Nat → Bool} {ys : Nat → Value} {W : World}
theorem GrpI.need (h : GrpI ops w B j out x sv0 xs Inv L ys W) (k : Nat) {o : Oper} (ho : ops[k]? = some o) {i : Nat} (hw : waitsB .any o i = true) (hk : L k = true) : L i = true := waits_at (h.clo k o ho hk) hw
theorem GrpI.other (h : GrpI ops w B j out x sv0 xs Inv L ys W) {i : Nat} {o : Oper} (ho : ops[i]? = some o) (ha : ∀ e ∈ o.after, Region.binds .any e = true → L e.on = true) (h2 : i ≠ 2) (h3 : i ≠ 3) (h9 : i ≠ 9) {v : Value} (hv : Inv i v) :
    GrpI ops w B j out x sv0 xs Inv (upd L i true) (upd ys i v) W where
  below := h.below
  size := h.size
  old := by rw [upd_ne _ _ (Ne.symm h3)]; exact h.old
  new := by rw [upd_ne _ _ (Ne.symm h3), upd_ne _ _ (Ne.symm h3)]; exact h.new
  box := by rw [upd_ne _ _ (Ne.symm h3), upd_ne _ _ (Ne.symm h2), upd_ne _ _ (Ne.symm h2)]; exact h.box
  vals := fun k k2 k3 k9 hk => by
    by_cases e : k = i
    · subst e; rw [upd_same]; exact hv
    · rw [upd_ne _ _ e] at hk ⊢; exact h.vals k k2 k3 k9 hk
  nine := by rw [upd_ne _ _ (Ne.symm h3), upd_ne _ _ (Ne.symm h9), upd_ne _ _ (Ne.symm h9)]; exact h.nine
  u9 := by rw [upd_ne _ _ (Ne.symm h9), upd_ne _ _ (Ne.symm h9)]; exact h.u9
  u10 := by
    by_cases e : 10 = i
    · subst e; rw [upd_same]; intro e; cases e
    · rw [upd_ne _ _ e, upd_ne _ _ e]; exact h.u10
  clo := clo_upd ho ha h.clo
theorem GrpI.nineth (h : GrpI ops w B j out x sv0 xs Inv L ys W) {o : Oper} (ho : ops[9]? = some o) (ha : ∀ e ∈ o.after, Region.binds .any e = true → L e.on = true) :
    GrpI ops w B j out x sv0 xs Inv (upd L 9 true) (upd ys 9 (ys 3)) W where
  below := h.below
  size := h.size
  old := by rw [upd_ne _ _ (by decide)]; exact h.old
  new := by rw [upd_ne _ _ (by decide), upd_ne _ _ (by decide)]; exact h.new
  box := by rw [upd_ne _ _ (by decide), upd_ne _ _ (by decide), upd_ne _ _ (by decide)]; exact h.box
  vals := fun k k2 k3 k9 hk => by rw [upd_ne _ _ k9] at hk ⊢; exact h.vals k k2 k3 k9 hk
  nine := fun _ => by rw [upd_same, upd_ne _ _ (by decide)]
  u9 := by rw [upd_same]; intro e; cases e
  u10 := by rw [upd_ne _ _ (by decide), upd_ne _ _ (by decide)]; exact h.u10
  clo := clo_upd ho ha h.clo
theorem GrpI.boxed (h : GrpI ops w B j out x sv0 xs Inv L ys W) {o : Oper} (ho : ops[2]? = some o) (ha : ∀ e ∈ o.after, Region.binds .any e = true → L e.on = true) (hL : L 3 = false) :
    GrpI ops w B j out x sv0 xs Inv (upd L 2 true) (upd ys 2 (.slice (some ⟨W.heap.size, 0, none⟩) 1 1)) (W.alloc (.cells #[x] 3)) where
  below := h.below.alloc h.size _
  size := by have := h.size; simp; omega
  old := fun _ => (h.old hL).alloc _
  new := by rw [upd_ne _ _ (by decide), hL]; intro e; cases e
  box := fun _ _ => ⟨W.heap.size, upd_same _ _ _, heap_at rfl⟩
  vals := fun k k2 k3 k9 hk => by rw [upd_ne _ _ k2] at hk ⊢; exact h.vals k k2 k3 k9 hk
  nine := by rw [upd_ne _ _ (by decide), upd_ne _ _ (by decide), upd_ne _ _ (by decide)]; exact h.nine
  u9 := by rw [upd_ne _ _ (by decide), upd_ne _ _ (by decide)]; exact h.u9
  u10 := by rw [upd_ne _ _ (by decide), upd_ne _ _ (by decide)]; exact h.u10
  clo := clo_upd ho ha h.clo
theorem GrpI.appended {W' : World} (h : GrpI ops w B j out x sv0 xs Inv L ys W) {o : Oper} (ho : ops[3]? = some o) (ha : ∀ e ∈ o.after, Region.binds .any e = true → L e.on = true) (hL : L 3 = false) (hL9 : L 9 = false) {v : Value}
    (hown : W'.ownsRow B 3 1 v (j + 1) (xs ++ [x])) (hg : W.grownBy W' out.ownBlock) :
    GrpI ops w B j out x sv0 xs Inv (upd L 3 true) (upd ys 3 v) W' where
  below := h.below.grown hg h.size (fun g hgv => ((h.old hL).lt g hgv).1)
  size := Nat.le_trans h.size hg.size
  old := by rw [upd_same]; intro e; cases e
  new := fun _ => by rw [upd_same]; exact hown
  box := by rw [upd_same]; intro _ e; cases e
  vals := fun k k2 k3 k9 hk => by rw [upd_ne _ _ k3] at hk ⊢; exact h.vals k k2 k3 k9 hk
  nine := by
    intro e
    rw [upd_ne _ _ (by decide), hL9] at e
    cases e
  u9 := by rw [upd_ne _ _ (by decide), upd_ne _ _ (by decide)]; exact h.u9
  u10 := by rw [upd_ne _ _ (by decide), upd_ne _ _ (by decide)]; exact h.u10
  clo := clo_upd ho ha h.clo
theorem GrpI.start (hn : ops.size = 11) (h1 : Below B w W) (h2 : B ≤ W.heap.size) (h3 : W.ownsRow B 3 1 out j xs) (h9 : ys 9 = out) (h10 : ys 10 = sv0) (HV : ∀ i, 11 ≤ i → Inv i (ys i)) : GrpI ops w B j out x sv0 xs Inv (fun i => decide (ops.size ≤ i)) ys W where
  below := h1
  size := h2
  old := fun _ => h3
  new := fun e => by have := of_decide_eq_true e; omega
  box := fun e => by have := of_decide_eq_true e; omega
  vals := fun i _ _ _ hi => by
    have h4 := of_decide_eq_true hi
    exact HV i (by omega)
  nine := fun e => by have := of_decide_eq_true e; omega
  u9 := fun _ => h9
  u10 := fun _ => h10
  clo := fun j o ho hj => by
    have h4 := (Array.getElem?_eq_some_iff.1 ho).1
    have h5 := of_decide_eq_true hj
    omega
end
theorem own_below {W W' : World} {B k : Nat} {e : TypeId} {v : Value} {xs : List Value} (h : W.ownsRow B e 1 v k xs) (hb : Below W.heap.size W W') : W'.ownsRow B e 1 v k xs := by
  refine ⟨h.1, h.2.imp id ?_⟩
  rintro ⟨g, cap, cur, rfl, h1, h2, h3⟩
  exact ⟨g, cap, cur, rfl, h1, (hb.block g (Array.getElem?_eq_some_iff.1 h2).1).trans h2, h3⟩

theorem take_block {s : ByteArray} {c : Nat} (hc : c + 4 ≤ s.size) (ha : s.data.toList.all Im.isD = true) :
    Im.valL (s.extract (s.size - c - 4) (s.size - c)).data.toList = Im.valL s.data.toList / 10 ^ c % 10 ^ 4 := by
  rw [extract_list, ← size_list]
  exact Im.val_block ha (by rw [size_list]; exact hc)

set_option maxRecDepth 100000 in
set_option maxHeartbeats 4000000 in
theorem group_any (s : ByteArray) (hs : s.size ≤ 100000) (h1 : 1 ≤ s.size) (ha : s.data.toList.all Im.isD = true) (w : World) :
    Calls Tryz.prog 64 #[.string s] w fun e w' => (∃ v, e = .returned v ∧ RMag w' v (Im.valL s.data.toList)) ∧ Below w.heap.size w w' := by
  obtain ⟨i0, hi0, hz0, hz1, hz2⟩ := info_parts info_int
  have A := Lib.hid (fun (t : ByteArray) (h1 : 1 ≤ t.size) (h2 : t.size ≤ 18) (h3 : t.data.toList.all Im.isD = true) W => Tryz.strconv_Atoi_ok t (by omega) (Im.valL t.data.toList : Int) (atoi_digits (by intro e; have := size_list t; rw [e] at this; simp at this; omega) h3 h2) W)
  obtain ⟨X, hX⟩ : ∃ X, Im.valL s.data.toList = X := ⟨_, rfl⟩
  have hblk : ∀ j, 4 * j + 4 ≤ s.size → Im.valL (s.extract (s.size - 4 * j - 4) (s.size - 4 * j)).data.toList = rdg X j := fun j hj => by
    rw [take_block hj ha, hX]
    unfold rdg Im.dg
    rw [Nat.pow_mul]; rfl
  have htop : ∀ j, 4 * j < s.size → s.size ≤ 4 * j + 4 → Im.valL (s.extract 0 (s.size - 4 * j)).data.toList = rdg X j ∧ X < RB ^ (j + 1) := fun j h2 h3 => by
    have hlt := Im.val_lt ha
    rw [size_list, hX] at hlt
    have hp : (10 : Nat) ^ s.size ≤ RB ^ (j + 1) := by
      rw [show RB = 10 ^ 4 from rfl, ← Nat.pow_mul]
      exact Nat.pow_le_pow_right (by decide) (by omega)
    have hfit : X < RB ^ (j + 1) := Nat.lt_of_lt_of_le hlt hp
    refine ⟨?_, hfit⟩
    rw [extract_list, List.drop_zero]
    have := Im.val_take ha (k := 4 * j) (by rw [size_list]; omega)
    rw [size_list, hX] at this
    rw [this]
    unfold rdg Im.dg
    rw [Nat.pow_mul, show (10 : Nat) ^ 4 = RB from rfl, Nat.mod_eq_of_lt]
    rw [Nat.div_lt_iff_lt_mul (rb_pos j), Nat.mul_comm, ← Nat.pow_succ]
    exact hfit
  have hall : ∀ i j, (s.extract i j).data.toList.all Im.isD = true := fun i j => by
    rw [extract_list]; exact Im.all_drop (Im.all_take ha _) _
  have hext : ∀ i j, j ≤ s.size → (s.extract i j).size = j - i := fun i j hj => by rw [← size_list, extract_list, List.length_drop, List.length_take, size_list]; omega
  have hee : ∀ i j k, j ≤ k → k ≤ s.size → (s.extract 0 k).extract i j = s.extract i j := fun i j k h2 h3 => by
    apply ext_bytes
    rw [extract_list, extract_list, extract_list, List.drop_zero, List.take_take, Nat.min_eq_left h2]
  rw [hX]
  have HBLK := Lib.hid hblk
  have HTOP := Lib.hid htop
  have HALL := Lib.hid hall
  have HEXT := Lib.hid hext
  have HEE := Lib.hid hee
  have SH := Lib.hid (fun sa n cap b o W h hn => short_any sa n cap b o X W h hn)
  have hs0 : s = s.extract 0 s.size := by
    apply ext_bytes
    rw [extract_list, ← size_list, List.take_length, List.drop_zero]
  have HS0 := Lib.hid hs0
  clear hX hblk htop hall hext hee ha hs0
  obtain ⟨D, hD⟩ : ∃ D, w.heap.size = D := ⟨_, rfl⟩
  go_enter Tryz.func64, Tryz.ntmps64
  go_wp2_with fail
  go_loopw [0, 3] (fun d v wr => ∃ j : Nat, 4 * j < s.size ∧ d = .string (s.extract 0 (s.size - 4 * j)) ∧ wr.ownsRow D 3 1 v j (rpcs X j) ∧ Below D w wr) (fun d _ _ => match d with | .string y => y.size | _ => 0)
  case atStart => exact ⟨0, by omega, by rw [Nat.mul_zero, Nat.sub_zero, ← HS0.out], World.ownsRow_nil _ _ _ _, Below.refl _ _⟩
  case round =>
    obtain ⟨j, hj, rfl, hrow, hw⟩ := hrel
    have hsz := hw.size
    rw [hD] at hsz
    have hq := HEXT.out 0 (s.size - 4 * j) (by omega)
    obtain ⟨q, hqq⟩ : ∃ q, s.size - 4 * j = q := ⟨_, rfl⟩
    have D3 := rpcs_succ X j
    have hr0 := rdg_lt X j
    by_cases h2 : 4 * j + 4 < s.size
    · have hb := HBLK.out j (by omega)
      have hxx := HEE.out (q - 4) q q (by omega) (by omega)
      have hyy := HEE.out 0 (q - 4) q (by omega) (by omega)
      have hal := HALL.out (q - 4) q
      have hxs := HEXT.out (q - 4) q (by omega)
      rw [hqq] at hq hb ⊢
      rw [Nat.sub_zero] at hq
      have AA := Lib.hid (fun W => A.out (s.extract (q - 4) q) (by omega) (by omega) hal W)
      rw [hb] at AA
      obtain ⟨S, hS⟩ : ∃ S, s.extract 0 q = S := ⟨_, rfl⟩
      obtain ⟨S1, hS1⟩ : ∃ S1, s.extract (q - 4) q = S1 := ⟨_, rfl⟩
      obtain ⟨S2, hS2⟩ : ∃ S2, s.extract 0 (q - 4) = S2 := ⟨_, rfl⟩
      rw [hS] at hq hxx hyy ⊢
      rw [hS1] at AA hxx
      rw [hS2] at hyy
      have hS2' := Lib.hid hS2
      have HQ := Lib.hid hqq
      have hqi : (4 : Int) < (q : Int) := by omega
      obtain ⟨q4, hq4⟩ : ∃ q4 : Nat, q - 4 = q4 := ⟨_, rfl⟩
      have hq4i : (q : Int) - 4 = (q4 : Int) := by omega
      rw [hq4] at hxx hyy
      have hq5 : q4 ≤ q := by omega
      obtain ⟨r, hr⟩ : ∃ r, rdg X j = r := ⟨_, rfl⟩
      rw [hr] at AA D3 hr0
      have HD3 := Lib.hid D3
      clear hb hal hxs hS hS1 hS2 hr D3
      go_upto_region 4 with (first | (go_at_call 82; with_reducible refine (AA.out _).mono ?_; rintro e w2 ⟨rfl, hw2⟩))
      have hbw2 : Below wr.heap.size wr w2 := by
        rcases hw2 with rfl | ⟨t, rfl⟩
        · exact Below.refl _ _
        · exact Lib.bytesWorld_below _ _ _
      have hrow2 := own_below hrow hbw2
      have hww2 : Below D w w2 := hw.trans (hbw2.mono hsz)
      have hsz2 : D ≤ w2.heap.size := Nat.le_trans hsz hbw2.size
      have HROW2 := Lib.hid hrow2
      have HWW2 := Lib.hid hww2
      have hwr : IntKind.i64.wrap (q4 : Int) = (q4 : Int) := by rw [IntKind.wrap_i64]; omega
      clear hw2 hbw2 hrow hw hrow2 hww2 hsz
      refine wp_region_slots_at rfl rfl (fun base ys => ((((((((((base.set 20 (ys 0)).set 21 (ys 1)).set 22 (ys 2)).set 23 (ys 3)).set 24 (ys 4)).set 25 (ys 5)).set 26 (ys 6)).set 27 (ys 7)).set 28 (ys 8)).set 3 (ys 9)).set 0 (ys 10)) (GrpI _ w D j u3 (.int .i64 (r : Nat)) (.string S) (rpcs X j) (grpInv u3 (.int .i64 (r : Nat)) S S2 (q : Nat) (q4 : Nat))) (fun j => match j with | 0 => u20 | 1 => u21 | 2 => u22 | 3 => u23 | 4 => u24 | 5 => u25 | 6 => u26 | 7 => u27 | 8 => u28 | 9 => u3 | 10 => .string S | _ => undef) (by kernel_rfl) (GrpI.start rfl (HWW2.out.trans (Below.refl _ _).drew) hsz2 HROW2.out rfl rfl (fun i hi => by obtain ⟨k, rfl⟩ : ∃ k, i = k + 11 := ⟨i - 11, by omega⟩; trivial)) ?h
      case h =>
        intro F hF
        simp only [List.set_cons_succ, List.set_cons_zero] at hF
        subst hF
        refine ⟨rfl, ?_, ?_⟩
        refine ⟨?_, ?_⟩
        · intro L ys W hn hd hI K hK
          have l9 : L 9 = false := by
            cases h9 : L 9 with
            | false => rfl
            | true => rw [hI.need 3 rfl (by kernel_rfl) (hI.need 9 rfl (by kernel_rfl) h9)] at hn; cases hn
          have s9 := hI.u9 l9
          go_simp
          have hK2 := hK _ _ (hI.other (i := 0) (v := u3) rfl hd (by decide) (by decide) (by decide) rfl)
          simp (config := { decide := true }) only [upd, if_false, if_true, s9] at hK2
          exact hK2
        refine ⟨?_, ?_⟩
        · intro L ys W hn hd hI K hK
          go_simp
          have hK2 := hK _ _ (hI.other (i := 1) (v := .int .i64 (r : Nat)) rfl hd (by decide) (by decide) (by decide) rfl)
          simp (config := { decide := true }) only [upd, if_false, if_true] at hK2
          exact hK2
        refine ⟨?_, ?_⟩
        · intro L ys W hn hd hI K hK
          have d1 : ys 1 = .int .i64 (r : Nat) := hI.vals 1 (by decide) (by decide) (by decide) (waits_at hd (by kernel_rfl))
          have l3 : L 3 = false := by
            cases h9 : L 3 with
            | false => rfl
            | true => rw [hI.need 3 rfl (by kernel_rfl) h9] at hn; cases hn
          go_simp
          have hK2 := hK _ _ (hI.boxed rfl hd l3)
          simp (config := { decide := true }) only [upd, if_false, if_true, d1] at hK2
          exact hK2
        refine ⟨?_, ?_⟩
        · intro L ys W hn hd hI K hK
          have d0 : ys 0 = u3 := hI.vals 0 (by decide) (by decide) (by decide) (waits_at hd (by kernel_rfl))
          have l9 : L 9 = false := by
            cases h9 : L 9 with
            | false => rfl
            | true => rw [hI.need 9 rfl (by kernel_rfl) h9] at hn; cases hn
          obtain ⟨b, hb, hbc⟩ := hI.box (waits_at hd (by kernel_rfl)) hn
          refine step_append_lies W rfl (.tmp 20) (.tmp 22) 86 rfl D 3 i0 (.int .i64 0) 1 8 Tryz.underlying86 hi0 hz0 hz1 hz2 rfl (by decide) u3 j (rpcs X j) (by simp [Act.eval, d0]) (hI.old hn) ⟨b, 0, none⟩ 1 1 [.int .i64 (r : Nat)] (by simp [Act.eval, hb]) rfl (World.news_of_block hbc) (by simp [Value.oneCell']) (by decide) (by unfold maxLen; omega) (by omega) hI.size W.heap.size rfl ?_
          intro g cap w' hown hgrow _ _
          have hK2 := hK _ _ (hI.appended rfl hd hn l9 hown hgrow)
          simp (config := { decide := true }) only [upd, if_false, if_true] at hK2
          exact hK2
        refine ⟨?_, ?_⟩
        · intro L ys W hn hd hI K hK
          have l10 : L 10 = false := by
            cases h9 : L 10 with
            | false => rfl
            | true => rw [hI.need 8 rfl (by kernel_rfl) (hI.need 10 rfl (by kernel_rfl) h9)] at hn; cases hn
          have s10 := hI.u10 l10
          go_simp
          have hK2 := hK _ _ (hI.other (i := 4) (v := .string S) rfl hd (by decide) (by decide) (by decide) rfl)
          simp (config := { decide := true }) only [upd, if_false, if_true, s10] at hK2
          exact hK2
        refine ⟨?_, ?_⟩
        · intro L ys W hn hd hI K hK
          have l10 : L 10 = false := by
            cases h9 : L 10 with
            | false => rfl
            | true => rw [hI.need 6 rfl (by kernel_rfl) (hI.need 7 rfl (by kernel_rfl) (hI.need 8 rfl (by kernel_rfl) (hI.need 10 rfl (by kernel_rfl) h9)))] at hn; cases hn
          have s10 := hI.u10 l10
          go_simp
          have hK2 := hK _ _ (hI.other (i := 5) (v := .string S) rfl hd (by decide) (by decide) (by decide) rfl)
          simp (config := { decide := true }) only [upd, if_false, if_true, s10] at hK2
          exact hK2
        refine ⟨?_, ?_⟩
        · intro L ys W hn hd hI K hK
          have d5 : ys 5 = .string S := hI.vals 5 (by decide) (by decide) (by decide) (waits_at hd (by kernel_rfl))
          go_simp
          have hK2 := hK _ _ (hI.other (i := 6) (v := .int .i64 (q : Nat)) rfl hd (by decide) (by decide) (by decide) rfl)
          simp (config := { decide := true }) only [upd, if_false, if_true, d5] at hK2
          exact hK2
        refine ⟨?_, ?_⟩
        · intro L ys W hn hd hI K hK
          have d6 : ys 6 = .int .i64 (q : Nat) := hI.vals 6 (by decide) (by decide) (by decide) (waits_at hd (by kernel_rfl))
          go_simp
          have hK2 := hK _ _ (hI.other (i := 7) (v := .int .i64 (q4 : Nat)) rfl hd (by decide) (by decide) (by decide) rfl)
          simp (config := { decide := true }) only [upd, if_false, if_true, d6] at hK2
          exact hK2
        refine ⟨?_, ?_⟩
        · intro L ys W hn hd hI K hK
          have d4 : ys 4 = .string S := hI.vals 4 (by decide) (by decide) (by decide) (waits_at hd (by kernel_rfl))
          have d7 : ys 7 = .int .i64 (q4 : Nat) := hI.vals 7 (by decide) (by decide) (by decide) (waits_at hd (by kernel_rfl))
          go_simp
          have hK2 := hK _ _ (hI.other (i := 8) (v := .string S2) rfl hd (by decide) (by decide) (by decide) rfl)
          simp (config := { decide := true }) only [upd, if_false, if_true, d4, d7] at hK2
          exact hK2
        refine ⟨?_, ?_⟩
        · intro L ys W hn hd hI K hK
          go_simp
          have hK2 := hK _ _ (hI.nineth rfl hd)
          simp (config := { decide := true }) only [upd, if_false, if_true] at hK2
          exact hK2
        refine ⟨?_, ?_⟩
        · intro L ys W hn hd hI K hK
          have d8 : ys 8 = .string S2 := hI.vals 8 (by decide) (by decide) (by decide) (waits_at hd (by kernel_rfl))
          go_simp
          have hK2 := hK _ _ (hI.other (i := 10) (v := .string S2) rfl hd (by decide) (by decide) (by decide) rfl)
          simp (config := { decide := true }) only [upd, if_false, if_true, d8] at hK2
          exact hK2
        trivial
        intro L2 ys W hL2 hI
        have e3 := hI.new (hL2 3 (by decide))
        have e9 := hI.nine (hL2 9 (by decide))
        have e10 : ys 10 = .string S2 := hI.vals 10 (by decide) (by decide) (by decide) (hL2 10 (by decide))
        have eb := hI.below
        rw [← HD3.out, ← e9] at e3
        have E3 := Lib.hid e3
        have EB := Lib.hid eb
        simp only [e10]
        clear e3 e9 e10 eb hI hL2
        generalize ys 0 = y0 at *
        generalize ys 1 = y1 at *
        generalize ys 2 = y2 at *
        generalize ys 3 = y3 at *
        generalize ys 4 = y4 at *
        generalize ys 5 = y5 at *
        generalize ys 6 = y6 at *
        generalize ys 7 = y7 at *
        generalize ys 8 = y8 at *
        generalize ys 9 = y9 at *
        trace_state
        go_wp2
        go_roundw
        case rel => exact ⟨j + 1, by omega, by rw [← hS2'.out]; congr 2; omega, E3.out, EB.out⟩
        case measure => rw [← hS2'.out]; have := HEXT.out 0 (q - 4) (by omega); simp [this]; omega
    · have hjt := HTOP.out j hj (by omega)
      have hal := HALL.out 0 (s.size - 4 * j)
      rw [hqq] at hq hal hjt ⊢
      rw [Nat.sub_zero] at hq
      obtain ⟨ht1, ht2⟩ := hjt
      have AA := Lib.hid (fun W => A.out (s.extract 0 q) (by omega) (by omega) hal W)
      rw [ht1] at AA
      obtain ⟨S, hS⟩ : ∃ S, s.extract 0 q = S := ⟨_, rfl⟩
      rw [hS] at hq AA ⊢
      have hqi : ¬ (4 : Int) < (q : Int) := by omega
      obtain ⟨r, hr⟩ : ∃ r, rdg X j = r := ⟨_, rfl⟩
      rw [hr] at AA D3 hr0
      have HD3 := Lib.hid D3
      have HT2 := Lib.hid ht2
      have HROW := Lib.hid hrow
      have HW := Lib.hid hw
      clear hal ht1 ht2 hS hr D3 hrow hw
      go_upto_region 6 with (first | (go_at_call 82; with_reducible refine (AA.out _).mono ?_; rintro e w2 ⟨rfl, hw2⟩))
      have hbw2 : Below wr.heap.size wr w2 := by
        rcases hw2 with rfl | ⟨t, rfl⟩
        · exact Below.refl _ _
        · exact Lib.bytesWorld_below _ _ _
      have hrow2 := own_below HROW.out hbw2
      have hww2 : Below D w w2 := HW.out.trans (hbw2.mono hsz)
      have hsz2 : D ≤ w2.heap.size := Nat.le_trans hsz hbw2.size
      clear hw2
      go_wp2_with (at_builtin; refine wpList_append_own _ rfl _ _ 86 rfl D 3 i0 (.int .i64 0) 1 8 Tryz.underlying86 hi0 hz0 hz1 hz2 rfl (by decide) _ _ _ rfl (hrow2.alloc _) ⟨w2.heap.size, 0, none⟩ 1 1 [.int .i64 (r : Nat)] rfl rfl (cell_one_new _ _ _) (by simp [Value.oneCell']) (by unfold maxLen; omega) (by omega) (by simp; omega) ?_; intro v' w6 hown' hgrow _)
      have hb6 := grown_below hsz2 hrow2 hgrow
      have hown6 : w6.ownsRow D 3 1 v' (j + 1) (rpcs X (j + 1)) := by rw [HD3.out]; simpa using hown'
      obtain ⟨sa, cap, b, rfl, hR, _⟩ := rrow_of hown6 HT2.out
      have hSH := Lib.hid (SH.out sa (j + 1) cap b 0 w6 hR (by omega))
      have hRt := Lib.hid hR.trim
      have HFIN := Lib.hid (hww2.trans hb6)
      clear hR hown6 hown' hgrow hb6 hrow2
      go_wp2_with fail
      refine hSH.out.mono ?_
      rintro e w7 ⟨rfl, hww⟩
      subst w7
      go_wp2
      go_ret
      exact ⟨⟨_, rfl, sa, cap, b, 0, rfl, hRt.out⟩, by rw [hD]; exact HFIN.out⟩
end Go.Proofs.YtkoljddejjfbiaaGreatDoor
/- How fits is met; sizes of sums and products. -/
namespace Go.Proofs.YtkoljddejjfbiaaGreatDoor
open Go Go.RowKit Go.Shelf

theorem alloc_cell (W : World) (l : List Value) (T : TypeId) (k : Nat) : (W.alloc (.cells l.toArray T)).cell? ⟨W.heap.size, k, none⟩ = l[k]? := by
  rw [Lib.cell_of_heap (heap_at rfl)]; simp
theorem lt_add {x y : Int} {k : Nat} (hx : x.natAbs < 10 ^ k) (hy : y.natAbs < 10 ^ k) : (x + y).natAbs < 10 ^ (k + 1) := by
  rw [Nat.pow_succ]; omega
theorem lt_sub {x y : Int} {k : Nat} (hx : x.natAbs < 10 ^ k) (hy : y.natAbs < 10 ^ k) : (x - y).natAbs < 10 ^ (k + 1) := by
  rw [Nat.pow_succ]; omega
theorem lt_mul {x y : Int} {j k : Nat} (hx : x.natAbs < 10 ^ j) (hy : y.natAbs < 10 ^ k) : (x * y).natAbs < 10 ^ (j + k) := by
  rw [Int.natAbs_mul, Nat.pow_add]
  exact Nat.mul_lt_mul'' hx hy
theorem lt_up {x : Int} {j k : Nat} (hx : x.natAbs < 10 ^ j) (h : j ≤ k) : x.natAbs < 10 ^ k := Nat.lt_of_lt_of_le hx (Nat.pow_le_pow_right (by decide) h)
theorem fit_lt {s : ByteArray} (h : fitB s = true) : (iv s).natAbs < 10 ^ 90 := by
  obtain ⟨h1, h2⟩ := fit_cn h
  have h3 := dgs_len s.data.toList
  rw [size_list] at h3
  exact lt_up (iv_lt h1.canon) (by omega)
theorem sgn_neg (z : Int) : sgn (-z) = -sgn z := by
  unfold sgn
  by_cases h : z = 0
  · subst h; rfl
  · rw [if_neg h, if_neg (by omega)]
    by_cases h2 : z < 0
    · rw [if_pos h2, if_neg (by omega)]; rfl
    · rw [if_neg h2, if_pos (by omega)]
theorem sgn_le (z : Int) : -1 ≤ sgn z ∧ sgn z ≤ 1 := by
  unfold sgn
  split
  · omega
  · split <;> omega
end Go.Proofs.YtkoljddejjfbiaaGreatDoor
/- The reference's Neg, Sign, Add, Sub, Compare and Mul over canonical integers. -/
namespace Go.Proofs.YtkoljddejjfbiaaGreatDoor
open Go Go.RowKit Go.Shelf

theorem iv_sv {s : ByteArray} (_h : Im.canonI s.data.toList = true) : iv s = sv (mns s.data.toList) (Im.valL (Im.dgs s.data.toList)) := by
  unfold iv Im.ivL mns Im.dgs sv
  by_cases h : s.data.toList.head? = some 45
  · rw [if_pos h, if_pos h, decide_eq_true h]; rfl
  · rw [if_neg h, if_neg h, decide_eq_false h]; rfl
theorem mns_iff {s : ByteArray} (h : Im.canonI s.data.toList = true) : mns s.data.toList = decide (iv s < 0) := by
  unfold mns
  have e := Im.itoa_ivL h
  congr 1
  apply propext
  rw [← Im.itoa_head (iv s)]
  unfold iv
  rw [e]
theorem neg_minus {s : ByteArray} (h : Im.canonI s.data.toList = true) (hm : mns s.data.toList = true) : tz (-iv s) = ⟨(Im.dgs s.data.toList).toArray⟩ := by
  have hz : iv s < 0 := by rw [mns_iff h] at hm; simpa using hm
  have e : Lib.itoa (iv s) = s.data.toList := Im.itoa_ivL h
  apply ext_bytes
  show Lib.itoa (-iv s) = Im.dgs s.data.toList
  rw [← e, Im.dgs_itoa, Im.itoa_nonneg (by omega), show (-iv s).toNat = (iv s).natAbs by omega]
theorem neg_plus {s : ByteArray} (h : Im.canonI s.data.toList = true) (hm : mns s.data.toList = false) (h0 : s.data.toList ≠ [48]) : tz (-iv s) = ⟨(45 :: s.data.toList).toArray⟩ := by
  have hz : ¬ iv s < 0 := by rw [mns_iff h] at hm; simpa using hm
  have e : Lib.itoa (iv s) = s.data.toList := Im.itoa_ivL h
  have hz0 : iv s ≠ 0 := fun hz => h0 (by rw [← e, hz]; exact (Im.itoa_nonneg (Int.le_refl 0)).trans Im.dec_zero)
  apply ext_bytes
  show Lib.itoa (-iv s) = 45 :: s.data.toList
  rw [Im.itoa_neg (by omega), ← e, Im.itoa_nonneg (by omega), show (-iv s).natAbs = (iv s).toNat by omega]
theorem iv_zero {s : ByteArray} (h : s.data.toList = [48]) : iv s = 0 := by unfold iv; rw [h]; decide
theorem zero_iv {s : ByteArray} (h : Im.canonI s.data.toList = true) : s.data.toList = [48] ↔ iv s = 0 := by
  refine ⟨iv_zero, fun hz => ?_⟩
  have e : Lib.itoa (iv s) = s.data.toList := Im.itoa_ivL h
  rw [← e, hz]; exact (Im.itoa_nonneg (Int.le_refl 0)).trans Im.dec_zero

theorem rneg_c (s : ByteArray) (hs : Cn s) (w : World) :
    Calls Tryz.prog 80 #[.string s] w fun e w' => e = .returned (.string (tz (-iv s))) ∧ Below w.heap.size w w' := by
  have C := Lib.hid (fun W => cut_any s (by have := hs.size; omega) W)
  have hsz := hs.size
  by_cases h0 : s.data.toList = [48]
  · have e : tz (-iv s) = ⟨#[48]⟩ := by rw [iv_zero h0]; exact ext_bytes ((Im.itoa_nonneg (Int.le_refl 0)).trans Im.dec_zero)
    rw [e]
    obtain rfl : s = ⟨#[48]⟩ := ext_bytes h0
    rw [show mns (ByteArray.mk #[48]).data.toList = false by decide, show Im.dgs (ByteArray.mk #[48]).data.toList = [48] by decide] at C
    clear e h0
    go_enter Tryz.func80, Tryz.ntmps80
    go_wp2_with fail
    refine (C.out _).mono ?_
    rintro e w1 ⟨rfl, m1, rfl⟩
    go_wp2
    go_ret
    exact ⟨rfl, drew_below _ _⟩
  · have h0' : ¬ s.toList = [48] := by rw [toList_eq]; exact h0
    have h0b : (s.toList == [48]) = false := by rw [beq_eq_false_iff_ne]; exact h0'
    have h0s : ¬ s = ⟨#[48]⟩ := fun e => h0 (by rw [e])
    cases hm : mns s.data.toList with
    | true =>
      have e := neg_minus hs.canon hm
      rw [e]
      rw [hm] at C
      clear e hs hm h0
      generalize Im.dgs s.data.toList = d at *
      go_enter Tryz.func80, Tryz.ntmps80
      go_wp2_with fail
      refine (C.out _).mono ?_
      rintro e w1 ⟨rfl, m1, rfl⟩
      go_wp2
      go_ret
      exact ⟨rfl, drew_below _ _⟩
    | false =>
      have e := neg_plus hs.canon hm h0
      rw [e]
      rw [hm] at C
      have hcl : ¬ 9223372036854775807 < 1 + s.size := by omega
      have HE := Lib.hid (show (ByteArray.mk (45 :: s.data.toList).toArray) = ⟨#[45]⟩ ++ s from ext_bytes (by simp))
      clear e hs hm h0
      generalize Im.dgs s.data.toList = d at *
      go_enter Tryz.func80, Tryz.ntmps80
      go_wp2_with fail
      refine (C.out _).mono ?_
      rintro e w1 ⟨rfl, m1, rfl⟩
      go_wp2
      go_ret
      exact ⟨by rw [HE.out]; rfl, drew_below _ _⟩
theorem rsign_c (s : ByteArray) (hs : Cn s) (w : World) :
    Calls Tryz.prog 58 #[.string s] w fun e w' => e = .returned (.int .i64 (sgn (iv s))) ∧ Below w.heap.size w w' := by
  have C := Lib.hid (fun W => cut_any s (by have := hs.size; omega) W)
  have T0 := Lib.hid (fun W => toInt_any false W)
  have T1 := Lib.hid (fun W => toInt_any true W)
  have hmi := mns_iff hs.canon
  by_cases h0 : s.data.toList = [48]
  · have e : sgn (iv s) = 0 := by rw [iv_zero h0]; rfl
    rw [e]
    obtain rfl : s = ⟨#[48]⟩ := ext_bytes h0
    rw [show mns (ByteArray.mk #[48]).data.toList = false by decide, show Im.dgs (ByteArray.mk #[48]).data.toList = [48] by decide] at C
    clear e h0 hmi
    go_enter Tryz.func58, Tryz.ntmps58
    go_wp2_with fail
    refine (C.out _).mono ?_
    rintro e w1 ⟨rfl, m1, rfl⟩
    go_wp2
    go_ret
    exact ⟨rfl, drew_below _ _⟩
  · have h0' : ¬ s.toList = [48] := by rw [toList_eq]; exact h0
    have h0b : (s.toList == [48]) = false := by rw [beq_eq_false_iff_ne]; exact h0'
    have h0s : ¬ s = ⟨#[48]⟩ := fun e => h0 (by rw [e])
    have hz0 : iv s ≠ 0 := fun e => h0 ((zero_iv hs.canon).2 e)
    cases hm : mns s.data.toList with
    | true =>
      have hz : iv s < 0 := by rw [hmi] at hm; simpa using hm
      have e : sgn (iv s) = -1 := by unfold sgn; rw [if_neg hz0, if_pos hz]
      rw [e]
      rw [hm] at C
      clear e hs hm h0 hmi hz hz0
      generalize Im.dgs s.data.toList = d at *
      go_enter Tryz.func58, Tryz.ntmps58
      go_wp2_with fail
      refine (C.out _).mono ?_
      rintro e w1 ⟨rfl, m1, rfl⟩
      go_wp2_with fail
      refine (T1.out _).mono ?_
      rintro e w2 ⟨rfl, hww⟩
      subst w2
      go_wp2
      go_ret
      exact ⟨rfl, drew_below _ _⟩
    | false =>
      have hz : ¬ iv s < 0 := by rw [hmi] at hm; simpa using hm
      have e : sgn (iv s) = 1 := by unfold sgn; rw [if_neg hz0, if_neg hz]
      rw [e]
      rw [hm] at C
      clear e hs hm h0 hmi hz hz0
      generalize Im.dgs s.data.toList = d at *
      go_enter Tryz.func58, Tryz.ntmps58
      go_wp2_with fail
      refine (C.out _).mono ?_
      rintro e w1 ⟨rfl, m1, rfl⟩
      go_wp2_with fail
      refine (T0.out _).mono ?_
      rintro e w2 ⟨rfl, hww⟩
      subst w2
      go_wp2
      go_ret
      exact ⟨rfl, drew_below _ _⟩

/-- What Cut and group make of a canonical integer. -/
theorem group_c (s : ByteArray) (hs : Cn s) (hl : s.size ≤ 40000) :
    ∃ (m : Bool) (d : ByteArray) (X : Nat), iv s = sv m X ∧ rnd X ≤ d.size ∧ 1 ≤ d.size ∧ d.size ≤ s.size ∧ X < 10 ^ d.size ∧
      (smallB s.data.toList = decide (d.size ≤ 18)) ∧
      (∀ W, Calls Tryz.prog 60 #[.string s] W fun e w' => e = .returned (.tuple #[.bool m, .string d]) ∧ ∃ k, w' = W.drewN k) ∧
      (∀ W, Calls Tryz.prog 64 #[.string d] W fun e w' => (∃ v, e = .returned v ∧ RMag w' v X) ∧ Below W.heap.size W w') := by
  obtain ⟨c1, c2⟩ := Im.canonI_canon hs.canon
  obtain ⟨c3, c4, c5⟩ := Im.canonL_iff.1 c1
  have hlen := dgs_len s.data.toList
  rw [size_list] at hlen
  have hsz : (ByteArray.mk (Im.dgs s.data.toList).toArray).size = (Im.dgs s.data.toList).length := size_mk _
  have h1 : 1 ≤ (Im.dgs s.data.toList).length := by
    cases hd : Im.dgs s.data.toList with
    | nil => exact absurd hd c3
    | cons _ _ => simp
  have hlt := Im.val_lt c4
  refine ⟨mns s.data.toList, ⟨(Im.dgs s.data.toList).toArray⟩, Im.valL (Im.dgs s.data.toList), iv_sv hs.canon, ?_, by rw [hsz]; exact h1, by rw [hsz]; exact hlen, by rw [hsz]; exact hlt, ?_, fun W => cut_any s (by omega) W, fun W => ?_⟩
  · rw [hsz]
    exact Im.nd_le rb2 (Nat.lt_of_lt_of_le hlt (Nat.pow_le_pow_left (by unfold RB; omega) _))
  · rw [hsz]; unfold smallB; rw [hs.canon, Bool.true_and]
  · exact group_any ⟨(Im.dgs s.data.toList).toArray⟩ (by rw [hsz]; omega) (by rw [hsz]; exact h1) c4 W
theorem cmp_lt {X Y : Nat} (h : X < Y) : cmpN X Y = -1 := by unfold cmpN; rw [if_pos h]
theorem cmp_ge {X Y : Nat} (h : ¬ X < Y) : ∃ c : Nat, cmpN X Y = (c : Int) ∧ c ≤ 1 := by
  unfold cmpN
  rw [if_neg h]
  by_cases h2 : Y < X
  · rw [if_pos h2]; exact ⟨1, rfl, by decide⟩
  · rw [if_neg h2]; exact ⟨0, rfl, by decide⟩
theorem rnd_add {x y k : Nat} (hx : rnd x ≤ k) (hy : rnd y ≤ k) : rnd (x + y) ≤ k + 1 := by
  refine Im.nd_le rb2 ?_
  have h1 := Nat.lt_of_lt_of_le (Im.lt_pow_nd rb2 x) (Nat.pow_le_pow_right (by unfold RB; omega) hx)
  have h2 := Nat.lt_of_lt_of_le (Im.lt_pow_nd rb2 y) (Nat.pow_le_pow_right (by unfold RB; omega) hy)
  rw [Nat.pow_succ]
  generalize RB ^ k = p at *
  unfold RB
  omega
theorem rnd_mono {x y : Nat} (h : x ≤ y) : rnd x ≤ rnd y := Im.nd_mono rb2 h
theorem rnd_mul (x y : Nat) : rnd (x * y) ≤ rnd x + rnd y := by
  refine Im.nd_le rb2 ?_
  rw [Nat.pow_add]
  exact Nat.mul_lt_mul'' (Im.lt_pow_nd rb2 _) (Im.lt_pow_nd rb2 _)

set_option maxHeartbeats 1000000 in
theorem radd_few (s t : ByteArray) (hs : Cn s) (ht : Cn t) (ls : s.size ≤ 40000) (lt : t.size ≤ 40000) (mx my : Bool) (d1 d2 : ByteArray) (X Y : Nat) (ex : iv s = sv mx X) (ey : iv t = sv my Y) (_bx : X < 10 ^ d1.size) (_by : Y < 10 ^ d2.size) (b1 : smallB s.data.toList = decide (d1.size ≤ 18)) (b2 : smallB t.data.toList = decide (d2.size ≤ 18)) (h1 : d1.size < 18) (h2 : d2.size < 18)
    (C1 : Hid (∀ W, Calls Tryz.prog 60 #[.string s] W fun e w' => e = .returned (.tuple #[.bool mx, .string d1]) ∧ ∃ k, w' = W.drewN k)) (C2 : Hid (∀ W, Calls Tryz.prog 60 #[.string t] W fun e w' => e = .returned (.tuple #[.bool my, .string d2]) ∧ ∃ k, w' = W.drewN k)) (w : World) (G : Gi w) :
    Calls Tryz.prog 79 #[.string s, .string t] w fun e w' => e = .returned (.string (tz (iv s + iv t))) ∧ Below w.heap.size w w' := by
  have S1 := Lib.hid (fun W => rsmall_any s (by omega) hs.canon W)
  have S2 := Lib.hid (fun W => rsmall_any t (by omega) ht.canon W)
  obtain ⟨v1, u1, u2⟩ := small_iv (s := s) (by rw [b1]; simp; omega)
  obtain ⟨v2, u3, u4⟩ := small_iv (s := t) (by rw [b2]; simp; omega)
  rw [v1, show smallB s.data.toList = true by rw [b1]; simp; omega] at S1
  rw [v2, show smallB t.data.toList = true by rw [b2]; simp; omega] at S2
  have O := Lib.hid (fun W G => rof_any (iv s + iv t) (by omega) (by omega) W G)
  clear hs ht ls lt ex ey _bx _by b1 b2 v1 v2
  have g1 : (d1.size : Int) < 18 := by omega
  have g2 : (d2.size : Int) < 18 := by omega
  generalize iv s = x at *
  generalize iv t = y at *
  go_enter Tryz.func79, Tryz.ntmps79
  go_wp2_with fail
  refine (C1.out _).mono ?_
  rintro e w1 ⟨rfl, m1, hw1⟩
  have q1 : Below w.heap.size w w1 := by rw [hw1]; exact drew_below _ _
  clear hw1
  go_wp2_with fail
  refine (C2.out _).mono ?_
  rintro e w2 ⟨rfl, m2, hw2⟩
  have q2 : Below w.heap.size w w2 := by rw [hw2]; exact q1.trans (drew_below _ _ |>.mono q1.size)
  clear hw2
  go_wp2_with fail
  refine (S1.out _).mono ?_
  rintro e w3 ⟨rfl, hb3⟩
  have q3 := q2.trans (hb3.mono q2.size)
  go_wp2_with fail
  refine (S2.out _).mono ?_
  rintro e w4 ⟨rfl, hb4⟩
  have q4 := q3.trans (hb4.mono q3.size)
  go_wp2_with fail
  refine (O.out _ (G.below q4)).mono ?_
  rintro e w5 ⟨rfl, hb5⟩
  go_wp2
  go_ret
  exact ⟨rfl, q4.trans (hb5.mono q4.size)⟩
set_option maxHeartbeats 1000000 in
theorem radd_bigA (s t : ByteArray) (mx my : Bool) (d1 d2 : ByteArray) (X Y : Nat) (nx : rnd X ≤ 40000) (ny : rnd Y ≤ 40000) (hc : 18 ≤ d1.size)
    (C1 : Hid (∀ W, Calls Tryz.prog 60 #[.string s] W fun e w' => e = .returned (.tuple #[.bool mx, .string d1]) ∧ ∃ k, w' = W.drewN k)) (C2 : Hid (∀ W, Calls Tryz.prog 60 #[.string t] W fun e w' => e = .returned (.tuple #[.bool my, .string d2]) ∧ ∃ k, w' = W.drewN k))
    (G1 : Hid (∀ W, Calls Tryz.prog 64 #[.string d1] W fun e w' => (∃ v, e = .returned v ∧ RMag w' v X) ∧ Below W.heap.size W w')) (G2 : Hid (∀ W, Calls Tryz.prog 64 #[.string d2] W fun e w' => (∃ v, e = .returned v ∧ RMag w' v Y) ∧ Below W.heap.size W w')) (w : World) (G : Gi w) :
    Calls Tryz.prog 79 #[.string s, .string t] w fun e w' => e = .returned (.string (tz (sv mx X + sv my Y))) ∧ Below w.heap.size w w' := by
  have g1 : ¬ (d1.size : Int) < 18 := by omega
  clear hc
  by_cases hm : mx = my
  · subst hm
    rw [sv_same]
    go_enter Tryz.func79, Tryz.ntmps79
    go_wp2_with fail
    refine (C1.out _).mono ?_
    rintro e w1 ⟨rfl, m1, hw1⟩
    have q1 : Below w.heap.size w w1 := by rw [hw1]; exact drew_below _ _
    clear hw1
    go_wp2_with fail
    refine (C2.out _).mono ?_
    rintro e w2 ⟨rfl, m2, hw2⟩
    have q2 : Below w.heap.size w w2 := by rw [hw2]; exact q1.trans (drew_below _ _ |>.mono q1.size)
    clear hw2
    go_wp2_with fail
    refine (G1.out _).mono ?_
    rintro e w3 ⟨⟨v3, rfl, h3⟩, hb3⟩
    have q3 := q2.trans (hb3.mono q2.size)
    go_wp2_with fail
    refine (G2.out _).mono ?_
    rintro e w4 ⟨⟨v4, rfl, h4⟩, hb4⟩
    have q4 := q3.trans (hb4.mono q3.size)
    have h3' := h3.call hb4
    obtain ⟨sx, cx, bx, ox, rfl, r3⟩ := h3'
    obtain ⟨sy, cy, by_, oy, rfl, r4⟩ := h4
    go_wp2_with fail
    refine (both_add sx _ cx bx ox _ sy _ cy by_ oy _ (X + Y) (by push_cast; omega) _ r3 r4 (by omega) (by omega)).mono ?_
    rintro e w5 ⟨⟨v5, rfl, h5⟩, hb5⟩
    have q5 := q4.trans (hb5.mono q4.size)
    go_wp2_with fail
    refine (whole_any mx v5 _ _ h5 (by have := rnd_add (k := 40000) nx ny; omega) (G.below q5)).mono ?_
    rintro e w6 ⟨rfl, hb6⟩
    go_wp2
    go_ret
    exact ⟨rfl, q5.trans (hb6.mono q5.size)⟩
  · have hmb : (mx == my) = false := by simpa using hm
    by_cases hl : X < Y
    · rw [sv_lt hm hl]
      go_enter Tryz.func79, Tryz.ntmps79
      go_wp2_with fail
      refine (C1.out _).mono ?_
      rintro e w1 ⟨rfl, m1, hw1⟩
      have q1 : Below w.heap.size w w1 := by rw [hw1]; exact drew_below _ _
      clear hw1
      go_wp2_with fail
      refine (C2.out _).mono ?_
      rintro e w2 ⟨rfl, m2, hw2⟩
      have q2 : Below w.heap.size w w2 := by rw [hw2]; exact q1.trans (drew_below _ _ |>.mono q1.size)
      clear hw2
      go_wp2_with fail
      refine (G1.out _).mono ?_
      rintro e w3 ⟨⟨v3, rfl, h3⟩, hb3⟩
      have q3 := q2.trans (hb3.mono q2.size)
      go_wp2_with fail
      refine (G2.out _).mono ?_
      rintro e w4 ⟨⟨v4, rfl, h4⟩, hb4⟩
      have q4 := q3.trans (hb4.mono q3.size)
      have h3' := h3.call hb4
      go_wp2_with fail
      refine (order_mag _ _ X Y _ h3' h4 (by omega)).mono ?_
      rintro e wo ⟨rfl, mo, hwo⟩
      have qo : Below w4.heap.size w4 wo := by rw [hwo]; exact drew_below _ _
      have h3o := h3'.call qo
      have h4o := h4.call qo
      have q4o := q4.trans (qo.mono q4.size)
      clear hwo
      rw [cmp_lt hl]
      obtain ⟨sx, cx, bx, ox, rfl, r3⟩ := h4o
      obtain ⟨sy, cy, by_, oy, rfl, r4⟩ := h3o
      go_wp2_with fail
      refine (both_sub sx _ cx bx ox _ sy _ cy by_ oy _ (Y - X) (by omega) _ r3 r4 (by omega) (by omega)).mono ?_
      rintro e w5 ⟨⟨v5, rfl, h5⟩, hb5⟩
      have q5 := q4o.trans (hb5.mono q4o.size)
      go_wp2_with fail
      refine (whole_any my v5 _ _ h5 (by have := rnd_mono (show Y - X ≤ Y by omega); omega) (G.below q5)).mono ?_
      rintro e w6 ⟨rfl, hb6⟩
      go_wp2
      go_ret
      exact ⟨rfl, q5.trans (hb6.mono q5.size)⟩
    · rw [sv_ge hm hl]
      go_enter Tryz.func79, Tryz.ntmps79
      go_wp2_with fail
      refine (C1.out _).mono ?_
      rintro e w1 ⟨rfl, m1, hw1⟩
      have q1 : Below w.heap.size w w1 := by rw [hw1]; exact drew_below _ _
      clear hw1
      go_wp2_with fail
      refine (C2.out _).mono ?_
      rintro e w2 ⟨rfl, m2, hw2⟩
      have q2 : Below w.heap.size w w2 := by rw [hw2]; exact q1.trans (drew_below _ _ |>.mono q1.size)
      clear hw2
      go_wp2_with fail
      refine (G1.out _).mono ?_
      rintro e w3 ⟨⟨v3, rfl, h3⟩, hb3⟩
      have q3 := q2.trans (hb3.mono q2.size)
      go_wp2_with fail
      refine (G2.out _).mono ?_
      rintro e w4 ⟨⟨v4, rfl, h4⟩, hb4⟩
      have q4 := q3.trans (hb4.mono q3.size)
      have h3' := h3.call hb4
      go_wp2_with fail
      refine (order_mag _ _ X Y _ h3' h4 (by omega)).mono ?_
      rintro e wo ⟨rfl, mo, hwo⟩
      have qo : Below w4.heap.size w4 wo := by rw [hwo]; exact drew_below _ _
      have h3o := h3'.call qo
      have h4o := h4.call qo
      have q4o := q4.trans (qo.mono q4.size)
      clear hwo
      obtain ⟨cc, hcc, hc1⟩ := cmp_ge hl
      rw [hcc]
      have hcn : ¬ (cc : Int) < 0 := by omega
      clear hcc
      obtain ⟨sx, cx, bx, ox, rfl, r3⟩ := h3o
      obtain ⟨sy, cy, by_, oy, rfl, r4⟩ := h4o
      go_wp2_with fail
      refine (both_sub sx _ cx bx ox _ sy _ cy by_ oy _ (X - Y) (by omega) _ r3 r4 (by omega) (by omega)).mono ?_
      rintro e w5 ⟨⟨v5, rfl, h5⟩, hb5⟩
      have q5 := q4o.trans (hb5.mono q4o.size)
      go_wp2_with fail
      refine (whole_any mx v5 _ _ h5 (by have := rnd_mono (show X - Y ≤ X by omega); omega) (G.below q5)).mono ?_
      rintro e w6 ⟨rfl, hb6⟩
      go_wp2
      go_ret
      exact ⟨rfl, q5.trans (hb6.mono q5.size)⟩
set_option maxHeartbeats 1000000 in
theorem radd_bigB (s t : ByteArray) (mx my : Bool) (d1 d2 : ByteArray) (X Y : Nat) (nx : rnd X ≤ 40000) (ny : rnd Y ≤ 40000) (hc : d1.size < 18 ∧ 18 ≤ d2.size)
    (C1 : Hid (∀ W, Calls Tryz.prog 60 #[.string s] W fun e w' => e = .returned (.tuple #[.bool mx, .string d1]) ∧ ∃ k, w' = W.drewN k)) (C2 : Hid (∀ W, Calls Tryz.prog 60 #[.string t] W fun e w' => e = .returned (.tuple #[.bool my, .string d2]) ∧ ∃ k, w' = W.drewN k))
    (G1 : Hid (∀ W, Calls Tryz.prog 64 #[.string d1] W fun e w' => (∃ v, e = .returned v ∧ RMag w' v X) ∧ Below W.heap.size W w')) (G2 : Hid (∀ W, Calls Tryz.prog 64 #[.string d2] W fun e w' => (∃ v, e = .returned v ∧ RMag w' v Y) ∧ Below W.heap.size W w')) (w : World) (G : Gi w) :
    Calls Tryz.prog 79 #[.string s, .string t] w fun e w' => e = .returned (.string (tz (sv mx X + sv my Y))) ∧ Below w.heap.size w w' := by
  have g1 : (d1.size : Int) < 18 := by omega
  have g2 : ¬ (d2.size : Int) < 18 := by omega
  clear hc
  by_cases hm : mx = my
  · subst hm
    rw [sv_same]
    go_enter Tryz.func79, Tryz.ntmps79
    go_wp2_with fail
    refine (C1.out _).mono ?_
    rintro e w1 ⟨rfl, m1, hw1⟩
    have q1 : Below w.heap.size w w1 := by rw [hw1]; exact drew_below _ _
    clear hw1
    go_wp2_with fail
    refine (C2.out _).mono ?_
    rintro e w2 ⟨rfl, m2, hw2⟩
    have q2 : Below w.heap.size w w2 := by rw [hw2]; exact q1.trans (drew_below _ _ |>.mono q1.size)
    clear hw2
    go_wp2_with fail
    refine (G1.out _).mono ?_
    rintro e w3 ⟨⟨v3, rfl, h3⟩, hb3⟩
    have q3 := q2.trans (hb3.mono q2.size)
    go_wp2_with fail
    refine (G2.out _).mono ?_
    rintro e w4 ⟨⟨v4, rfl, h4⟩, hb4⟩
    have q4 := q3.trans (hb4.mono q3.size)
    have h3' := h3.call hb4
    obtain ⟨sx, cx, bx, ox, rfl, r3⟩ := h3'
    obtain ⟨sy, cy, by_, oy, rfl, r4⟩ := h4
    go_wp2_with fail
    refine (both_add sx _ cx bx ox _ sy _ cy by_ oy _ (X + Y) (by push_cast; omega) _ r3 r4 (by omega) (by omega)).mono ?_
    rintro e w5 ⟨⟨v5, rfl, h5⟩, hb5⟩
    have q5 := q4.trans (hb5.mono q4.size)
    go_wp2_with fail
    refine (whole_any mx v5 _ _ h5 (by have := rnd_add (k := 40000) nx ny; omega) (G.below q5)).mono ?_
    rintro e w6 ⟨rfl, hb6⟩
    go_wp2
    go_ret
    exact ⟨rfl, q5.trans (hb6.mono q5.size)⟩
  · have hmb : (mx == my) = false := by simpa using hm
    by_cases hl : X < Y
    · rw [sv_lt hm hl]
      go_enter Tryz.func79, Tryz.ntmps79
      go_wp2_with fail
      refine (C1.out _).mono ?_
      rintro e w1 ⟨rfl, m1, hw1⟩
      have q1 : Below w.heap.size w w1 := by rw [hw1]; exact drew_below _ _
      clear hw1
      go_wp2_with fail
      refine (C2.out _).mono ?_
      rintro e w2 ⟨rfl, m2, hw2⟩
      have q2 : Below w.heap.size w w2 := by rw [hw2]; exact q1.trans (drew_below _ _ |>.mono q1.size)
      clear hw2
      go_wp2_with fail
      refine (G1.out _).mono ?_
      rintro e w3 ⟨⟨v3, rfl, h3⟩, hb3⟩
      have q3 := q2.trans (hb3.mono q2.size)
      go_wp2_with fail
      refine (G2.out _).mono ?_
      rintro e w4 ⟨⟨v4, rfl, h4⟩, hb4⟩
      have q4 := q3.trans (hb4.mono q3.size)
      have h3' := h3.call hb4
      go_wp2_with fail
      refine (order_mag _ _ X Y _ h3' h4 (by omega)).mono ?_
      rintro e wo ⟨rfl, mo, hwo⟩
      have qo : Below w4.heap.size w4 wo := by rw [hwo]; exact drew_below _ _
      have h3o := h3'.call qo
      have h4o := h4.call qo
      have q4o := q4.trans (qo.mono q4.size)
      clear hwo
      rw [cmp_lt hl]
      obtain ⟨sx, cx, bx, ox, rfl, r3⟩ := h4o
      obtain ⟨sy, cy, by_, oy, rfl, r4⟩ := h3o
      go_wp2_with fail
      refine (both_sub sx _ cx bx ox _ sy _ cy by_ oy _ (Y - X) (by omega) _ r3 r4 (by omega) (by omega)).mono ?_
      rintro e w5 ⟨⟨v5, rfl, h5⟩, hb5⟩
      have q5 := q4o.trans (hb5.mono q4o.size)
      go_wp2_with fail
      refine (whole_any my v5 _ _ h5 (by have := rnd_mono (show Y - X ≤ Y by omega); omega) (G.below q5)).mono ?_
      rintro e w6 ⟨rfl, hb6⟩
      go_wp2
      go_ret
      exact ⟨rfl, q5.trans (hb6.mono q5.size)⟩
    · rw [sv_ge hm hl]
      go_enter Tryz.func79, Tryz.ntmps79
      go_wp2_with fail
      refine (C1.out _).mono ?_
      rintro e w1 ⟨rfl, m1, hw1⟩
      have q1 : Below w.heap.size w w1 := by rw [hw1]; exact drew_below _ _
      clear hw1
      go_wp2_with fail
      refine (C2.out _).mono ?_
      rintro e w2 ⟨rfl, m2, hw2⟩
      have q2 : Below w.heap.size w w2 := by rw [hw2]; exact q1.trans (drew_below _ _ |>.mono q1.size)
      clear hw2
      go_wp2_with fail
      refine (G1.out _).mono ?_
      rintro e w3 ⟨⟨v3, rfl, h3⟩, hb3⟩
      have q3 := q2.trans (hb3.mono q2.size)
      go_wp2_with fail
      refine (G2.out _).mono ?_
      rintro e w4 ⟨⟨v4, rfl, h4⟩, hb4⟩
      have q4 := q3.trans (hb4.mono q3.size)
      have h3' := h3.call hb4
      go_wp2_with fail
      refine (order_mag _ _ X Y _ h3' h4 (by omega)).mono ?_
      rintro e wo ⟨rfl, mo, hwo⟩
      have qo : Below w4.heap.size w4 wo := by rw [hwo]; exact drew_below _ _
      have h3o := h3'.call qo
      have h4o := h4.call qo
      have q4o := q4.trans (qo.mono q4.size)
      clear hwo
      obtain ⟨cc, hcc, hc1⟩ := cmp_ge hl
      rw [hcc]
      have hcn : ¬ (cc : Int) < 0 := by omega
      clear hcc
      obtain ⟨sx, cx, bx, ox, rfl, r3⟩ := h3o
      obtain ⟨sy, cy, by_, oy, rfl, r4⟩ := h4o
      go_wp2_with fail
      refine (both_sub sx _ cx bx ox _ sy _ cy by_ oy _ (X - Y) (by omega) _ r3 r4 (by omega) (by omega)).mono ?_
      rintro e w5 ⟨⟨v5, rfl, h5⟩, hb5⟩
      have q5 := q4o.trans (hb5.mono q4o.size)
      go_wp2_with fail
      refine (whole_any mx v5 _ _ h5 (by have := rnd_mono (show X - Y ≤ X by omega); omega) (G.below q5)).mono ?_
      rintro e w6 ⟨rfl, hb6⟩
      go_wp2
      go_ret
      exact ⟨rfl, q5.trans (hb6.mono q5.size)⟩
theorem radd_c (s t : ByteArray) (hs : Cn s) (ht : Cn t) (ls : s.size ≤ 40000) (lt : t.size ≤ 40000) (w : World) (G : Gi w) :
    Calls Tryz.prog 79 #[.string s, .string t] w fun e w' => e = .returned (.string (tz (iv s + iv t))) ∧ Below w.heap.size w w' := by
  obtain ⟨mx, d1, X, ex, n1, o1, z1, p1, b1, C1, G1⟩ := group_c s hs ls
  obtain ⟨my, d2, Y, ey, n2, o2, z2, p2, b2, C2, G2⟩ := group_c t ht lt
  by_cases h1 : d1.size < 18
  · by_cases h2 : d2.size < 18
    · exact radd_few s t hs ht ls lt mx my d1 d2 X Y ex ey p1 p2 b1 b2 h1 h2 (Lib.hid C1) (Lib.hid C2) w G
    · rw [ex, ey]
      exact radd_bigB s t mx my d1 d2 X Y (by omega) (by omega) ⟨h1, by omega⟩ (Lib.hid C1) (Lib.hid C2) (Lib.hid G1) (Lib.hid G2) w G
  · rw [ex, ey]
    exact radd_bigA s t mx my d1 d2 X Y (by omega) (by omega) (by omega) (Lib.hid C1) (Lib.hid C2) (Lib.hid G1) (Lib.hid G2) w G
theorem len_neg {s : ByteArray} (hs : Cn s) : (tz (-iv s)).size ≤ s.size + 1 := by
  have h1 := iv_lt hs.canon
  have h2 := dgs_len s.data.toList
  rw [size_list] at h2
  have h3 : 1 ≤ s.size := by
    rw [← size_list]
    cases hl : s.data.toList with
    | nil => have := hs.canon; rw [hl] at this; exact absurd this (by decide)
    | cons _ _ => simp
  exact len_tz (k := s.size) (by rw [Int.natAbs_neg]; exact lt_up h1 h2) h3
theorem cn_neg {s : ByteArray} (hs : Cn s) (h : s.size ≤ 90000) : Cn (tz (-iv s)) := ⟨canon_tz _, by have := len_neg hs; omega⟩
theorem rsub_c (s t : ByteArray) (hs : Cn s) (ht : Cn t) (ls : s.size ≤ 30000) (lt : t.size ≤ 30000) (w : World) (G : Gi w) :
    Calls Tryz.prog 59 #[.string s, .string t] w fun e w' => e = .returned (.string (tz (iv s - iv t))) ∧ Below w.heap.size w w' := by
  have N := Lib.hid (fun W => rneg_c t ht W)
  have hl := len_neg ht
  have A := Lib.hid (fun W G => radd_c s (tz (-iv t)) hs (cn_neg ht (by omega)) (by omega) (by omega) W G)
  rw [iv_tz, ← Int.sub_eq_add_neg] at A
  clear hs ht ls lt hl
  generalize iv s = x at *
  generalize iv t = y at *
  go_enter Tryz.func59, Tryz.ntmps59
  go_wp2_with fail
  refine (N.out _).mono ?_
  rintro e w1 ⟨rfl, b1⟩
  go_wp2_with fail
  refine (A.out _ (G.below b1)).mono ?_
  rintro e w2 ⟨rfl, b2⟩
  go_wp2
  go_ret
  exact ⟨rfl, b1.trans (b2.mono b1.size)⟩
theorem iv_lt_size {s : ByteArray} (hs : Cn s) : (iv s).natAbs < 10 ^ s.size := by
  have h1 := iv_lt hs.canon
  have h2 := dgs_len s.data.toList
  rw [size_list] at h2
  exact lt_up h1 h2
theorem rcmp_c (s t : ByteArray) (hs : Cn s) (ht : Cn t) (ls : s.size ≤ 30000) (lt : t.size ≤ 30000) (w : World) (G : Gi w) :
    Calls Tryz.prog 42 #[.string s, .string t] w fun e w' => e = .returned (.int .i64 (sgn (iv s - iv t))) ∧ Below w.heap.size w w' := by
  have S := Lib.hid (fun W G => rsub_c s t hs ht ls lt W G)
  have h1 := lt_up (k := 30000) (iv_lt_size hs) ls
  have h2 := lt_up (k := 30000) (iv_lt_size ht) lt
  have N := Lib.hid (fun W => rsign_c (tz (iv s - iv t)) (cn_tz (lt_sub h1 h2) (by decide) (by decide)) W)
  rw [iv_tz] at N
  clear hs ht ls lt h1 h2
  generalize iv s - iv t = x at *
  go_enter Tryz.func42, Tryz.ntmps42
  go_wp2_with fail
  refine (S.out _ G).mono ?_
  rintro e w1 ⟨rfl, b1⟩
  go_wp2_with fail
  refine (N.out _).mono ?_
  rintro e w2 ⟨rfl, b2⟩
  go_wp2
  go_ret
  exact ⟨rfl, b1.trans (b2.mono b1.size)⟩
set_option maxHeartbeats 1000000 in
theorem rmul_few (s t : ByteArray) (hs : Cn s) (ht : Cn t) (ls : s.size ≤ 40000) (lt : t.size ≤ 40000) (mx my : Bool) (d1 d2 : ByteArray) (X Y : Nat) (ex : iv s = sv mx X) (ey : iv t = sv my Y) (bx : X < 10 ^ d1.size) (by_ : Y < 10 ^ d2.size) (b1 : smallB s.data.toList = decide (d1.size ≤ 18)) (b2 : smallB t.data.toList = decide (d2.size ≤ 18)) (h1 : d1.size < 9) (h2 : d2.size < 9)
    (C1 : Hid (∀ W, Calls Tryz.prog 60 #[.string s] W fun e w' => e = .returned (.tuple #[.bool mx, .string d1]) ∧ ∃ k, w' = W.drewN k)) (C2 : Hid (∀ W, Calls Tryz.prog 60 #[.string t] W fun e w' => e = .returned (.tuple #[.bool my, .string d2]) ∧ ∃ k, w' = W.drewN k)) (w : World) (G : Gi w) :
    Calls Tryz.prog 43 #[.string s, .string t] w fun e w' => e = .returned (.string (tz (iv s * iv t))) ∧ Below w.heap.size w w' := by
  have S1 := Lib.hid (fun W => rsmall_any s (by omega) hs.canon W)
  have S2 := Lib.hid (fun W => rsmall_any t (by omega) ht.canon W)
  obtain ⟨v1, u1, u2⟩ := small_iv (s := s) (by rw [b1]; simp; omega)
  obtain ⟨v2, u3, u4⟩ := small_iv (s := t) (by rw [b2]; simp; omega)
  rw [v1, show smallB s.data.toList = true by rw [b1]; simp; omega] at S1
  rw [v2, show smallB t.data.toList = true by rw [b2]; simp; omega] at S2
  have hx : (iv s).natAbs < 10 ^ 8 := by
    rw [ex, sv_abs]; exact Nat.lt_of_lt_of_le bx (Nat.pow_le_pow_right (by decide) (by omega))
  have hy : (iv t).natAbs < 10 ^ 8 := by
    rw [ey, sv_abs]; exact Nat.lt_of_lt_of_le by_ (Nat.pow_le_pow_right (by decide) (by omega))
  have hxy := lt_mul hx hy
  have O := Lib.hid (fun W G => rof_any (iv s * iv t) (by omega) (by omega) W G)
  clear hs ht ls lt ex ey bx by_ b1 b2 v1 v2 u1 u2 u3 u4 hx hy
  have g1 : (d1.size : Int) < 9 := by omega
  have g2 : (d2.size : Int) < 9 := by omega
  generalize iv s = x at *
  generalize iv t = y at *
  obtain ⟨p, hp⟩ : ∃ p : Int, x * y = p := ⟨_, rfl⟩
  rw [hp] at O hxy
  have hp0 : -9223372036854775808 ≤ p ∧ p ≤ 9223372036854775807 := by omega
  rw [hp]
  go_enter Tryz.func43, Tryz.ntmps43
  go_wp2_with fail
  refine (C1.out _).mono ?_
  rintro e w1 ⟨rfl, m1, hw1⟩
  have q1 : Below w.heap.size w w1 := by rw [hw1]; exact drew_below _ _
  clear hw1
  go_wp2_with fail
  refine (C2.out _).mono ?_
  rintro e w2 ⟨rfl, m2, hw2⟩
  have q2 : Below w.heap.size w w2 := by rw [hw2]; exact q1.trans (drew_below _ _ |>.mono q1.size)
  clear hw2
  go_wp2_with fail
  refine (S1.out _).mono ?_
  rintro e w3 ⟨rfl, hb3⟩
  have q3 := q2.trans (hb3.mono q2.size)
  go_wp2_with fail
  refine (S2.out _).mono ?_
  rintro e w4 ⟨rfl, hb4⟩
  have q4 := q3.trans (hb4.mono q3.size)
  go_wp2_with fail
  refine (O.out _ (G.below q4)).mono ?_
  rintro e w5 ⟨rfl, hb5⟩
  go_wp2
  go_ret
  exact ⟨rfl, q4.trans (hb5.mono q4.size)⟩
set_option maxHeartbeats 1000000 in
theorem rmul_bigA (s t : ByteArray) (mx my : Bool) (d1 d2 : ByteArray) (X Y : Nat) (nx : rnd X ≤ 40000) (ny : rnd Y ≤ 40000) (hc : 9 ≤ d1.size)
    (C1 : Hid (∀ W, Calls Tryz.prog 60 #[.string s] W fun e w' => e = .returned (.tuple #[.bool mx, .string d1]) ∧ ∃ k, w' = W.drewN k)) (C2 : Hid (∀ W, Calls Tryz.prog 60 #[.string t] W fun e w' => e = .returned (.tuple #[.bool my, .string d2]) ∧ ∃ k, w' = W.drewN k))
    (G1 : Hid (∀ W, Calls Tryz.prog 64 #[.string d1] W fun e w' => (∃ v, e = .returned v ∧ RMag w' v X) ∧ Below W.heap.size W w')) (G2 : Hid (∀ W, Calls Tryz.prog 64 #[.string d2] W fun e w' => (∃ v, e = .returned v ∧ RMag w' v Y) ∧ Below W.heap.size W w')) (w : World) (G : Gi w) :
    Calls Tryz.prog 43 #[.string s, .string t] w fun e w' => e = .returned (.string (tz (sv mx X * sv my Y))) ∧ Below w.heap.size w w' := by
  have g1 : ¬ (d1.size : Int) < 9 := by omega
  clear hc
  rw [sv_mul]
  have hb : (mx != my) = (mx != my) := rfl
  go_enter Tryz.func43, Tryz.ntmps43
  go_wp2_with fail
  refine (C1.out _).mono ?_
  rintro e w1 ⟨rfl, m1, hw1⟩
  have q1 : Below w.heap.size w w1 := by rw [hw1]; exact drew_below _ _
  clear hw1
  go_wp2_with fail
  refine (C2.out _).mono ?_
  rintro e w2 ⟨rfl, m2, hw2⟩
  have q2 : Below w.heap.size w w2 := by rw [hw2]; exact q1.trans (drew_below _ _ |>.mono q1.size)
  clear hw2
  go_wp2_with fail
  refine (G1.out _).mono ?_
  rintro e w3 ⟨⟨v3, rfl, h3⟩, hb3⟩
  have q3 := q2.trans (hb3.mono q2.size)
  go_wp2_with fail
  refine (G2.out _).mono ?_
  rintro e w4 ⟨⟨v4, rfl, h4⟩, hb4⟩
  have q4 := q3.trans (hb4.mono q3.size)
  have h3' := h3.call hb4
  go_wp2_with fail
  refine (rtimes_mag _ _ X Y _ h3' h4 (by omega)).mono ?_
  rintro e w5 ⟨⟨v5, rfl, h5⟩, hb5⟩
  have q5 := q4.trans (hb5.mono q4.size)
  go_wp2_with fail
  refine (whole_any (mx != my) v5 _ _ h5 (by have := rnd_mul X Y; omega) (G.below q5)).mono ?_
  rintro e w6 ⟨rfl, hb6⟩
  go_wp2
  go_ret
  exact ⟨rfl, q5.trans (hb6.mono q5.size)⟩
set_option maxHeartbeats 1000000 in
theorem rmul_bigB (s t : ByteArray) (mx my : Bool) (d1 d2 : ByteArray) (X Y : Nat) (nx : rnd X ≤ 40000) (ny : rnd Y ≤ 40000) (hc : d1.size < 9 ∧ 9 ≤ d2.size)
    (C1 : Hid (∀ W, Calls Tryz.prog 60 #[.string s] W fun e w' => e = .returned (.tuple #[.bool mx, .string d1]) ∧ ∃ k, w' = W.drewN k)) (C2 : Hid (∀ W, Calls Tryz.prog 60 #[.string t] W fun e w' => e = .returned (.tuple #[.bool my, .string d2]) ∧ ∃ k, w' = W.drewN k))
    (G1 : Hid (∀ W, Calls Tryz.prog 64 #[.string d1] W fun e w' => (∃ v, e = .returned v ∧ RMag w' v X) ∧ Below W.heap.size W w')) (G2 : Hid (∀ W, Calls Tryz.prog 64 #[.string d2] W fun e w' => (∃ v, e = .returned v ∧ RMag w' v Y) ∧ Below W.heap.size W w')) (w : World) (G : Gi w) :
    Calls Tryz.prog 43 #[.string s, .string t] w fun e w' => e = .returned (.string (tz (sv mx X * sv my Y))) ∧ Below w.heap.size w w' := by
  have g1 : (d1.size : Int) < 9 := by omega
  have g2 : ¬ (d2.size : Int) < 9 := by omega
  clear hc
  rw [sv_mul]
  have hb : (mx != my) = (mx != my) := rfl
  go_enter Tryz.func43, Tryz.ntmps43
  go_wp2_with fail
  refine (C1.out _).mono ?_
  rintro e w1 ⟨rfl, m1, hw1⟩
  have q1 : Below w.heap.size w w1 := by rw [hw1]; exact drew_below _ _
  clear hw1
  go_wp2_with fail
  refine (C2.out _).mono ?_
  rintro e w2 ⟨rfl, m2, hw2⟩
  have q2 : Below w.heap.size w w2 := by rw [hw2]; exact q1.trans (drew_below _ _ |>.mono q1.size)
  clear hw2
  go_wp2_with fail
  refine (G1.out _).mono ?_
  rintro e w3 ⟨⟨v3, rfl, h3⟩, hb3⟩
  have q3 := q2.trans (hb3.mono q2.size)
  go_wp2_with fail
  refine (G2.out _).mono ?_
  rintro e w4 ⟨⟨v4, rfl, h4⟩, hb4⟩
  have q4 := q3.trans (hb4.mono q3.size)
  have h3' := h3.call hb4
  go_wp2_with fail
  refine (rtimes_mag _ _ X Y _ h3' h4 (by omega)).mono ?_
  rintro e w5 ⟨⟨v5, rfl, h5⟩, hb5⟩
  have q5 := q4.trans (hb5.mono q4.size)
  go_wp2_with fail
  refine (whole_any (mx != my) v5 _ _ h5 (by have := rnd_mul X Y; omega) (G.below q5)).mono ?_
  rintro e w6 ⟨rfl, hb6⟩
  go_wp2
  go_ret
  exact ⟨rfl, q5.trans (hb6.mono q5.size)⟩
theorem rmul_c (s t : ByteArray) (hs : Cn s) (ht : Cn t) (ls : s.size ≤ 40000) (lt : t.size ≤ 40000) (w : World) (G : Gi w) :
    Calls Tryz.prog 43 #[.string s, .string t] w fun e w' => e = .returned (.string (tz (iv s * iv t))) ∧ Below w.heap.size w w' := by
  obtain ⟨mx, d1, X, ex, n1, o1, z1, p1, b1, C1, G1⟩ := group_c s hs ls
  obtain ⟨my, d2, Y, ey, n2, o2, z2, p2, b2, C2, G2⟩ := group_c t ht lt
  by_cases h1 : d1.size < 9
  · by_cases h2 : d2.size < 9
    · exact rmul_few s t hs ht ls lt mx my d1 d2 X Y ex ey p1 p2 b1 b2 h1 h2 (Lib.hid C1) (Lib.hid C2) w G
    · rw [ex, ey]
      exact rmul_bigB s t mx my d1 d2 X Y (by omega) (by omega) ⟨h1, by omega⟩ (Lib.hid C1) (Lib.hid C2) (Lib.hid G1) (Lib.hid G2) w G
  · rw [ex, ey]
    exact rmul_bigA s t mx my d1 d2 X Y (by omega) (by omega) (by omega) (Lib.hid C1) (Lib.hid C2) (Lib.hid G1) (Lib.hid G2) w G
end Go.Proofs.YtkoljddejjfbiaaGreatDoor
/- Contracts of the reference's Divisor, RightFraction, Lowest. -/
namespace Go.Proofs.YtkoljddejjfbiaaGreatDoor
open Go Go.RowKit Go.Shelf

theorem tdiv_bd {x : Int} {g : Nat} {B : Int} (h1 : -B ≤ x) (h2 : x ≤ B) : -B ≤ x.tdiv g ∧ x.tdiv g ≤ B := by
  have : (x.tdiv (g : Int)).natAbs ≤ x.natAbs := by rw [Int.natAbs_tdiv]; exact Nat.div_le_self _ _
  omega
theorem gcd_tmod2 (a b : Int) : Int.gcd b (a.tmod b) = Int.gcd a b := by rw [Int.gcd_comm b, gcd_tmod', Int.gcd_comm]
set_option maxHeartbeats 1000000 in
theorem rdivisor_any (n m : Int) (w : World) (h1 : -9223372036854775807 ≤ n) (h2 : n ≤ 9223372036854775807) (h3 : -9223372036854775807 ≤ m) (h4 : m ≤ 9223372036854775807) :
    Calls Tryz.prog 46 #[.int .i64 n, .int .i64 m] w fun e w' => e = .returned (.int .i64 (Int.gcd n m : Nat)) ∧ ∃ n, w' = w.drewN n := by
  obtain ⟨g, hg⟩ : ∃ g, Int.gcd n m = g := ⟨_, rfl⟩
  rw [hg]
  go_enter Tryz.func46, Tryz.ntmps46
  go_wp2_with fail
  go_loopw [0, 1] (fun x y wr => ∃ a b : Int, -9223372036854775807 ≤ a ∧ a ≤ 9223372036854775807 ∧ -9223372036854775807 ≤ b ∧ b ≤ 9223372036854775807 ∧ Int.gcd a b = g ∧ x = .int .i64 a ∧ y = .int .i64 b ∧ ∃ n, wr = w.drewN n) (fun _ y _ => (intOf y).natAbs)
  case atStart => exact ⟨n, m, h1, h2, h3, h4, hg, rfl, rfl, 0, rfl⟩
  case round =>
    obtain ⟨a, b, ha1, ha2, hb1, hb2, hgc, rfl, rfl, nn, rfl⟩ := hrel
    have HG := Lib.hid hgc
    clear hgc
    by_cases h : b = 0
    · subst h
      have hb : (a.natAbs : Int) = g := by rw [← HG.out]; simp
      have hmx : max a (-a) = (g : Int) := by omega
      go_wp2
      all_goals
        go_ret
        exact ⟨ret_int (by omega), nn, rfl⟩
    · have ht : ((b : Int) == 0) = false := by rw [beq_eq_false_iff_ne]; exact h
      have ht' : ((b : Int) != 0) = true := by simp [bne, ht]
      have hG := gcd_tmod2 a b
      rw [HG.out] at hG
      have hr1 : (a.tmod b).natAbs < b.natAbs := by rw [Int.natAbs_tmod]; exact Nat.mod_lt _ (by omega)
      obtain ⟨r, hr⟩ : ∃ r, a.tmod b = r := ⟨_, rfl⟩
      rw [hr] at hG hr1
      go_wp2
      go_quiet (fail)
      go_wp2
      exact ⟨⟨b, r, hb1, hb2, by omega, by omega, hG, rfl, rfl, _, World.drewN_drewN _ _ _⟩, hr1⟩

theorem rright_in (n d : Int) (w : World) (h1 : -1000000 ≤ n) (h2 : n ≤ 1000000) (h3 : 1 ≤ d) (h4 : d ≤ 1000000) :
    Calls Tryz.prog 29 #[.agg #[.int .i64 n, .int .i64 d]] w fun e w' => e = .returned (.bool (FracMath.rightB n d)) ∧ Below w.heap.size w w' := by
  have hr : FracMath.rightB n d = decide ((FracMath.gg n d : Int) = 1) := FracMath.right_in h1 h2 h3 h4
  have C := Lib.hid (fun W => rdivisor_any n d W (by omega) (by omega) (by omega) (by omega))
  have eg : Int.gcd n d = FracMath.gg n d := rfl
  rw [eg] at C
  rw [hr]
  clear hr eg
  generalize FracMath.gg n d = g at *
  by_cases ht : g = 1
  · subst ht
    go_enter Tryz.func29, Tryz.ntmps29
    go_wp2_with fail
    refine (C.out _).mono ?_
    rintro e w' ⟨rfl, nn, rfl⟩
    go_wp2
    go_ret
    exact ⟨rfl, ((Below.refl _ w).alloc (Nat.le_refl _) _).trans ((drew_below' _ nn).mono (by simp))⟩
  · have ht' : ((g : Int) == 1) = false := by simp; omega
    have hd : decide ((g : Int) = 1) = false := by simp; omega
    rw [hd]
    clear ht hd
    go_enter Tryz.func29, Tryz.ntmps29
    go_wp2_with fail
    refine (C.out _).mono ?_
    rintro e w' ⟨rfl, nn, rfl⟩
    go_wp2
    go_ret
    exact ⟨rfl, ((Below.refl _ w).alloc (Nat.le_refl _) _).trans ((drew_below' _ nn).mono (by simp))⟩
theorem rright_out (n d : Int) (w : World) (h : ¬ (-1000000 ≤ n ∧ n ≤ 1000000 ∧ 1 ≤ d ∧ d ≤ 1000000)) :
    Calls Tryz.prog 29 #[.agg #[.int .i64 n, .int .i64 d]] w fun e w' => e = .returned (.bool (FracMath.rightB n d)) ∧ Below w.heap.size w w' := by
  rw [FracMath.right_out h]
  by_cases h1 : d < 1
  · clear h
    go_enter Tryz.func29, Tryz.ntmps29
    go_wp2
    go_ret
    exact ⟨rfl, by go_grown⟩
  by_cases h2 : 1000000 < d
  · clear h
    go_enter Tryz.func29, Tryz.ntmps29
    go_wp2
    go_ret
    exact ⟨rfl, by go_grown⟩
  by_cases h4 : n < -1000000
  · clear h
    go_enter Tryz.func29, Tryz.ntmps29
    go_wp2
    go_ret
    exact ⟨rfl, by go_grown⟩
  have h3 : 1000000 < n := by omega
  clear h
  go_enter Tryz.func29, Tryz.ntmps29
  go_wp2
  go_ret
  exact ⟨rfl, by go_grown⟩
theorem rright_any (n d : Int) (w : World) :
    Calls Tryz.prog 29 #[.agg #[.int .i64 n, .int .i64 d]] w fun e w' => e = .returned (.bool (FracMath.rightB n d)) ∧ Below w.heap.size w w' := by
  by_cases h : -1000000 ≤ n ∧ n ≤ 1000000 ∧ 1 ≤ d ∧ d ≤ 1000000
  · exact rright_in n d w h.1 h.2.1 h.2.2.1 h.2.2.2
  · exact rright_out n d w h
def loI (n g q d r : Int) : Nat → Value → World → Prop
  | 0, v, _ => v = .int .i64 n
  | 1, v, _ => v = .int .i64 g
  | 2, v, _ => v = .int .i64 q
  | 3, v, _ => v = .int .i64 d
  | 4, v, _ => v = .int .i64 g
  | 5, v, _ => v = .int .i64 r
  | 6, v, _ => v = .agg #[.int .i64 q, .int .i64 r]
  | _, _, _ => True
theorem loI_up (n g q d r : Int) : ∀ (j : Nat) (v : Value) (A B : World), Below A.heap.size A B → loI n g q d r j v A → loI n g q d r j v B
  | 0, _, _, _, _, h => h
  | 1, _, _, _, _, h => h
  | 2, _, _, _, _, h => h
  | 3, _, _, _, _, h => h
  | 4, _, _, _, _, h => h
  | 5, _, _, _, _, h => h
  | 6, _, _, _, _, h => h
  | _ + 7, _, _, _, _, _ => trivial

set_option maxRecDepth 10000 in
set_option maxHeartbeats 4000000 in
theorem rlowest_any (n d : Int) (w : World) (h1 : -9223372036854775807 ≤ n) (h2 : n ≤ 9223372036854775807) (h3 : 0 < d) (h4 : d ≤ 9223372036854775807) :
    Calls Tryz.prog 30 #[.int .i64 n, .int .i64 d] w fun e w' => e = .returned (.agg #[.int .i64 (FracMath.qn n d), .int .i64 (FracMath.qd n d)]) ∧ Below w.heap.size w w' := by
  have C := Lib.hid (fun W => rdivisor_any n d W (by omega) (by omega) (by omega) (by omega))
  have hg0 : 0 < FracMath.gg n d := FracMath.gg_pos (by omega)
  have eg : Int.gcd n d = FracMath.gg n d := rfl
  have bq := tdiv_bd (g := FracMath.gg n d) h1 h2
  have br := tdiv_bd (g := FracMath.gg n d) (x := d) (B := 9223372036854775807) (by omega) h4
  rw [eg] at C
  rw [FracMath.qn_of_pos (by omega), FracMath.qd_of_pos (by omega)]
  clear eg
  obtain ⟨g, hg⟩ : ∃ g : Int, ((FracMath.gg n d : Nat) : Int) = g := ⟨_, rfl⟩
  rw [hg] at C bq br ⊢
  have hgz : ¬ g = 0 := by omega
  have hgm : ¬ g = -1 := by omega
  clear hg hg0
  obtain ⟨q, hq⟩ : ∃ q, n.tdiv g = q := ⟨_, rfl⟩
  obtain ⟨r, hr⟩ : ∃ r, d.tdiv g = r := ⟨_, rfl⟩
  rw [hq] at bq ⊢
  rw [hr] at br ⊢
  have wq := wrap_in (q := q) (by omega) (by omega)
  have wr := wrap_in (q := r) (by omega) (by omega)
  obtain ⟨D, hD⟩ : ∃ D, w.heap.size = D := ⟨_, rfl⟩
  go_enter Tryz.func30, Tryz.ntmps30
  go_wp2_with fail
  refine (C.out _).mono ?_
  rintro e w1 ⟨rfl, k, rfl⟩
  go_wp2_with fail
  obtain ⟨W0, hW0⟩ : ∃ W0, ((w.alloc (.cells #[.int .i64 0, .int .i64 0] 23)).drewN k) = W0 := ⟨_, rfl⟩
  have HW := Lib.hid (show Below D w W0 by rw [← hW0]; exact ((Below.refl _ w).alloc (by omega) _).trans ((drew_below' _ k).mono (by simp; omega)))
  have HP := Lib.hid (show W0.heap[D]? = some (.cells #[.int .i64 0, .int .i64 0] 23) by rw [← hW0]; exact heap_new (X := w) hD.symm)
  have hz0 : W0.heap.size = D + 1 := by rw [← hW0]; simp [hD]
  rw [hW0]
  clear hW0 C
  refine wp_region_slots_at rfl rfl (fun base ys => ((((((base.set 9 (ys 0)).set 10 (ys 1)).set 11 (ys 2)).set 12 (ys 3)).set 13 (ys 4)).set 14 (ys 5)).set 15 (ys 6)) (LastI _ (Below W0.heap.size W0) (loI n g q d r) (fun A => Below D w A ∧ A.heap[D]? = some (.cells #[.int .i64 q, .int .i64 r] 23))) (fun _ => undef) (by kernel_rfl) (last_start (by decide) ((Below.refl _ _).trans ⟨rfl, rfl, rfl, Nat.le_refl _, fun _ _ => rfl⟩)) ?h
  case h =>
    intro F hF
    simp only [List.set_cons_succ, List.set_cons_zero] at hF
    subst hF
    refine ⟨rfl, ?_, ?_⟩
    refine ⟨?_, ?_⟩
    · refine SlotStep.lastB (by kernel_rfl) rfl (by decide) (fun A B hb h => h.trans (hb.mono h.size)) (loI_up n g q d r) ?_
      intro ys W hR hd K hK
      go_simp
      have hK2 := hK (.int .i64 n) _ (Below.refl _ _) rfl
      simp (config := { decide := true }) only [upd, if_true, if_false] at hK2
      exact hK2
    refine ⟨?_, ?_⟩
    · refine SlotStep.lastB (by kernel_rfl) rfl (by decide) (fun A B hb h => h.trans (hb.mono h.size)) (loI_up n g q d r) ?_
      intro ys W hR hd K hK
      go_simp
      have hK2 := hK (.int .i64 g) _ (Below.refl _ _) rfl
      simp (config := { decide := true }) only [upd, if_true, if_false] at hK2
      exact hK2
    refine ⟨?_, ?_⟩
    · refine SlotStep.lastB (by kernel_rfl) rfl (by decide) (fun A B hb h => h.trans (hb.mono h.size)) (loI_up n g q d r) ?_
      intro ys W hR hd K hK
      have dd0 : ys 0 = .int .i64 n := hd 0 (by kernel_rfl) (by decide)
      have dd1 : ys 1 = .int .i64 g := hd 1 (by kernel_rfl) (by decide)
      go_simp
      have hK2 := hK (.int .i64 q) _ (Below.refl _ _) rfl
      simp (config := { decide := true }) only [upd, if_true, if_false, dd0, dd1] at hK2
      exact hK2
    refine ⟨?_, ?_⟩
    · refine SlotStep.lastB (by kernel_rfl) rfl (by decide) (fun A B hb h => h.trans (hb.mono h.size)) (loI_up n g q d r) ?_
      intro ys W hR hd K hK
      go_simp
      have hK2 := hK (.int .i64 d) _ (Below.refl _ _) rfl
      simp (config := { decide := true }) only [upd, if_true, if_false] at hK2
      exact hK2
    refine ⟨?_, ?_⟩
    · refine SlotStep.lastB (by kernel_rfl) rfl (by decide) (fun A B hb h => h.trans (hb.mono h.size)) (loI_up n g q d r) ?_
      intro ys W hR hd K hK
      go_simp
      have hK2 := hK (.int .i64 g) _ (Below.refl _ _) rfl
      simp (config := { decide := true }) only [upd, if_true, if_false] at hK2
      exact hK2
    refine ⟨?_, ?_⟩
    · refine SlotStep.lastB (by kernel_rfl) rfl (by decide) (fun A B hb h => h.trans (hb.mono h.size)) (loI_up n g q d r) ?_
      intro ys W hR hd K hK
      have dd3 : ys 3 = .int .i64 d := hd 3 (by kernel_rfl) (by decide)
      have dd4 : ys 4 = .int .i64 g := hd 4 (by kernel_rfl) (by decide)
      go_simp
      have hK2 := hK (.int .i64 r) _ (Below.refl _ _) rfl
      simp (config := { decide := true }) only [upd, if_true, if_false, dd3, dd4] at hK2
      exact hK2
    refine ⟨?_, ?_⟩
    · refine SlotStep.lastB (by kernel_rfl) rfl (by decide) (fun A B hb h => h.trans (hb.mono h.size)) (loI_up n g q d r) ?_
      intro ys W hR hd K hK
      have dd2 : ys 2 = .int .i64 q := hd 2 (by kernel_rfl) (by decide)
      have dd5 : ys 5 = .int .i64 r := hd 5 (by kernel_rfl) (by decide)
      go_simp
      have hK2 := hK (.agg #[.int .i64 q, .int .i64 r]) _ (Below.refl _ _) rfl
      simp (config := { decide := true }) only [upd, if_true, if_false, dd2, dd5] at hK2
      exact hK2
    refine ⟨?_, ?_⟩
    · refine SlotStep.lastS rfl rfl ?_
      intro ys W hR hd K hK
      have dd6 : ys 6 = .agg #[.int .i64 q, .int .i64 r] := hd 6 (by kernel_rfl) (by decide)
      have hh := (hR.block D (by omega)).trans HP.out
      have f0 := free2_0 hh
      have f1 := free2_1 hh
      have g0 := cell2_0 hh
      have g1 := cell2_1 hh
      go_simp
      have hK2 := hK undef _ ⟨((HW.out.trans (hR.mono (by omega))).setCell (p := ⟨D, 0, none⟩) (by simp) _).setCell (p := ⟨D, 1, none⟩) (by simp) _, set2_1 (set2_0 hh)⟩
      simp (config := { decide := true }) only [upd, if_false, dd6] at hK2
      exact hK2
    trivial
    · intro L ys W hL hI
      have hF := last_end (by decide) hL hI
      obtain ⟨t1, t2⟩ := hF
      have r0 := cell2_0 t2
      have r1 := cell2_1 t2
      have HB := Lib.hid t1
      clear t1 t2
      go_simp
      go_wp2
      refine bodyPost_ret (v := .agg #[.int .i64 q, .int .i64 r]) (by simp [results, Tryz.results30, go_sem, r0, r1]) rfl ⟨rfl, by rw [hD]; exact HB.out⟩
end Go.Proofs.YtkoljddejjfbiaaGreatDoor
/- Contracts of Whole, Check and of the reference's magnitude, divisor, Right and Make over fractions: each returns what FracMath says; numbers lie in the range of their kinds. -/
namespace Go.Proofs.YtkoljddejjfbiaaGreatDoor
open Go.RowKit

/-- Check's answer. -/
def chk (n d : Int) : Int := if FracMath.rightB n d then 0 else 2
theorem chk_yes {n d : Int} (h : FracMath.rightB n d = true) : chk n d = 0 := by unfold chk; rw [h, if_pos rfl]
theorem chk_no {n d : Int} (h : FracMath.rightB n d = false) : chk n d = 2 := by unfold chk; rw [h, if_neg (by decide)]

theorem check_in (n d : Int) (w : World) (h1 : -1000000 ≤ n) (h2 : n ≤ 1000000) (h3 : 1 ≤ d) (h4 : d ≤ 1000000) :
    Calls Tryz.prog 31 #[.agg #[.int .i64 n, .int .i64 d]] w fun e w' => e = .returned (.int .i64 (chk n d)) ∧ Below w.heap.size w w' := by
  have hr : FracMath.rightB n d = decide ((FracMath.gg n d : Int) = 1) := FracMath.right_in h1 h2 h3 h4
  have c := fun W => divisor_any n.natAbs d.natAbs W (by omega) (by omega)
  rw [show Nat.gcd n.natAbs d.natAbs = FracMath.gg n d from rfl] at c
  generalize FracMath.gg n d = g at hr c
  have C := Lib.hid c
  clear c
  by_cases ht : g = 1
  · subst ht
    rw [chk_yes (by rw [hr]; rfl)]
    clear hr
    go_enter Tryz.func31, Tryz.ntmps31
    go_wp2_with (go_quiet (first | (go_at_call 48; exact still_here (magnitude_any _ _ (by omega) (by omega))) | (go_at_call 47; exact Calls.quiet_of (C.out _))))
    go_wp2
    go_ret
    exact ⟨rfl, below_drewN (by go_grown) _⟩
  · have ht' : ((g : Int) != 1) = true := by simp; omega
    have hd : decide ((g : Int) = 1) = false := by simp; omega
    rw [hd] at hr
    rw [chk_no hr]
    clear ht hd hr
    go_enter Tryz.func31, Tryz.ntmps31
    go_wp2_with (go_quiet (first | (go_at_call 48; exact still_here (magnitude_any _ _ (by omega) (by omega))) | (go_at_call 47; exact Calls.quiet_of (C.out _))))
    go_wp2
    go_ret
    exact ⟨rfl, below_drewN (by go_grown) _⟩

theorem check_out (n d : Int) (w : World) (h : ¬ (-1000000 ≤ n ∧ n ≤ 1000000 ∧ 1 ≤ d ∧ d ≤ 1000000)) :
    Calls Tryz.prog 31 #[.agg #[.int .i64 n, .int .i64 d]] w fun e w' => e = .returned (.int .i64 (chk n d)) ∧ Below w.heap.size w w' := by
  rw [chk_no (FracMath.right_out h)]
  by_cases h1 : d < 1
  · clear h
    go_enter Tryz.func31, Tryz.ntmps31
    go_wp2
    go_ret
    exact ⟨rfl, by go_grown⟩
  by_cases h2 : 1000000 < d
  · clear h
    go_enter Tryz.func31, Tryz.ntmps31
    go_wp2
    go_ret
    exact ⟨rfl, by go_grown⟩
  by_cases h3 : n < -1000000
  · clear h
    go_enter Tryz.func31, Tryz.ntmps31
    go_wp2
    go_ret
    exact ⟨rfl, by go_grown⟩
  have h4 : 1000000 < n := by omega
  clear h
  go_enter Tryz.func31, Tryz.ntmps31
  go_wp2
  go_ret
  exact ⟨rfl, by go_grown⟩

theorem fcheck_any (n d : Int) (w : World) :
    Calls Tryz.prog 31 #[.agg #[.int .i64 n, .int .i64 d]] w fun e w' => e = .returned (.int .i64 (chk n d)) ∧ Below w.heap.size w w' := by
  by_cases h : -1000000 ≤ n ∧ n ≤ 1000000 ∧ 1 ≤ d ∧ d ≤ 1000000
  · exact check_in n d w h.1 h.2.1 h.2.2.1 h.2.2.2
  · exact check_out n d w h

end Go.Proofs.YtkoljddejjfbiaaGreatDoor
/- Contract of the reference's Make over fractions: for all ints the quotient in lowest terms, or its error, as FracMath.mk says. -/
namespace Go.Proofs.YtkoljddejjfbiaaGreatDoor
open Go.RowKit

end Go.Proofs.YtkoljddejjfbiaaGreatDoor
