/- The reference's both for differences: the row that it makes is new. -/
import Derived.Test.YtnchodofgaaeeaaGreatDoorImYd
namespace Go.Proofs.YtnchodofgaaeeaaGreatDoor
open Go Go.RowKit Go.Shelf

/-- The magnitude x at a slice of blocks from number B on. -/
def RMagF (B : Nat) (W : World) (v : Value) (x : Nat) : Prop := ∃ (sa : Option Addr) (cap b o : Nat), v = .slice sa (rnd x) cap ∧ RRow W sa (rnd x) cap b o x ∧ (0 < rnd x → B ≤ b)
theorem RMagF.mag {B : Nat} {W : World} {v : Value} {x : Nat} (h : RMagF B W v x) : RMag W v x := by
  obtain ⟨sa, cap, b, o, h1, h2, _⟩ := h
  exact ⟨sa, cap, b, o, h1, h2⟩
theorem RMagF.below {B C : Nat} {W W' : World} {v : Value} {x : Nat} (h : RMagF B W v x) (hb : Below C W W') (hC : W.heap.size ≤ C) : RMagF B W' v x := by
  obtain ⟨sa, cap, b, o, h1, h2, h3⟩ := h
  exact ⟨sa, cap, b, o, h1, h2.below hb hC, h3⟩
theorem RMagF.call {B : Nat} {W W' : World} {v : Value} {x : Nat} (h : RMagF B W v x) (hb : Below W.heap.size W W') : RMagF B W' v x := h.below hb (Nat.le_refl _)
theorem RMagF.mono {B C : Nat} {W : World} {v : Value} {x : Nat} (h : RMagF B W v x) (hc : C ≤ B) : RMagF C W v x := by
  obtain ⟨sa, cap, b, o, h1, h2, h3⟩ := h
  exact ⟨sa, cap, b, o, h1, h2, fun h => Nat.le_trans hc (h3 h)⟩
theorem RRow.set {W : World} {sa : Option Addr} {n cap b o x : Nat} (h : RRow W sa n cap b o x) (p : Addr) (hp : 0 < n → b ≠ p.block) (v : Value) : RRow (W.setCell p v) sa n cap b o x :=
  ⟨h.cap, h.at_, fun q => by have := h.lt q; simpa [World.setCell] using this, fun k hk => (World.cell?_setCell_other _ _ _ _ (fun e => hp (by omega) (by have := congrArg Addr.block e; simpa using this.symm))).trans (h.cell k hk), h.fits⟩
theorem RMagF.set {B : Nat} {W : World} {v : Value} {x : Nat} (h : RMagF B W v x) (p : Addr) (hp : p.block < B) (u : Value) : RMagF B (W.setCell p u) v x := by
  obtain ⟨sa, cap, b, o, h1, h2, h3⟩ := h
  exact ⟨sa, cap, b, o, h1, h2.set p (fun h => by have := h3 h; omega) u, h3⟩
set_option maxRecDepth 100000 in
set_option maxHeartbeats 4000000 in
theorem both_subF (sx : Option Addr) (nx cx bx ox x : Nat) (sy : Option Addr) (ny cpy by_ oy y z : Nat) (hz : (z : Int) = (x : Int) + (-1) * (y : Int)) (w : World) (hx : RRow w sx nx cx bx ox x) (hy : RRow w sy ny cpy by_ oy y) (hn1 : nx ≤ 200000) (hn2 : ny ≤ 200000) :
    Calls Tryz.prog 71 #[.slice sx nx cx, .slice sy ny cpy, .int .i64 (-1)] w fun e w' => (∃ v, e = .returned v ∧ RMagF w.heap.size w' v z) ∧ Below w.heap.size w w' := by
  obtain ⟨i0, hi0, hz0, hz1, hz2⟩ := info_parts info_int
  have HX := Lib.hid hx
  have HY := Lib.hid hy
  have hcx := hx.cap
  have hcy := hy.cap
  have SH := Lib.hid (fun sa n cap b o W h hn => short_any sa n cap b o z W h hn)
  have HDG := Lib.hid (fun k => cw_digit (s := (-1)) hz k)
  have HNX := Lib.hid (fun k => cw_next (-1) x y k)
  have HBD := Lib.hid (fun k => cw_bounds (s := (-1)) (by decide) x y k)
  have hfx : ∀ k, nx ≤ k → x < RB ^ k := fun k hk => Nat.lt_of_lt_of_le hx.fits (Nat.pow_le_pow_right (by unfold RB; omega) hk)
  have hfy : ∀ k, ny ≤ k → y < RB ^ k := fun k hk => Nat.lt_of_lt_of_le hy.fits (Nat.pow_le_pow_right (by unfold RB; omega) hk)
  have HFX := Lib.hid hfx
  have HFY := Lib.hid hfy
  have hhigh : ∀ k, nx ≤ k → ny ≤ k → cw (-1) x y k = ((z / RB ^ k : Nat) : Int) := fun k h1 h2 => cw_high hz (hfx k h1) (hfy k h2)
  have HH := Lib.hid hhigh
  have hend : ∀ k, nx ≤ k → ny ≤ k → cw (-1) x y (k + 1) = 0 := fun k h1 h2 => by
    rw [hhigh (k + 1) (by omega) (by omega), Nat.div_eq_of_lt]
    · rfl
    · have a1 := hfx k h1
      have a2 := hfy k h2
      rw [Nat.pow_succ]
      generalize RB ^ k = p at *
      unfold RB
      omega
  have HE := Lib.hid hend
  clear hx hy hz hfx hfy hhigh hend
  go_enter Tryz.func71, Tryz.ntmps71
  go_wp2_with fail
  go_loopw [7, 8, 9] (fun v c i wr => ∃ k : Nat, k ≤ nx + ny + 1 ∧ i = .int .i64 (k : Int) ∧ c = .int .i64 (cw (-1) x y k) ∧ wr.ownsRow w.heap.size 3 1 v k (rpcs z k) ∧ Below w.heap.size w wr) (fun _ _ i _ => nx + ny + 2 - (intOf i).toNat)
  case atStart => exact ⟨0, by omega, rfl, by rw [cw_zero], World.ownsRow_nil _ _ _ _, Below.refl _ _⟩
  case round =>
    obtain ⟨k, hk, rfl, rfl, hrow, hw⟩ := hrel
    have hsz := hw.size
    have bd := HBD.out k
    have dg := HDG.out k
    have nx_ := HNX.out k
    have D3 := rpcs_succ z k
    have ll1 := rdg_lt x k
    have ll2 := rdg_lt y k
    have hr0 := rdg_lt z k
    by_cases h1 : k < nx
    · by_cases h2 : k < ny
      · have hkx : (k : Int) < (nx : Int) := by omega
        have ca := (hw.cell (p := ⟨bx, ox + k, none⟩) (HX.out.lt (by omega))).trans (HX.out.cell k (by omega))
        obtain rfl := HX.out.at_ (by omega)
        have hky : (k : Int) < (ny : Int) := by omega
        have cb := (hw.cell (p := ⟨by_, oy + k, none⟩) (HY.out.lt (by omega))).trans (HY.out.cell k (by omega))
        obtain rfl := HY.out.at_ (by omega)
        have hkk : k ≤ nx + ny := by omega
        obtain ⟨c2, hc2⟩ : ∃ c2, cw (-1) x y (k + 1) = c2 := ⟨_, rfl⟩
        have bd2 := HBD.out (k + 1)
        rw [hc2] at nx_ bd2
        have HC2 := Lib.hid hc2
        clear hc2
        generalize cw (-1) x y k = c at *
        generalize rdg x k = d1 at *
        generalize rdg y k = d2 at *
        obtain ⟨r, hr⟩ : ∃ r : Nat, rdg z k = r := ⟨_, rfl⟩
        rw [hr] at D3 dg hr0
        have ht : c + (d1 : Int) + -(d2 : Int) = c + (d1 : Int) + -(d2 : Int) := rfl
        have dg2 : (c + (d1 : Int) + -(d2 : Int)) % 10000 = (r : Int) := by
          rw [← dg]; congr 1; omega
        have nx2 : (c + (d1 : Int) + -(d2 : Int)) / 10000 = c2 := by
          rw [← nx_]; congr 1; omega
        have m1 := go_mod (c + (d1 : Int) + -(d2 : Int))
        have m2 := go_div (c + (d1 : Int) + -(d2 : Int))
        rw [dg2] at m1 m2
        rw [nx2] at m2
        obtain ⟨t1, ht1⟩ : ∃ t1 : Int, (c + (d1 : Int) + -(d2 : Int)).tmod 10000 = t1 := ⟨_, rfl⟩
        have hb1 : -10000 < t1 ∧ t1 < 10000 := by
          have h9 : t1.natAbs < 10000 := by rw [← ht1, Int.natAbs_tmod]; exact Nat.mod_lt _ (by decide)
          omega
        rw [ht1] at m1
        have HD3 := Lib.hid D3
        clear D3 dg nx_ dg2 nx2 ht hr
        go_wp2_with (at_builtin; refine wpList_append_own _ rfl _ _ 89 rfl w.heap.size 3 i0 (.int .i64 0) 1 8 Tryz.underlying89 hi0 hz0 hz1 hz2 rfl (by decide) _ _ _ rfl (hrow.alloc _) ⟨wr.heap.size, 0, none⟩ 1 1 [.int .i64 (r : Int)] rfl rfl (cell_one_new _ _ _) (by simp [Value.oneCell']) (by unfold maxLen; omega) (by omega) (by simp; omega) ?_; intro v' w6 hown' hgrow _)
        have hb6 := grown_below hsz hrow hgrow
        go_roundw
        case rel => exact ⟨k + 1, by omega, by go_num, by rw [HC2.out], by rw [HD3.out]; simpa using hown', hw.trans hb6⟩
        case measure => simp [intOf]; omega
      · have hkx : (k : Int) < (nx : Int) := by omega
        have ca := (hw.cell (p := ⟨bx, ox + k, none⟩) (HX.out.lt (by omega))).trans (HX.out.cell k (by omega))
        obtain rfl := HX.out.at_ (by omega)
        have hky : ¬ (k : Int) < (ny : Int) := by omega
        have zy := rdg_high (HFY.out k (by omega))
        rw [zy] at dg nx_
        have hkk : k ≤ nx + ny := by omega
        obtain ⟨c2, hc2⟩ : ∃ c2, cw (-1) x y (k + 1) = c2 := ⟨_, rfl⟩
        have bd2 := HBD.out (k + 1)
        rw [hc2] at nx_ bd2
        have HC2 := Lib.hid hc2
        clear hc2
        generalize cw (-1) x y k = c at *
        generalize rdg x k = d1 at *
        obtain ⟨r, hr⟩ : ∃ r : Nat, rdg z k = r := ⟨_, rfl⟩
        rw [hr] at D3 dg hr0
        have ht : c + (d1 : Int) = c + (d1 : Int) := rfl
        have dg2 : (c + (d1 : Int)) % 10000 = (r : Int) := by
          rw [← dg]; congr 1; omega
        have nx2 : (c + (d1 : Int)) / 10000 = c2 := by
          rw [← nx_]; congr 1; omega
        have m1 := go_mod (c + (d1 : Int))
        have m2 := go_div (c + (d1 : Int))
        rw [dg2] at m1 m2
        rw [nx2] at m2
        obtain ⟨t1, ht1⟩ : ∃ t1 : Int, (c + (d1 : Int)).tmod 10000 = t1 := ⟨_, rfl⟩
        have hb1 : -10000 < t1 ∧ t1 < 10000 := by
          have h9 : t1.natAbs < 10000 := by rw [← ht1, Int.natAbs_tmod]; exact Nat.mod_lt _ (by decide)
          omega
        rw [ht1] at m1
        have HD3 := Lib.hid D3
        clear D3 dg nx_ dg2 nx2 ht hr
        go_wp2_with (at_builtin; refine wpList_append_own _ rfl _ _ 89 rfl w.heap.size 3 i0 (.int .i64 0) 1 8 Tryz.underlying89 hi0 hz0 hz1 hz2 rfl (by decide) _ _ _ rfl (hrow.alloc _) ⟨wr.heap.size, 0, none⟩ 1 1 [.int .i64 (r : Int)] rfl rfl (cell_one_new _ _ _) (by simp [Value.oneCell']) (by unfold maxLen; omega) (by omega) (by simp; omega) ?_; intro v' w6 hown' hgrow _)
        have hb6 := grown_below hsz hrow hgrow
        go_roundw
        case rel => exact ⟨k + 1, by omega, by go_num, by rw [HC2.out], by rw [HD3.out]; simpa using hown', hw.trans hb6⟩
        case measure => simp [intOf]; omega
    · by_cases h2 : k < ny
      · have hkx : ¬ (k : Int) < (nx : Int) := by omega
        have zx := rdg_high (HFX.out k (by omega))
        rw [zx] at dg nx_
        have hky : (k : Int) < (ny : Int) := by omega
        have cb := (hw.cell (p := ⟨by_, oy + k, none⟩) (HY.out.lt (by omega))).trans (HY.out.cell k (by omega))
        obtain rfl := HY.out.at_ (by omega)
        have hkk : k ≤ nx + ny := by omega
        obtain ⟨c2, hc2⟩ : ∃ c2, cw (-1) x y (k + 1) = c2 := ⟨_, rfl⟩
        have bd2 := HBD.out (k + 1)
        rw [hc2] at nx_ bd2
        have HC2 := Lib.hid hc2
        clear hc2
        generalize cw (-1) x y k = c at *
        generalize rdg y k = d2 at *
        obtain ⟨r, hr⟩ : ∃ r : Nat, rdg z k = r := ⟨_, rfl⟩
        rw [hr] at D3 dg hr0
        have ht : c + -(d2 : Int) = c + -(d2 : Int) := rfl
        have dg2 : (c + -(d2 : Int)) % 10000 = (r : Int) := by
          rw [← dg]; congr 1; omega
        have nx2 : (c + -(d2 : Int)) / 10000 = c2 := by
          rw [← nx_]; congr 1; omega
        have m1 := go_mod (c + -(d2 : Int))
        have m2 := go_div (c + -(d2 : Int))
        rw [dg2] at m1 m2
        rw [nx2] at m2
        obtain ⟨t1, ht1⟩ : ∃ t1 : Int, (c + -(d2 : Int)).tmod 10000 = t1 := ⟨_, rfl⟩
        have hb1 : -10000 < t1 ∧ t1 < 10000 := by
          have h9 : t1.natAbs < 10000 := by rw [← ht1, Int.natAbs_tmod]; exact Nat.mod_lt _ (by decide)
          omega
        rw [ht1] at m1
        have HD3 := Lib.hid D3
        clear D3 dg nx_ dg2 nx2 ht hr
        go_wp2_with (at_builtin; refine wpList_append_own _ rfl _ _ 89 rfl w.heap.size 3 i0 (.int .i64 0) 1 8 Tryz.underlying89 hi0 hz0 hz1 hz2 rfl (by decide) _ _ _ rfl (hrow.alloc _) ⟨wr.heap.size, 0, none⟩ 1 1 [.int .i64 (r : Int)] rfl rfl (cell_one_new _ _ _) (by simp [Value.oneCell']) (by unfold maxLen; omega) (by omega) (by simp; omega) ?_; intro v' w6 hown' hgrow _)
        have hb6 := grown_below hsz hrow hgrow
        go_roundw
        case rel => exact ⟨k + 1, by omega, by go_num, by rw [HC2.out], by rw [HD3.out]; simpa using hown', hw.trans hb6⟩
        case measure => simp [intOf]; omega
      · by_cases hcz : cw (-1) x y k = 0
        · have hzz := HH.out k (by omega) (by omega)
          rw [hcz] at hzz
          have hfit : z < RB ^ k := by
            rcases Nat.lt_or_ge z (RB ^ k) with h9 | h9
            · exact h9
            · have := Nat.div_pos h9 (rb_pos k)
              omega
          have hkx : ¬ (k : Int) < (nx : Int) := by omega
          have hky : ¬ (k : Int) < (ny : Int) := by omega
          rw [hcz]
          obtain ⟨sa, cap, b, rfl, hR, hfr⟩ := rrow_of hrow hfit
          have HFR := Lib.hid (fun (h0 : 0 < rnd z) => hfr (by have := Im.nd_le rb2 hfit; change rnd z ≤ k at this; omega))
          have hS := Lib.hid (SH.out sa k cap b 0 wr hR (by omega))
          have hRt := Lib.hid hR.trim
          clear hzz hfr hfit hR hrow dg nx_ D3 bd ll1 ll2 hr0 hcz
          go_wp2_with fail
          refine hS.out.mono ?_
          rintro e w7 ⟨rfl, hww⟩
          subst w7
          go_wp2
          go_ret
          exact ⟨⟨_, rfl, sa, cap, b, 0, rfl, hRt.out, HFR.out⟩, hw⟩
        · have hkx : ¬ (k : Int) < (nx : Int) := by omega
          have zx := rdg_high (HFX.out k (by omega))
          rw [zx] at dg nx_
          have hky : ¬ (k : Int) < (ny : Int) := by omega
          have zy := rdg_high (HFY.out k (by omega))
          rw [zy] at dg nx_
          have hc0 : ¬ cw (-1) x y k = 0 := hcz
          have hend := HE.out k (by omega) (by omega)
          have hkk : k ≤ nx + ny := by
            rcases Nat.lt_or_ge (nx + ny) k with h9 | h9
            · exfalso
              have h8 := HE.out (k - 1) (by omega) (by omega)
              rw [show k - 1 + 1 = k by omega] at h8
              exact hc0 h8
            · exact h9
          obtain ⟨c2, hc2⟩ : ∃ c2, cw (-1) x y (k + 1) = c2 := ⟨_, rfl⟩
          have bd2 := HBD.out (k + 1)
          rw [hc2] at nx_ bd2
          have HC2 := Lib.hid hc2
          clear hc2 hend hcz
          generalize cw (-1) x y k = c at *
          obtain ⟨r, hr⟩ : ∃ r : Nat, rdg z k = r := ⟨_, rfl⟩
          rw [hr] at D3 dg hr0
          have ht : c = c := rfl
          have dg2 : (c) % 10000 = (r : Int) := by
            rw [← dg]; congr 1; omega
          have nx2 : (c) / 10000 = c2 := by
            rw [← nx_]; congr 1; omega
          have m1 := go_mod (c)
          have m2 := go_div (c)
          rw [dg2] at m1 m2
          rw [nx2] at m2
          obtain ⟨t1, ht1⟩ : ∃ t1 : Int, (c).tmod 10000 = t1 := ⟨_, rfl⟩
          have hb1 : -10000 < t1 ∧ t1 < 10000 := by
            have h9 : t1.natAbs < 10000 := by rw [← ht1, Int.natAbs_tmod]; exact Nat.mod_lt _ (by decide)
            omega
          rw [ht1] at m1
          have HD3 := Lib.hid D3
          clear D3 dg nx_ dg2 nx2 ht hr
          go_wp2_with (at_builtin; refine wpList_append_own _ rfl _ _ 89 rfl w.heap.size 3 i0 (.int .i64 0) 1 8 Tryz.underlying89 hi0 hz0 hz1 hz2 rfl (by decide) _ _ _ rfl (hrow.alloc _) ⟨wr.heap.size, 0, none⟩ 1 1 [.int .i64 (r : Int)] rfl rfl (cell_one_new _ _ _) (by simp [Value.oneCell']) (by unfold maxLen; omega) (by omega) (by simp; omega) ?_; intro v' w6 hown' hgrow _)
          have hb6 := grown_below hsz hrow hgrow
          go_roundw
          case rel => exact ⟨k + 1, by omega, by go_num, by rw [HC2.out], by rw [HD3.out]; simpa using hown', hw.trans hb6⟩
          case measure => simp [intOf]; omega
end Go.Proofs.YtnchodofgaaeeaaGreatDoor
