/- Contracts of addMagnitudes. -/
import Derived.Test.YtnchodofgaaeeaaGreatDoorImH
namespace Go.Proofs.YtnchodofgaaeeaaGreatDoor
open Go Go.RowKit Go.Shelf

/-- The magnitude x in memory, at a slice. -/
def Mag (W : World) (v : Value) (x : Nat) : Prop := ∃ (sa : Option Addr) (cap b o : Nat), v = .slice sa (nd x) cap ∧ Row W sa (nd x) cap b o x
theorem Mag.below {W W' : World} {B : Nat} {v : Value} {x : Nat} (h : Mag W v x) (hb : Below B W W') (hB : W.heap.size ≤ B) : Mag W' v x := by
  obtain ⟨sa, cap, b, o, h1, h2⟩ := h
  exact ⟨sa, cap, b, o, h1, h2.below hb hB⟩

/-- The carry of a sum at place k. -/
def cy (x y k : Nat) : Nat := (x % BB ^ k + y % BB ^ k) / BB ^ k
theorem cy_zero (x y : Nat) : cy x y 0 = 0 := by simp [cy, Nat.mod_one]
theorem cy_le (x y k : Nat) : cy x y k ≤ 1 := by
  unfold cy
  have hp : 0 < BB ^ k := Nat.pow_pos (by unfold BB; omega)
  have h1 := Nat.mod_lt x hp
  have h2 := Nat.mod_lt y hp
  have := (Nat.div_lt_iff_lt_mul hp).2 (show x % BB ^ k + y % BB ^ k < 2 * BB ^ k by omega)
  omega
theorem cy_sum (x y k : Nat) : cy x y k + dg x k + dg y k = (x % BB ^ (k + 1) + y % BB ^ (k + 1)) / BB ^ k := by
  have hp : 0 < BB ^ k := Nat.pow_pos (by unfold BB; omega)
  unfold cy dg
  rw [Im.mod_succ x k, Im.mod_succ y k, show x % BB ^ k + BB ^ k * Im.dg BB x k + (y % BB ^ k + BB ^ k * Im.dg BB y k) = (x % BB ^ k + y % BB ^ k) + BB ^ k * (Im.dg BB x k + Im.dg BB y k) by rw [Nat.mul_add]; omega, Nat.add_mul_div_left _ _ hp]
  omega
theorem cy_digit (x y k : Nat) : (cy x y k + dg x k + dg y k) % 1000000000 = dg (x + y) k := by
  rw [cy_sum]
  exact Im.dg_mod (b := BB) (m := x % BB ^ (k + 1) + y % BB ^ (k + 1)) (n := x + y) (by rw [← Nat.add_mod])
theorem cy_next (x y k : Nat) : (cy x y k + dg x k + dg y k) / 1000000000 = cy x y (k + 1) := by
  rw [cy_sum]
  unfold cy
  rw [Nat.pow_succ BB k, ← Nat.div_div_eq_div_mul]
  rfl
theorem cy_last {x y n : Nat} (hx : x < BB ^ n) (hy : y < BB ^ n) : cy x y n = dg (x + y) n := by
  have h1 := cy_digit x y n
  have h2 := cy_le x y n
  have h3 : dg x n = 0 := Im.dg_high hx
  have h4 : dg y n = 0 := Im.dg_high hy
  rw [h3, h4] at h1
  omega
theorem dg_above {x k : Nat} (h : nd x ≤ k) : dg x k = 0 := Im.dg_above bb2 h

set_option maxRecDepth 100000 in
set_option maxHeartbeats 2000000 in
theorem add_core (sx : Option Addr) (cx bx ox x : Nat) (sy : Option Addr) (cpy by_ oy y : Nat) (hlen : nd y ≤ nd x) (w : World) (hx : Row w sx (nd x) cx bx ox x) (hy : Row w sy (nd y) cpy by_ oy y) (hn : nd x ≤ 1000000) :
    Calls Tryz.prog 99 #[.slice sx (nd x) cx, .slice sy (nd y) cpy] w fun e w' => (∃ v, e = .returned v ∧ Mag w' v (x + y)) ∧ Below w.heap.size w w' := by
  obtain ⟨i0, hi0, hz0, hz1, hz2⟩ := info_parts info_u64
  have HX := Lib.hid hx
  have HY := Lib.hid hy
  have HLx := Lib.hid (fun k (h : nd x ≤ k) => dg_above h)
  have HLy := Lib.hid (fun k (h : nd y ≤ k) => dg_above h)
  obtain ⟨nx, hnx⟩ : ∃ nx, nd x = nx := ⟨_, rfl⟩
  obtain ⟨ny, hny⟩ : ∃ ny, nd y = ny := ⟨_, rfl⟩
  rw [hnx] at HX HLx hlen hn ⊢
  rw [hny] at HY HLy hlen  ⊢
  have TR := Lib.hid (fun sa n cap b o W h hn => trimmed_any sa n cap b o (x + y) W h hn)
  clear hx hy hnx hny
  have hcmp : ¬ (nx : Int) < (ny : Int) := by omega
  go_enter Tryz.func99, Tryz.ntmps99
  go_wp2_with (at_make; refine wpList_make_own _ rfl _ _ 78 rfl w.heap.size 106 i0 (.int .u64 0) 1 Tryz.underlying78 hi0 hz0 hz1 .i64 .i64 ((nx : Int) + 1) (nx + 1) rfl rfl (by omega) (by rw [hz2]; omega) (by unfold maxLen; omega) (by omega) ?_; intro w2 hrow2 hgrow2)
  have hb2 : Below w.heap.size w w2 := (Below.refl _ _).grown hgrow2 (Nat.le_refl _) (fun g e => by cases e)
  go_loopw [5, 6, 22] (fun v c i wr => ∃ k : Nat, k ≤ nx ∧ i = .int .i64 (k : Int) ∧ c = .int .u64 (cy x y k : Nat) ∧ wr.ownsRow w.heap.size 106 1 v k (pcs (x + y) k) ∧ Below w.heap.size w wr) (fun _ _ i _ => nx - (intOf i).toNat)
  case atStart => exact ⟨0, Nat.zero_le _, rfl, by rw [cy_zero]; rfl, by simpa [pcs] using hrow2, hb2⟩
  case round =>
    obtain ⟨k, hk, rfl, rfl, hrow, hw⟩ := hrel
    have hsz := hw.size
    by_cases h1 : k < nx
    · have hki : (k : Int) < (nx : Int) := by omega
      have ca := (hw.cell (p := ⟨bx, ox + k, none⟩) (HX.out.lt (by omega))).trans (HX.out.cell k h1)
      obtain rfl := HX.out.at_ (by omega)
      have hcap := HX.out.cap
      have l1 := cy_le x y k
      have l2 := dg_lt x k
      have l3 := dg_lt y k
      have D1 := cy_digit x y k
      have D2 := cy_next x y k
      have D3 := pcs_succ (x + y) k
      
      rw [← D1] at D3
      have HD3 := Lib.hid D3
      have HD2 := Lib.hid D2
      clear D1 D2 D3
      by_cases h2 : k < ny
      · have hkj : (k : Int) < (ny : Int) := by omega
        have cb := (hw.cell (p := ⟨by_, oy + k, none⟩) (HY.out.lt (by omega))).trans (HY.out.cell k h2)
        obtain rfl := HY.out.at_ (by omega)
        generalize cy x y k = c at *
        generalize dg x k = d1 at *
        generalize dg y k = d2 at *
        go_wp2_with (at_builtin; refine wpList_append_own _ rfl _ _ 78 rfl w.heap.size 106 i0 (.int .u64 0) 1 8 Tryz.underlying78 hi0 hz0 hz1 hz2 rfl (by decide) _ _ _ rfl (hrow.alloc _) ⟨wr.heap.size, 0, none⟩ 1 1 [.int .u64 (((c : Int) + (d1 : Int) + (d2 : Int)) % 1000000000)] rfl rfl (cell_one_new _ _ _) (by simp [Value.oneCell']) (by unfold maxLen; omega) (by omega) (by simp; omega) ?_; intro v' w6 hown' hgrow _)
        have hb6 := grown_below hsz hrow hgrow
        go_roundw
        case rel => exact ⟨k + 1, by omega, by go_num, by rw [← HD2.out]; congr 1, by rw [HD3.out]; simpa using hown', hw.trans hb6⟩
        case measure => simp [intOf]; omega
      · have hkj : ¬ (k : Int) < (ny : Int) := by omega
        have z0 : dg y k = 0 := HLy.out k (by omega)
        rw [z0] at HD2 HD3
        clear l3 z0
        generalize cy x y k = c at *
        generalize dg x k = d1 at *
        go_wp2_with (at_builtin; refine wpList_append_own _ rfl _ _ 78 rfl w.heap.size 106 i0 (.int .u64 0) 1 8 Tryz.underlying78 hi0 hz0 hz1 hz2 rfl (by decide) _ _ _ rfl (hrow.alloc _) ⟨wr.heap.size, 0, none⟩ 1 1 [.int .u64 (((c : Int) + (d1 : Int)) % 1000000000)] rfl rfl (cell_one_new _ _ _) (by simp [Value.oneCell']) (by unfold maxLen; omega) (by omega) (by simp; omega) ?_; intro v' w6 hown' hgrow _)
        have hb6 := grown_below hsz hrow hgrow
        go_roundw
        case rel => exact ⟨k + 1, by omega, by go_num, by rw [← HD2.out]; congr 1, by rw [HD3.out]; simpa using hown', hw.trans hb6⟩
        case measure => simp [intOf]; omega
    · obtain rfl : k = nx := by omega
      have fa := HX.out.fits
      have fb : y < BB ^ k := Nat.lt_of_lt_of_le HY.out.fits (Nat.pow_le_pow_right (by unfold BB; omega) (by omega))
      have l1 := cy_le x y k
      have hlast := cy_last fa fb
      have D3 := pcs_succ (x + y) k
      
      rw [← hlast] at D3
      have hfit : x + y < BB ^ (k + 1) := by
        rw [Nat.pow_succ]
        generalize BB ^ k = p at *
        unfold BB
        omega
      have HD3 := Lib.hid D3
      clear D3 hlast fa fb
      generalize cy x y k = c at *
      go_wp2_with (at_builtin; refine wpList_append_own _ rfl _ _ 78 rfl w.heap.size 106 i0 (.int .u64 0) 1 8 Tryz.underlying78 hi0 hz0 hz1 hz2 rfl (by decide) _ _ _ rfl (hrow.alloc _) ⟨wr.heap.size, 0, none⟩ 1 1 [.int .u64 (c : Nat)] rfl rfl (cell_one_new _ _ _) (by simp [Value.oneCell']) (by unfold maxLen; omega) (by omega) (by simp; omega) ?_; intro v' w6 hown' hgrow _)
      have hb6 := grown_below hsz hrow hgrow
      have hown6 : w6.ownsRow w.heap.size 106 1 v' (k + 1) (pcs (x + y) (k + 1)) := by rw [HD3.out]; simpa using hown'
      obtain ⟨sa, cap, b, rfl, hR, _⟩ := row_of hown6 hfit
      have hT := Lib.hid (TR.out sa (k + 1) cap b 0 w6 hR (by omega))
      have hRt := Lib.hid hR.trim
      go_wp2_with fail
      refine hT.out.mono ?_
      rintro e w7 ⟨rfl, hww⟩
      subst w7
      go_wp2
      go_ret
      exact ⟨⟨_, rfl, sa, cap, b, 0, rfl, hRt.out⟩, hw.trans hb6⟩

set_option maxRecDepth 100000 in
set_option maxHeartbeats 2000000 in
theorem add_swap (sx : Option Addr) (cx bx ox x : Nat) (sy : Option Addr) (cpy by_ oy y : Nat) (hlen : nd x < nd y) (w : World) (hx : Row w sx (nd x) cx bx ox x) (hy : Row w sy (nd y) cpy by_ oy y) (hn : nd y ≤ 1000000) :
    Calls Tryz.prog 99 #[.slice sx (nd x) cx, .slice sy (nd y) cpy] w fun e w' => (∃ v, e = .returned v ∧ Mag w' v (x + y)) ∧ Below w.heap.size w w' := by
  obtain ⟨i0, hi0, hz0, hz1, hz2⟩ := info_parts info_u64
  have HX := Lib.hid hx
  have HY := Lib.hid hy
  have HLx := Lib.hid (fun k (h : nd x ≤ k) => dg_above h)
  have HLy := Lib.hid (fun k (h : nd y ≤ k) => dg_above h)
  obtain ⟨nx, hnx⟩ : ∃ nx, nd x = nx := ⟨_, rfl⟩
  obtain ⟨ny, hny⟩ : ∃ ny, nd y = ny := ⟨_, rfl⟩
  rw [hnx] at HX HLx hlen  ⊢
  rw [hny] at HY HLy hlen hn ⊢
  have TR := Lib.hid (fun sa n cap b o W h hn => trimmed_any sa n cap b o (x + y) W h hn)
  clear hx hy hnx hny
  have hcmp : (nx : Int) < (ny : Int) := by omega
  go_enter Tryz.func99, Tryz.ntmps99
  go_wp2_with (at_make; refine wpList_make_own _ rfl _ _ 78 rfl w.heap.size 106 i0 (.int .u64 0) 1 Tryz.underlying78 hi0 hz0 hz1 .i64 .i64 ((ny : Int) + 1) (ny + 1) rfl rfl (by omega) (by rw [hz2]; omega) (by unfold maxLen; omega) (by omega) ?_; intro w2 hrow2 hgrow2)
  have hb2 : Below w.heap.size w w2 := (Below.refl _ _).grown hgrow2 (Nat.le_refl _) (fun g e => by cases e)
  go_loopw [5, 6, 22] (fun v c i wr => ∃ k : Nat, k ≤ ny ∧ i = .int .i64 (k : Int) ∧ c = .int .u64 (cy y x k : Nat) ∧ wr.ownsRow w.heap.size 106 1 v k (pcs (x + y) k) ∧ Below w.heap.size w wr) (fun _ _ i _ => ny - (intOf i).toNat)
  case atStart => exact ⟨0, Nat.zero_le _, rfl, by rw [cy_zero]; rfl, by simpa [pcs] using hrow2, hb2⟩
  case round =>
    obtain ⟨k, hk, rfl, rfl, hrow, hw⟩ := hrel
    have hsz := hw.size
    by_cases h1 : k < ny
    · have hki : (k : Int) < (ny : Int) := by omega
      have ca := (hw.cell (p := ⟨by_, oy + k, none⟩) (HY.out.lt (by omega))).trans (HY.out.cell k h1)
      obtain rfl := HY.out.at_ (by omega)
      have hcap := HY.out.cap
      have l1 := cy_le y x k
      have l2 := dg_lt y k
      have l3 := dg_lt x k
      have D1 := cy_digit y x k
      have D2 := cy_next y x k
      have D3 := pcs_succ (x + y) k
      rw [Nat.add_comm y x] at D1
      rw [← D1] at D3
      have HD3 := Lib.hid D3
      have HD2 := Lib.hid D2
      clear D1 D2 D3
      by_cases h2 : k < nx
      · have hkj : (k : Int) < (nx : Int) := by omega
        have cb := (hw.cell (p := ⟨bx, ox + k, none⟩) (HX.out.lt (by omega))).trans (HX.out.cell k h2)
        obtain rfl := HX.out.at_ (by omega)
        generalize cy y x k = c at *
        generalize dg y k = d1 at *
        generalize dg x k = d2 at *
        go_wp2_with (at_builtin; refine wpList_append_own _ rfl _ _ 78 rfl w.heap.size 106 i0 (.int .u64 0) 1 8 Tryz.underlying78 hi0 hz0 hz1 hz2 rfl (by decide) _ _ _ rfl (hrow.alloc _) ⟨wr.heap.size, 0, none⟩ 1 1 [.int .u64 (((c : Int) + (d1 : Int) + (d2 : Int)) % 1000000000)] rfl rfl (cell_one_new _ _ _) (by simp [Value.oneCell']) (by unfold maxLen; omega) (by omega) (by simp; omega) ?_; intro v' w6 hown' hgrow _)
        have hb6 := grown_below hsz hrow hgrow
        go_roundw
        case rel => exact ⟨k + 1, by omega, by go_num, by rw [← HD2.out]; congr 1, by rw [HD3.out]; simpa using hown', hw.trans hb6⟩
        case measure => simp [intOf]; omega
      · have hkj : ¬ (k : Int) < (nx : Int) := by omega
        have z0 : dg x k = 0 := HLx.out k (by omega)
        rw [z0] at HD2 HD3
        clear l3 z0
        generalize cy y x k = c at *
        generalize dg y k = d1 at *
        go_wp2_with (at_builtin; refine wpList_append_own _ rfl _ _ 78 rfl w.heap.size 106 i0 (.int .u64 0) 1 8 Tryz.underlying78 hi0 hz0 hz1 hz2 rfl (by decide) _ _ _ rfl (hrow.alloc _) ⟨wr.heap.size, 0, none⟩ 1 1 [.int .u64 (((c : Int) + (d1 : Int)) % 1000000000)] rfl rfl (cell_one_new _ _ _) (by simp [Value.oneCell']) (by unfold maxLen; omega) (by omega) (by simp; omega) ?_; intro v' w6 hown' hgrow _)
        have hb6 := grown_below hsz hrow hgrow
        go_roundw
        case rel => exact ⟨k + 1, by omega, by go_num, by rw [← HD2.out]; congr 1, by rw [HD3.out]; simpa using hown', hw.trans hb6⟩
        case measure => simp [intOf]; omega
    · obtain rfl : k = ny := by omega
      have fa := HY.out.fits
      have fb : x < BB ^ k := Nat.lt_of_lt_of_le HX.out.fits (Nat.pow_le_pow_right (by unfold BB; omega) (by omega))
      have l1 := cy_le y x k
      have hlast := cy_last fa fb
      have D3 := pcs_succ (x + y) k
      rw [Nat.add_comm y x] at hlast
      rw [← hlast] at D3
      have hfit : x + y < BB ^ (k + 1) := by
        rw [Nat.pow_succ]
        generalize BB ^ k = p at *
        unfold BB
        omega
      have HD3 := Lib.hid D3
      clear D3 hlast fa fb
      generalize cy y x k = c at *
      go_wp2_with (at_builtin; refine wpList_append_own _ rfl _ _ 78 rfl w.heap.size 106 i0 (.int .u64 0) 1 8 Tryz.underlying78 hi0 hz0 hz1 hz2 rfl (by decide) _ _ _ rfl (hrow.alloc _) ⟨wr.heap.size, 0, none⟩ 1 1 [.int .u64 (c : Nat)] rfl rfl (cell_one_new _ _ _) (by simp [Value.oneCell']) (by unfold maxLen; omega) (by omega) (by simp; omega) ?_; intro v' w6 hown' hgrow _)
      have hb6 := grown_below hsz hrow hgrow
      have hown6 : w6.ownsRow w.heap.size 106 1 v' (k + 1) (pcs (x + y) (k + 1)) := by rw [HD3.out]; simpa using hown'
      obtain ⟨sa, cap, b, rfl, hR, _⟩ := row_of hown6 hfit
      have hT := Lib.hid (TR.out sa (k + 1) cap b 0 w6 hR (by omega))
      have hRt := Lib.hid hR.trim
      go_wp2_with fail
      refine hT.out.mono ?_
      rintro e w7 ⟨rfl, hww⟩
      subst w7
      go_wp2
      go_ret
      exact ⟨⟨_, rfl, sa, cap, b, 0, rfl, hRt.out⟩, hw.trans hb6⟩

end Go.Proofs.YtnchodofgaaeeaaGreatDoor
