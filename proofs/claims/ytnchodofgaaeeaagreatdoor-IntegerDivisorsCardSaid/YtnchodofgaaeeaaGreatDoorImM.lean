/- The contract of mulMagnitudes. -/
import Derived.Test.YtnchodofgaaeeaaGreatDoorImK
namespace Go.Proofs.YtnchodofgaaeeaaGreatDoor
open Go Go.RowKit Go.Shelf

/-- The carry in the row of factor d at place k. -/
def mc (T d y i k : Nat) : Nat := (T % BB ^ (i + k) + BB ^ i * (d * (y % BB ^ k))) / BB ^ (i + k)
theorem mc_zero (T d y i : Nat) : mc T d y i 0 = 0 := by
  unfold mc
  rw [Nat.pow_zero, Nat.mod_one, Nat.mul_zero, Nat.mul_zero, Nat.add_zero, Nat.add_zero]
  exact Nat.div_eq_of_lt (Nat.mod_lt _ (Nat.pow_pos (by unfold BB; omega)))
theorem mc_le (T d y i k : Nat) (hd : d ≤ BB) : mc T d y i k ≤ BB + 1 := by
  unfold mc
  have hp : 0 < BB ^ k := Nat.pow_pos (by unfold BB; omega)
  have hq : 0 < BB ^ (i + k) := Nat.pow_pos (by unfold BB; omega)
  have h1 := Nat.mod_lt T hq
  have h2 := Nat.mod_lt y hp
  have h3 : d * (y % BB ^ k) ≤ BB * BB ^ k := Nat.mul_le_mul hd (by omega)
  have h4 : BB ^ i * (d * (y % BB ^ k)) ≤ BB ^ i * (BB * BB ^ k) := Nat.mul_le_mul_left _ h3
  have e : BB ^ i * (BB * BB ^ k) = BB * BB ^ (i + k) := by rw [Nat.pow_add, Nat.mul_left_comm]
  refine Nat.le_of_lt_succ ((Nat.div_lt_iff_lt_mul hq).2 ?_)
  rw [e] at h4
  have e2 : (BB + 1 + 1) * BB ^ (i + k) = BB * BB ^ (i + k) + BB ^ (i + k) + BB ^ (i + k) := by rw [Nat.add_mul, Nat.add_mul, Nat.one_mul]
  have e3 : (BB + 1).succ = BB + 1 + 1 := rfl
  rw [e3, e2]
  omega
theorem mc_arg (d y i k : Nat) : BB ^ i * (d * (y % BB ^ (k + 1))) = BB ^ i * (d * (y % BB ^ k)) + BB ^ (i + k) * (d * dg y k) := by
  unfold dg
  rw [Im.mod_succ y k, Nat.mul_add, Nat.mul_add, Nat.pow_add, show d * (BB ^ k * Im.dg BB y k) = BB ^ k * (d * Im.dg BB y k) by rw [Nat.mul_left_comm], Nat.mul_assoc]
theorem mul_low (d y i k : Nat) : BB ^ i * (d * (y % BB ^ (k + 1))) % BB ^ (i + (k + 1)) = BB ^ i * (d * y) % BB ^ (i + (k + 1)) := by
  rw [Nat.pow_add BB i (k + 1), Nat.mul_mod_mul_left, Nat.mul_mod_mul_left]
  congr 1
  simp [Nat.mul_mod]
theorem mc_digit (T d y i k : Nat) : (mc T d y i k + dg T (i + k) + d * dg y k) % 1000000000 = dg (T + BB ^ i * (d * y)) (i + k) := by
  have h := Im.carry_digit bb2 T (BB ^ i * (d * (y % BB ^ k))) (d * dg y k) (i + k)
  rw [← mc_arg] at h
  refine Eq.trans h (Im.dg_mod ?_)
  rw [Nat.add_mod, Nat.add_mod T (BB ^ i * (d * y)), show i + k + 1 = i + (k + 1) by omega, mul_low]
theorem mc_next (T d y i k : Nat) : (mc T d y i k + dg T (i + k) + d * dg y k) / 1000000000 = mc T d y i (k + 1) := by
  have h := Im.carry_next bb2 T (BB ^ i * (d * (y % BB ^ k))) (d * dg y k) (i + k)
  rw [← mc_arg] at h
  exact h
theorem mc_last {T d y i n : Nat} (hT : T < BB ^ (i + n)) (hy : y < BB ^ n) (hd : d < BB) : mc T d y i n = dg (T + BB ^ i * (d * y)) (i + n) := by
  unfold mc dg Im.dg
  rw [Nat.mod_eq_of_lt hT, Nat.mod_eq_of_lt hy]
  refine (Nat.mod_eq_of_lt ?_).symm
  rw [Nat.div_lt_iff_lt_mul (Nat.pow_pos (by unfold BB; omega))]
  have h1 : d * y + 1 ≤ (BB - 1) * BB ^ n + 1 := by
    have := Nat.mul_le_mul (show d ≤ BB - 1 by omega) (Nat.le_of_lt hy)
    omega
  have h2 : BB ^ i * (d * y) ≤ BB ^ i * ((BB - 1) * BB ^ n) := Nat.mul_le_mul_left _ (by omega)
  have e : BB ^ i * ((BB - 1) * BB ^ n) = (BB - 1) * BB ^ (i + n) := by rw [Nat.pow_add, Nat.mul_left_comm]
  have e2 : BB * BB ^ (i + n) = (BB - 1) * BB ^ (i + n) + BB ^ (i + n) := by
    rw [← Nat.succ_mul, show (BB - 1).succ = BB from rfl]
  rw [e] at h2
  omega

theorem put_at {N D : Nat} {A : World} {f g : Nat → Nat} {k : Nat} {v q : Value} (hq : A.cell? ⟨D, k, none⟩ = some q) (hv : v = .int .u64 (g k : Nat)) (hfg : ∀ j, j ≠ k → g j = f j)
    (h : ∀ j, j < N → A.cell? ⟨D, j, none⟩ = some (.int .u64 (f j : Nat))) : ∀ j, j < N → (A.setCell ⟨D, k, none⟩ v).cell? ⟨D, j, none⟩ = some (.int .u64 (g j : Nat)) := fun j hj => by
  by_cases e : j = k
  · subst e; rw [World.cell?_setCell_same _ _ _ hq, hv]
  · rw [hfg j e]
    exact (World.cell?_setCell_other _ _ _ _ (fun e2 => by have := congrArg Addr.off e2; simp at this; omega)).trans (h j hj)

/-- The row between: below i + k the sum's digits, above the old ones. -/
def mix (S T m j : Nat) : Nat := if j < m then dg S j else dg T j

set_option maxRecDepth 100000 in
set_option maxHeartbeats 4000000 in
theorem mul_any (sx : Option Addr) (cx bx ox x : Nat) (sy : Option Addr) (cpy by_ oy y : Nat) (w : World) (hx : Row w sx (nd x) cx bx ox x) (hy : Row w sy (nd y) cpy by_ oy y) (hn : nd x + nd y ≤ 1048576) :
    Calls Tryz.prog 106 #[.slice sx (nd x) cx, .slice sy (nd y) cpy] w fun e w' => (∃ v, e = .returned v ∧ Mag w' v (x * y)) ∧ Below w.heap.size w w' := by
  obtain ⟨i0, hi0, hz0, hz1, hz2⟩ := info_parts info_u64
  have HX := Lib.hid hx
  have HY := Lib.hid hy
  obtain ⟨nx, hnx⟩ : ∃ nx, nd x = nx := ⟨_, rfl⟩
  obtain ⟨ny, hny⟩ : ∃ ny, nd y = ny := ⟨_, rfl⟩
  rw [hnx] at HX hn ⊢
  rw [hny] at HY hn ⊢
  have TR := Lib.hid (fun sa n cap b o W h hn => trimmed_any sa n cap b o (x * y) W h hn)
  have hcx := hx.cap
  have hcy := hy.cap
  rw [hnx] at hcx
  rw [hny] at hcy
  clear hx hy hnx hny
  obtain ⟨D, hD⟩ : ∃ D, w.heap.size = D := ⟨_, rfl⟩
  obtain ⟨N, hN⟩ : ∃ N, nx + ny = N := ⟨_, rfl⟩
  have hNi : (nx : Int) + (ny : Int) = (N : Int) := by omega
  have hmk : (Instr.makeSlice 78 (.int .i64 (N : Int)) (.int .i64 (N : Int))).run Tryz.prog w = .ok (.slice (some ⟨w.heap.size, 0, none⟩) N N) (w.alloc (.cells (madeCells #[.int .u64 0] (N * 1)) 106)) := by
    have := run_makeSlice (P := Tryz.prog) w 78 106 i0 (.int .u64 0) Tryz.underlying78 hi0 hz0 .i64 .i64 (N : Int) (N : Int) (by omega) (by omega) (by rw [hz1]; simp; omega) (by rw [hz2]; omega) (by omega)
    rw [hz1] at this
    simpa [Value.cells] using this
  rw [hD] at hmk
  obtain ⟨W1, hW1⟩ : ∃ W1, (w.alloc (.cells (madeCells #[.int .u64 0] (N * 1)) 106)) = W1 := ⟨_, rfl⟩
  have hw1 : Below D w W1 := by rw [← hW1]; exact (Below.refl _ _).alloc (by omega) _
  have hz1' : W1.heap.size = D + 1 := by rw [← hW1]; simp [hD]
  have hh1 : W1.heap[D]? = some (.cells (madeCells #[.int .u64 0] (N * 1)) 106) := by rw [← hW1]; exact heap_at hD.symm
  have hc1 : ∀ j, j < N → W1.cell? ⟨D, j, none⟩ = some (.int .u64 ((fun j => dg ((x % BB ^ 0) * y) j) j : Nat)) := fun j hj => by
    have e : dg ((x % BB ^ 0) * y) j = 0 := by rw [Nat.pow_zero, Nat.mod_one, Nat.zero_mul]; unfold dg Im.dg; simp
    have e2 : (madeCells #[Value.int .u64 0] (N * 1))[j]? = some (.int .u64 0) := by rw [← Array.getElem?_toList, toList_madeCells_one, List.getElem?_replicate, if_pos (by omega)]
    simp only [e]
    rw [Lib.cell_of_heap hh1, e2]
    rfl
  have hf1 : ∀ j, W1.frozen? ⟨D, j, none⟩ = false := fun j => by simp [World.frozen?, hh1]
  rw [hW1] at hmk
  have HC1 := Lib.hid hc1
  have HF1 := Lib.hid hf1
  clear hW1 hh1 hc1 hf1
  go_enter Tryz.func106, Tryz.ntmps106
  go_wp2_with fail
  go_loopw [19] (fun i wr => ∃ i' : Nat, i' ≤ nx ∧ i = .int .i64 (i' : Int) ∧ Win D 0 N W1 wr ∧ ∀ j, j < N → wr.cell? ⟨D, j, none⟩ = some (.int .u64 ((fun j => dg ((x % BB ^ i') * y) j) j : Nat))) (fun i _ => nx - (intOf i).toNat)
  case atStart => exact ⟨0, Nat.zero_le _, rfl, Win.refl _ _ _ _, HC1.out⟩
  case round =>
    obtain ⟨i, hi, rfl, hw, hc⟩ := hrel
    by_cases h1 : i < nx
    · have hii : (i : Int) < (nx : Int) := by omega
      have hwb := hw1.trans (hw.below D (Nat.le_refl _))
      have ca := (hwb.cell (p := ⟨bx, ox + i, none⟩) (by have := HX.out.lt (by omega); show bx < D; omega)).trans (HX.out.cell i h1)
      obtain rfl := HX.out.at_ (by omega)
      have ld := dg_lt x i
      obtain ⟨T, hT⟩ : ∃ T, (x % BB ^ i) * y = T := ⟨_, rfl⟩
      have hS : (x % BB ^ (i + 1)) * y = T + BB ^ i * (dg x i * y) := by
        rw [← hT, show x % BB ^ (i + 1) = x % BB ^ i + BB ^ i * dg x i from Im.mod_succ x i, Nat.add_mul, Nat.mul_assoc]
      have hTlt : T < BB ^ (i + ny) := by
        rw [← hT, Nat.pow_add]
        have a1 := Nat.mod_lt x (show 0 < BB ^ i from Nat.pow_pos (by unfold BB; omega))
        have a2 := HY.out.fits
        exact Nat.mul_lt_mul'' a1 a2
      rw [hT] at hc
      have HS := Lib.hid hS
      have HTL := Lib.hid hTlt
      have HC := Lib.hid hc
      clear hS hT hTlt hc
      generalize dg x i = d at *
      have hdB : d ≤ BB := by unfold BB; omega
      go_wp2_with fail
      go_loopw [8, 26] (fun c k wk => ∃ k' : Nat, k' ≤ ny ∧ k = .int .i64 (k' : Int) ∧ c = .int .u64 (mc T d y i k' : Nat) ∧ Win D 0 N W1 wk ∧ ∀ j, j < N → wk.cell? ⟨D, j, none⟩ = some (.int .u64 (mix (T + BB ^ i * (d * y)) T (i + k') j : Nat))) (fun _ k _ => ny - (intOf k).toNat)
      case atStart =>
        refine ⟨0, Nat.zero_le _, rfl, by rw [mc_zero]; rfl, hw, fun j hj => ?_⟩
        have e : mix (T + BB ^ i * (d * y)) T (i + 0) j = dg T j := by
          unfold mix
          rw [Nat.add_zero]
          split
          · rename_i hji
            unfold dg
            refine Im.dg_mod ?_
            have hd2 : BB ^ (j + 1) ∣ BB ^ i * (d * y) := Nat.dvd_trans (Nat.pow_dvd_pow _ (by omega)) (Nat.dvd_mul_right _ _)
            obtain ⟨q, hq⟩ := hd2
            rw [hq, Nat.add_mul_mod_self_left]
          · rfl
        rw [e]
        exact HC.out j hj
      case round =>
        obtain ⟨k, hk, rfl, rfl, hwk, hck⟩ := hrel
        by_cases h2 : k < ny
        · have hkk : (k : Int) < (ny : Int) := by omega
          have hwb2 := hw1.trans (hwk.below D (Nat.le_refl _))
          have cb := (hwb2.cell (p := ⟨by_, oy + k, none⟩) (by have := HY.out.lt (by omega); show by_ < D; omega)).trans (HY.out.cell k h2)
          obtain rfl := HY.out.at_ (by omega)
          have c1 := hck (i + k) (by omega)
          have f1 : wr.frozen? ⟨D, i + k, none⟩ = false := (hwk.frozen _).trans (HF1.out _)
          have e1 : mix (T + BB ^ i * (d * y)) T (i + k) (i + k) = dg T (i + k) := by unfold mix; rw [if_neg (by omega)]
          rw [e1] at c1
          have M1 := mc_digit T d y i k
          have M2 := mc_next T d y i k
          have l1 := mc_le T d y i k hdB
          have l2 := dg_lt T (i + k)
          have l3 := dg_lt y k
          have PUT := Lib.hid (fun (v : Value) (hv : v = .int .u64 (dg (T + BB ^ i * (d * y)) (i + k) : Nat)) => put_at (N := N) (v := v) (g := mix (T + BB ^ i * (d * y)) T (i + (k + 1))) (k := i + k) c1 (by rw [hv]; unfold mix; rw [if_pos (by omega)]) (fun j hj => by unfold mix; by_cases hj2 : j < i + k; rw [if_pos (by omega), if_pos hj2]; rw [if_neg (by omega), if_neg hj2]) hck)
          have WIN := Lib.hid (fun (v : Value) => by have := hwk.set (k := i + k) (by omega) v; rw [Nat.zero_add] at this; exact this)
          obtain ⟨m, hm⟩ : ∃ m : Nat, i + k = m := ⟨_, rfl⟩
          have hmi : (i : Int) + (k : Int) = (m : Int) := by omega
          have hmN : (m : Int) < (N : Int) := by omega
          obtain ⟨t, ht⟩ : ∃ t, d * dg y k = t := ⟨_, rfl⟩
          have hti : (d : Int) * ((dg y k : Nat) : Int) = (t : Int) := by rw [← ht]; simp
          have htb : t ≤ 1000000000 * 1000000000 := by rw [← ht]; exact Nat.mul_le_mul (by omega) (by omega)
          rw [ht] at M1 M2
          rw [hm] at c1 f1 M1 M2 l2 PUT WIN
          rw [← M1] at PUT
          have HM2 := Lib.hid M2
          clear hck M1 M2 hm ht e1
          generalize mc T d y i k = c at *
          generalize dg T m = p at *
          generalize dg y k = q at *
          have lB : c ≤ 1000000001 := l1
          clear l1
          go_wp2_with fail
          go_roundw
          case rel => exact ⟨k + 1, by omega, by go_num, by rw [← HM2.out]; congr 1; omega, WIN.out _, PUT.out _ (by congr 1; omega)⟩
          case measure => simp [intOf]; omega
        · obtain rfl : k = ny := by omega
          have c1 := hck (i + k) (by omega)
          have f1 : wr.frozen? ⟨D, i + k, none⟩ = false := (hwk.frozen _).trans (HF1.out _)
          have ML := mc_last HTL.out HY.out.fits (show d < BB from ld)
          have PUT := Lib.hid (fun (v : Value) (hv : v = .int .u64 (dg (T + BB ^ i * (d * y)) (i + k) : Nat)) => put_at (N := N) (v := v) (g := dg (T + BB ^ i * (d * y))) (k := i + k) c1 hv (fun j hj => by
            unfold mix
            by_cases hj2 : j < i + k
            · rw [if_pos hj2]
            · rw [if_neg hj2]
              have t0 : dg T j = 0 := Im.dg_high (Nat.lt_of_lt_of_le HTL.out (Nat.pow_le_pow_right (by unfold BB; omega) (by omega)))
              rw [t0, ← HS.out]
              refine Im.dg_high ?_
              have a1 := Nat.mod_lt x (show 0 < BB ^ (i + 1) from Nat.pow_pos (by unfold BB; omega))
              have a2 := Nat.mul_lt_mul'' a1 HY.out.fits
              rw [← Nat.pow_add] at a2
              exact Nat.lt_of_lt_of_le a2 (Nat.pow_le_pow_right (by unfold BB; omega) (by omega))) hck)
          have WIN := Lib.hid (fun (v : Value) => by have := hwk.set (k := i + k) (by omega) v; rw [Nat.zero_add] at this; exact this)
          obtain ⟨m, hm⟩ : ∃ m : Nat, i + k = m := ⟨_, rfl⟩
          have hmi : (i : Int) + (k : Int) = (m : Int) := by omega
          have hmN : (m : Int) < (N : Int) := by omega
          rw [hm] at c1 f1 ML PUT WIN
          rw [← ML] at PUT
          clear hck ML hm
          generalize mc T d y i k = c at *
          generalize hmx : mix (T + BB ^ i * (d * y)) T m m = mx at *
          go_wp2_with fail
          go_roundw
          case rel => exact ⟨i + 1, by omega, by go_num, WIN.out _, by rw [HS.out]; exact PUT.out _ rfl⟩
          case measure => simp [intOf]; omega
    · obtain rfl : i = nx := by omega
      have hxx : x % BB ^ i = x := Nat.mod_eq_of_lt HX.out.fits
      rw [hxx] at hc
      have hwb := hw1.trans (hw.below D (Nat.le_refl _))
      have hR : Row wr (some ⟨D, 0, none⟩) N N D 0 (x * y) := ⟨Nat.le_refl _, fun _ => rfl, fun _ => by have := hw.size; omega, fun k hk => by rw [Nat.zero_add]; exact hc k hk, by rw [← hN, Nat.pow_add]; exact Nat.mul_lt_mul'' HX.out.fits HY.out.fits⟩
      have hT := Lib.hid (TR.out _ N N D 0 wr hR (by omega))
      have hRt := Lib.hid hR.trim
      clear hc hR hxx
      go_wp2_with fail
      refine hT.out.mono ?_
      rintro e w7 ⟨rfl, hww⟩
      subst w7
      go_wp2
      go_ret
      exact ⟨⟨_, rfl, some ⟨D, 0, none⟩, N, D, 0, rfl, hRt.out⟩, by rw [hD]; exact hwb⟩
end Go.Proofs.YtnchodofgaaeeaaGreatDoor
