/- Contracts of checkAll over a slice of fractions, and of the reference's both: 0 where all are right, else ErrNumber; the slice's cells are given. -/
import Derived.Test.YtkoljddejjfbiaaGreatDoorFracC
import Derived.Test.YtkoljddejjfbiaaGreatDoorImB
import Derived.Test.YtkoljddejjfbiaaGreatDoorImYd
import Derived.Test.YtkoljddejjfbiaaGreatDoorIvA
namespace Go.Proofs.YtkoljddejjfbiaaGreatDoor
open Go.RowKit

theorem new_cell (w : World) (xs : Array Value) (T : TypeId) {b i : Nat} (hb : b = w.heap.size) {v : Value} (h : xs[i]? = some v) : (w.alloc (.cells xs T)).cell? ⟨b, i, none⟩ = some v := by
  subst hb
  simp [h]

set_option maxHeartbeats 1000000 in
theorem checkAll_upto (B off cap n m : Nat) (X Y : Nat → Int) (w : World) (hm : m ≤ n) (hn : n ≤ 1099511627776) (hB : B < w.heap.size)
    (hx : ∀ k, k < n → w.cell? ⟨B, off + k * 2, none⟩ = some (.int .i64 (X k)) ∧ w.cell? ⟨B, off + k * 2 + 1, none⟩ = some (.int .i64 (Y k)))
    (hr : ∀ k, k < m → FracMath.rightB (X k) (Y k) = true) (hb : m < n → FracMath.rightB (X m) (Y m) = false) (r : Int) (hres : r = if m = n then 0 else 2) :
    Calls Tryz.prog 49 #[.slice (some ⟨B, off, none⟩) n cap] w fun e w' => e = .returned (.int .i64 r) ∧ Below w.heap.size w w' := by
  have HX := Lib.hid hx
  have HR := Lib.hid hr
  have HB := Lib.hid hb
  have HS := Lib.hid hres
  clear hx hr hb hres
  go_enter Tryz.func49, Tryz.ntmps49
  go_wp2
  go_loopw [8] (fun i wr => ∃ k : Nat, k ≤ m ∧ i = .int .i64 (k : Int) ∧ Below w.heap.size w wr) (fun i _ => n - (intOf i).toNat)
  case atStart => exact ⟨0, Nat.zero_le _, rfl, Below.refl _ _⟩
  case round =>
    obtain ⟨k, hk, rfl, hw⟩ := hrel
    by_cases h1 : k < n
    · have hx0 := (hw.cell (p := ⟨B, off + k * 2, none⟩) hB).trans (HX.out k h1).1
      have hx1 := (hw.cell (p := ⟨B, off + k * 2 + 1, none⟩) hB).trans (HX.out k h1).2
      have hsz := hw.size
      by_cases h2 : k < m
      · have ec : chk (X k) (Y k) = 0 := chk_yes (HR.out k h2)
        have c := fun W => fcheck_any (X k) (Y k) W
        rw [ec] at c
        have C := Lib.hid c
        clear c ec
        go_wp2_with fail
        refine (C.out _).mono ?_
        rintro e w1 ⟨rfl, hb1⟩
        have hz1 := hb1.size
        simp at hz1
        go_wp2
        go_roundw
        case rel => exact ⟨k + 1, by omega, by go_num, (hw.alloc (by omega) _).trans (hb1.mono (by simp; omega))⟩
        case measure => simp [intOf]; omega
      · have hkm : k = m := by omega
        have ec : chk (X k) (Y k) = 2 := chk_no (by rw [hkm]; exact HB.out (by omega))
        have er : r = 2 := by rw [HS.out, if_neg (by omega)]
        have HE := Lib.hid er
        have c := fun W => fcheck_any (X k) (Y k) W
        rw [ec] at c
        have C := Lib.hid c
        clear c ec er hkm
        go_wp2_with fail
        refine (C.out _).mono ?_
        rintro e w1 ⟨rfl, hb1⟩
        have hz1 := hb1.size
        simp at hz1
        go_wp2
        go_ret
        exact ⟨ret_int HE.out.symm, (hw.alloc (by omega) _).trans (hb1.mono (by simp; omega))⟩
    · have er : r = 0 := by rw [HS.out, if_pos (by omega)]
      have HE := Lib.hid er
      clear er
      go_wp2
      go_ret
      exact ⟨ret_int HE.out.symm, hw⟩

theorem checkAll_two (B cap : Nat) (a b c d : Int) (w : World) (hB : B < w.heap.size)
    (h0 : w.cell? ⟨B, 0, none⟩ = some (.int .i64 a)) (h1 : w.cell? ⟨B, 1, none⟩ = some (.int .i64 b)) (h2 : w.cell? ⟨B, 2, none⟩ = some (.int .i64 c)) (h3 : w.cell? ⟨B, 3, none⟩ = some (.int .i64 d)) :
    Calls Tryz.prog 49 #[.slice (some ⟨B, 0, none⟩) 2 cap] w fun e w' => e = .returned (.int .i64 (if FracMath.rightB a b && FracMath.rightB c d then 0 else 2)) ∧ Below w.heap.size w w' := by
  have hx : ∀ k, k < 2 → w.cell? ⟨B, 0 + k * 2, none⟩ = some (.int .i64 ((fun k : Nat => if k = 0 then a else c) k)) ∧ w.cell? ⟨B, 0 + k * 2 + 1, none⟩ = some (.int .i64 ((fun k : Nat => if k = 0 then b else d) k)) := by
    intro k hk
    rcases (show k = 0 ∨ k = 1 by omega) with rfl | rfl
    · exact ⟨h0, h1⟩
    · exact ⟨h2, h3⟩
  cases e1 : FracMath.rightB a b
  · exact checkAll_upto B 0 cap 2 0 _ _ w (by omega) (by omega) hB hx (fun k hk => by omega) (fun _ => e1) _ (by simp)
  · cases e2 : FracMath.rightB c d
    · refine checkAll_upto B 0 cap 2 1 _ _ w (by omega) (by omega) hB hx (fun k hk => ?_) (fun _ => e2) _ (by simp)
      obtain rfl : k = 0 := by omega
      exact e1
    · refine checkAll_upto B 0 cap 2 2 _ _ w (by omega) (by omega) hB hx (fun k hk => ?_) (fun h => by omega) _ (by simp)
      rcases (show k = 0 ∨ k = 1 by omega) with rfl | rfl
      · exact e1
      · exact e2

end Go.Proofs.YtkoljddejjfbiaaGreatDoor
/- Contracts of the four calculations over fractions: the quotient in lowest terms that FracMath.mk says, or ErrNumber where one of both is not right; no condition. -/
namespace Go.Proofs.YtkoljddejjfbiaaGreatDoor
open Go.RowKit

set_option maxHeartbeats 1000000 in
theorem div_wrong (a b c d : Int) (w : World) (h : (FracMath.rightB a b && FracMath.rightB c d) = false) :
    Calls Tryz.prog 32 #[.agg #[.int .i64 a, .int .i64 b], .agg #[.int .i64 c, .int .i64 d]] w fun e w' => e = .returned (.tuple #[.agg #[.int .i64 0, .int .i64 0], .int .i64 2]) ∧ Below w.heap.size w w' := by
  have c := fun (B cap : Nat) (W : World) => checkAll_two B cap a b c d W
  rw [h, if_neg (by decide)] at c
  have C0 := Lib.hid c
  clear c h
  go_enter Tryz.func32, Tryz.ntmps32
  go_wp2_with fail
  refine (C0.out _ _ _ ?_ ?_ ?_ ?_ ?_).mono ?_
  · simp
  · exact new_cell _ _ _ (by simp) rfl
  · exact new_cell _ _ _ (by simp) rfl
  · exact new_cell _ _ _ (by simp) rfl
  · exact new_cell _ _ _ (by simp) rfl
  rintro e w1 ⟨rfl, hb1⟩
  obtain ⟨a0, a1, al, _⟩ := ((((Two.new w (.int .i64 a) (.int .i64 b) 23).alloc _).alloc _).alloc _).below hb1
  obtain ⟨c0, c1, cl, _⟩ := ((((Two.new (w.alloc _) (.int .i64 c) (.int .i64 d) 23).alloc _).alloc _)).below hb1
  have R1 := ((Two.new ((w.alloc _).alloc _) (.int .i64 0) (.int .i64 0) 23).alloc _).below hb1
  have HR1 := Lib.hid R1
  obtain ⟨r0, r1, rl, rf⟩ := R1
  simp at c0 c1 cl r0 r1 rl rf
  have hz1 := hb1.size
  simp at hz1
  go_wp2
  exact bodyPost_ret (v := .tuple #[.agg #[.int .i64 0, .int .i64 0], .int .i64 2]) (by simp [results, Tryz.results32, go_sem, r0, r1]) rfl ⟨rfl, (((((((Below.refl _ _).alloc (Nat.le_refl _) _).alloc (by go_size) _).alloc (by go_size) _).alloc (by go_size) _).trans (hb1.mono (by go_size))).setCell (by go_size) _).setCell (by go_size) _⟩

set_option maxHeartbeats 1000000 in
theorem div_right (a b c d : Int) (w : World) (h1 : FracMath.rightB a b = true) (h2 : FracMath.rightB c d = true) :
    Calls Tryz.prog 32 #[.agg #[.int .i64 a, .int .i64 b], .agg #[.int .i64 c, .int .i64 d]] w fun e w' => e = .returned (.tuple #[.agg #[.int .i64 (FracMath.mk (a * d) (b * c)).1, .int .i64 (FracMath.mk (a * d) (b * c)).2.1], .int .i64 (FracMath.mk (a * d) (b * c)).2.2]) ∧ Below w.heap.size w w' := by
  have c := fun (B cap : Nat) (W : World) => checkAll_two B cap a b c d W
  rw [h1, h2, if_pos (by decide)] at c
  have C0 := Lib.hid c
  obtain ⟨k1, k2, k3, k4, _⟩ := FracMath.right_of h1
  obtain ⟨l1, l2, l3, l4, _⟩ := FracMath.right_of h2
  clear c h1 h2
  have fad := FracMath.prod_bd (x := a) (y := d) ⟨by omega, by omega⟩ ⟨by omega, by omega⟩
  have fbc := FracMath.prod_bd (x := b) (y := c) ⟨by omega, by omega⟩ ⟨by omega, by omega⟩
  have m := fun W => make_any (a * d) (b * c) W (by omega) (by omega) (by omega) (by omega)
  generalize FracMath.mk (a * d) (b * c) = v at m ⊢
  have M := Lib.hid m
  clear m
  go_enter Tryz.func32, Tryz.ntmps32
  go_wp2_with fail
  refine (C0.out _ _ _ ?_ ?_ ?_ ?_ ?_).mono ?_
  · simp
  · exact new_cell _ _ _ (by simp) rfl
  · exact new_cell _ _ _ (by simp) rfl
  · exact new_cell _ _ _ (by simp) rfl
  · exact new_cell _ _ _ (by simp) rfl
  rintro e w1 ⟨rfl, hb1⟩
  obtain ⟨a0, a1, al, _⟩ := ((((Two.new w (.int .i64 a) (.int .i64 b) 23).alloc _).alloc _).alloc _).below hb1
  obtain ⟨c0, c1, cl, _⟩ := ((((Two.new (w.alloc _) (.int .i64 c) (.int .i64 d) 23).alloc _).alloc _)).below hb1
  have R1 := ((Two.new ((w.alloc _).alloc _) (.int .i64 0) (.int .i64 0) 23).alloc _).below hb1
  have HR1 := Lib.hid R1
  obtain ⟨r0, r1, rl, rf⟩ := R1
  simp at c0 c1 cl r0 r1 rl rf
  have hz1 := hb1.size
  simp at hz1
  go_wp2_with fail
  refine (M.out _).mono ?_
  rintro e w2 ⟨rfl, hb2⟩
  obtain ⟨s0, s1, sl, sf⟩ := HR1.out.below hb2
  simp at s0 s1 sl sf
  go_wp2
  exact bodyPost_ret (v := .tuple #[.agg #[.int .i64 v.1, .int .i64 v.2.1], .int .i64 v.2.2]) (by simp [results, Tryz.results32, go_sem, s0, s1]) rfl ⟨rfl, ((((((((Below.refl _ _).alloc (Nat.le_refl _) _).alloc (by go_size) _).alloc (by go_size) _).alloc (by go_size) _).trans (hb1.mono (by go_size))).trans (hb2.mono (by omega))).setCell (by go_size) _).setCell (by go_size) _⟩
end Go.Proofs.YtkoljddejjfbiaaGreatDoor
/- More plain arithmetic on fractions: signs of differences and bounds of quotients; no program is named here; no condition. -/
namespace Go.Proofs.YtkoljddejjfbiaaGreatDoor.FracMath
open Go.RowKit
def cmpI (a b : Int) : Int := if a < b then -1 else if b < a then 1 else 0
theorem cmpI_lt {a b : Int} (h : a < b) : cmpI a b = -1 := by unfold cmpI; rw [if_pos h]
theorem cmpI_gt {a b : Int} (h : b < a) : cmpI a b = 1 := by unfold cmpI; rw [if_neg (by omega), if_pos h]
theorem cmpI_eq {a : Int} : cmpI a a = 0 := by unfold cmpI; rw [if_neg (by omega), if_neg (by omega)]
theorem tdiv_bd (n d : Int) : -(n.natAbs : Int) ≤ n.tdiv d ∧ n.tdiv d ≤ n.natAbs := by
  have h : (n.tdiv d).natAbs ≤ n.natAbs := by rw [Int.natAbs_tdiv]; exact Nat.div_le_self _ _
  omega
theorem tdiv_mul_bd (n d : Int) (h : 0 < d) : -(n.natAbs : Int) ≤ n.tdiv d * d ∧ n.tdiv d * d ≤ n.natAbs ∧ n.tdiv d * d + n.tmod d = n := by
  have e : n.tdiv d * d + n.tmod d = n := Int.tdiv_mul_add_tmod n d
  have r1 := Int.tmod_lt_of_pos n h
  have r2 := Int.lt_tmod_of_pos n h
  have r3 : (n.tdiv d * d).natAbs ≤ n.natAbs := by
    rw [Int.natAbs_mul, Int.natAbs_tdiv]
    exact Nat.div_mul_le_self _ _
  omega
theorem ediv_mul_le' (n d : Int) (h : 0 < d) : n / d * d ≤ n := Int.ediv_mul_le n (by omega)
end Go.Proofs.YtkoljddejjfbiaaGreatDoor.FracMath
/- Contracts of Compare, Floor and Nearest over fractions, and of the reference's: signs of differences, and quotients rounded down; ErrNumber where a fraction is not right. -/
namespace Go.Proofs.YtkoljddejjfbiaaGreatDoor
open Go.RowKit

theorem fcmp_lt (a b : Int) (w : World) (h : a < b) : Calls Tryz.prog 55 #[.int .i64 a, .int .i64 b] w fun e w' => e = .returned (.int .i64 (-1)) ∧ w = w' := by
  go_enter Tryz.func55, Tryz.ntmps55
  go_wp2
  go_ret
  exact ⟨rfl, rfl⟩
theorem fcmp_gt (a b : Int) (w : World) (h : b < a) : Calls Tryz.prog 55 #[.int .i64 a, .int .i64 b] w fun e w' => e = .returned (.int .i64 (1)) ∧ w = w' := by
  go_enter Tryz.func55, Tryz.ntmps55
  go_wp2
  go_ret
  exact ⟨rfl, rfl⟩
theorem fcmp_eq (a : Int) (w : World) : Calls Tryz.prog 55 #[.int .i64 a, .int .i64 a] w fun e w' => e = .returned (.int .i64 0) ∧ w = w' := by
  go_enter Tryz.func55, Tryz.ntmps55
  go_wp2
  go_ret
  exact ⟨rfl, rfl⟩
theorem fcmp_any (a b : Int) (w : World) : Calls Tryz.prog 55 #[.int .i64 a, .int .i64 b] w fun e w' => e = .returned (.int .i64 (FracMath.cmpI a b)) ∧ w = w' := by
  rcases Int.lt_trichotomy a b with h | h | h
  · rw [FracMath.cmpI_lt h]; exact fcmp_lt a b w h
  · subst h; rw [FracMath.cmpI_eq]; exact fcmp_eq a w
  · rw [FracMath.cmpI_gt h]; exact fcmp_gt a b w h

set_option maxHeartbeats 1000000 in
theorem compare_right (a b c d : Int) (w : World) (h1 : FracMath.rightB a b = true) (h2 : FracMath.rightB c d = true) :
    Calls Tryz.prog 38 #[.agg #[.int .i64 a, .int .i64 b], .agg #[.int .i64 c, .int .i64 d]] w fun e w' => e = .returned (.tuple #[.int .i64 (FracMath.cmpI (a * d) (c * b)), .int .i64 0]) ∧ Below w.heap.size w w' := by
  have c0 := fun (B cap : Nat) (W : World) => checkAll_two B cap a b c d W
  rw [h1, h2, if_pos (by decide)] at c0
  have C0 := Lib.hid c0
  obtain ⟨k1, k2, k3, k4, _⟩ := FracMath.right_of h1
  obtain ⟨l1, l2, l3, l4, _⟩ := FracMath.right_of h2
  clear c0 h1 h2
  have fad := FracMath.prod_bd (x := a) (y := d) ⟨by omega, by omega⟩ ⟨by omega, by omega⟩
  have fcb := FracMath.prod_bd (x := c) (y := b) ⟨by omega, by omega⟩ ⟨by omega, by omega⟩
  go_enter Tryz.func38, Tryz.ntmps38
  go_wp2_with fail
  refine (C0.out _ _ _ ?_ ?_ ?_ ?_ ?_).mono ?_
  · simp
  · exact new_cell _ _ _ (by simp) rfl
  · exact new_cell _ _ _ (by simp) rfl
  · exact new_cell _ _ _ (by simp) rfl
  · exact new_cell _ _ _ (by simp) rfl
  rintro e w1 ⟨rfl, hb1⟩
  obtain ⟨a0, a1, al, _⟩ := (((Two.new w (.int .i64 a) (.int .i64 b) 23).alloc _).alloc _).below hb1
  obtain ⟨c0, c1, cl, _⟩ := ((Two.new (w.alloc _) (.int .i64 c) (.int .i64 d) 23).alloc _).below hb1
  simp at c0 c1 cl
  go_wp2_with (go_at_call 55; refine (fcmp_any _ _ _).mono ?_; rintro e w' ⟨rfl, rfl⟩)
  go_ret2
  exact ⟨rfl, ((((Below.refl _ _).alloc (Nat.le_refl _) _).alloc (by go_size) _).alloc (by go_size) _).trans (hb1.mono (by go_size))⟩

set_option maxHeartbeats 1000000 in
theorem compare_wrong (a b c d : Int) (w : World) (h : (FracMath.rightB a b && FracMath.rightB c d) = false) :
    Calls Tryz.prog 38 #[.agg #[.int .i64 a, .int .i64 b], .agg #[.int .i64 c, .int .i64 d]] w fun e w' => e = .returned (.tuple #[.int .i64 0, .int .i64 2]) ∧ Below w.heap.size w w' := by
  have c0 := fun (B cap : Nat) (W : World) => checkAll_two B cap a b c d W
  rw [h, if_neg (by decide)] at c0
  have C0 := Lib.hid c0
  clear c0 h
  go_enter Tryz.func38, Tryz.ntmps38
  go_wp2_with fail
  refine (C0.out _ _ _ ?_ ?_ ?_ ?_ ?_).mono ?_
  · simp
  · exact new_cell _ _ _ (by simp) rfl
  · exact new_cell _ _ _ (by simp) rfl
  · exact new_cell _ _ _ (by simp) rfl
  · exact new_cell _ _ _ (by simp) rfl
  rintro e w1 ⟨rfl, hb1⟩
  go_wp2
  go_ret2
  exact ⟨rfl, ((((Below.refl _ _).alloc (Nat.le_refl _) _).alloc (by go_size) _).alloc (by go_size) _).trans (hb1.mono (by go_size))⟩

end Go.Proofs.YtkoljddejjfbiaaGreatDoor
/- The reference's Power. -/
namespace Go.Proofs.YtkoljddejjfbiaaGreatDoor
open Go Go.RowKit Go.Shelf

theorem pow_small {z : Int} (hz : z.natAbs < 10 ^ 7) {m : Nat} (hm : m ≤ 130) : ∃ N : Nat, N ≤ 911 ∧ 0 < N ∧ (z ^ m).natAbs < 10 ^ N := by
  refine ⟨7 * m + 1, by omega, by omega, ?_⟩
  rw [Int.natAbs_pow]
  have h1 : z.natAbs ^ m ≤ (10 ^ 7) ^ m := Nat.pow_le_pow_left (Nat.le_of_lt hz) m
  rw [← Nat.pow_mul] at h1
  exact Nat.lt_of_le_of_lt h1 (Nat.pow_lt_pow_right (by decide) (Nat.lt_succ_self _))
theorem pow_size {z : Int} (hz : z.natAbs < 10 ^ 7) {m : Nat} (hm : m ≤ 130) : (tz (z ^ m)).size ≤ 912 := by
  obtain ⟨N, h1, h2, h3⟩ := pow_small hz hm
  have := len_tz h3 h2
  omega
theorem pow_cn {z : Int} (hz : z.natAbs < 10 ^ 7) {m : Nat} (hm : m ≤ 130) : Cn (tz (z ^ m)) := by
  obtain ⟨N, h1, h2, h3⟩ := pow_small hz hm
  exact cn_tz h3 h2 (by omega)
theorem two_pow_le {j : Nat} (h : j ≤ 6) : 2 ^ j ≤ 64 := Nat.pow_le_pow_right (n := 2) (by decide) h

set_option maxRecDepth 100000 in
set_option maxHeartbeats 2000000 in
theorem rpower_c (s : ByteArray) (hs : Cn s) (hz : (iv s).natAbs < 10 ^ 7) (n : Nat) (hn : n ≤ 60) (w : World) (G : Gi w) :
    Calls Tryz.prog 56 #[.string s, .int .i64 n] w fun e w' => e = .returned (.string (tz (iv s ^ n))) ∧ Below w.heap.size w w' := by
  obtain ⟨z, hzz⟩ : ∃ z, iv s = z := ⟨_, rfl⟩
  rw [hzz] at hz ⊢
  have hst : s = tz (z ^ 1) := by rw [Int.pow_succ, Int.pow_zero, Int.one_mul, ← hzz]; exact (tz_iv hs.canon).symm
  have MM := Lib.hid (fun (p q : Nat) (hp : p ≤ 130) (hq : q ≤ 130) W G => by
    have h := rmul_c (tz (z ^ p)) (tz (z ^ q)) (pow_cn hz hp) (pow_cn hz hq) (by have := pow_size hz hp; omega) (by have := pow_size hz hq; omega) W G
    rw [iv_tz, iv_tz, ← Int.pow_add] at h
    exact h)
  have H1 := Lib.hid (show (ByteArray.mk #[49]) = tz (z ^ 0) by rw [Int.pow_zero]; exact ext_bytes (show Lib.itoa 1 = [49] by rw [Im.itoa_nonneg (by decide)]; exact Im.dec_small (by decide)).symm)
  have HS := Lib.hid hst
  clear hs hz hzz hst
  obtain ⟨D, hD⟩ : ∃ D, w.heap.size = D := ⟨_, rfl⟩
  go_enter Tryz.func56, Tryz.ntmps56
  go_wp2_with fail
  go_loopw [0, 1, 5] (fun b c o wr => ∃ j : Nat, j ≤ 6 ∧ c = .int .i64 ((n / 2 ^ j : Nat) : Int) ∧ b = .string (tz (z ^ (2 ^ j))) ∧ o = .string (tz (z ^ (n % 2 ^ j))) ∧ Below D w wr) (fun _ c _ _ => (intOf c).toNat)
  case atStart => exact ⟨0, by decide, by rw [Nat.pow_zero, Nat.div_one], by rw [HS.out, Nat.pow_zero], by rw [Nat.pow_zero, Nat.mod_one, ← H1.out], Below.refl _ _⟩
  case round =>
    obtain ⟨j, hj, rfl, rfl, rfl, hw⟩ := hrel
    have hpj := two_pow_le hj
    have hp0 : 0 < 2 ^ j := Nat.pow_pos (by decide)
    have hmod := Nat.mod_lt n hp0
    have GW := G.below (hD ▸ hw)
    by_cases h0 : n / 2 ^ j = 0
    · have hlt : n < 2 ^ j := by
        rcases (Nat.div_eq_zero_iff).1 h0 with h | h
        · omega
        · exact h
      rw [h0, Nat.mod_eq_of_lt hlt]
      have hi : ¬ (0 : Int) < ((0 : Nat) : Int) := by decide
      clear hlt hmod hp0 hpj h0
      go_wp2
      go_ret
      exact ⟨rfl, by first | exact hw | (rw [hD]; exact hw)⟩
    · have hj6 : j < 6 := by
        rcases Nat.lt_or_ge j 6 with h | h
        · exact h
        · exfalso
          obtain rfl : j = 6 := by omega
          apply h0
          exact Nat.div_eq_of_lt (by omega)
      have hsplit : n % 2 ^ (j + 1) = n % 2 ^ j + 2 ^ j * (n / 2 ^ j % 2) := Nat.mod_pow_succ
      have hdiv : n / 2 ^ (j + 1) = n / 2 ^ j / 2 := by rw [Nat.pow_succ, Nat.div_div_eq_div_mul]
      have hdbl : 2 ^ (j + 1) = 2 ^ j + 2 ^ j := by rw [Nat.pow_succ]; omega
      have M2 := Lib.hid (MM.out (2 ^ j) (2 ^ j) (by omega) (by omega))
      have M1 := Lib.hid (MM.out (n % 2 ^ j) (2 ^ j) (by omega) (by omega))
      have hqle : n / 2 ^ j ≤ 60 := Nat.le_trans (Nat.div_le_self _ _) hn
      obtain ⟨q, hq⟩ : ∃ q, n / 2 ^ j = q := ⟨_, rfl⟩
      rw [hq] at hsplit hdiv hqle h0 ⊢
      rw [← hdbl] at M2
      have HDIV := Lib.hid hdiv
      have hi : (0 : Int) < (q : Int) := by omega
      have hq2 : (q : Int).tdiv 2 = ((q / 2 : Nat) : Int) := by rw [Int.tdiv_eq_ediv_of_nonneg (by omega)]; omega
      obtain ⟨q2, hqq⟩ : ∃ q2, q / 2 = q2 := ⟨_, rfl⟩
      rw [hqq] at hq2 HDIV
      have hq2l : q2 ≤ 60 := by omega
      have hq2s : q2 < q := by omega
      by_cases ho : q % 2 = 1
      · have hr : (q : Int).tmod 2 = 1 := by rw [Int.tmod_eq_emod_of_nonneg (by omega)]; omega
        rw [ho, Nat.mul_one] at hsplit
        have HSP := Lib.hid hsplit
        rw [← hsplit] at M1
        generalize tz (z ^ (n % 2 ^ j)) = O1 at *
        generalize tz (z ^ 2 ^ j) = B1 at *
        clear hsplit hdiv hdbl hq hmod hp0 hpj ho hqq
        go_wp2_with fail
        refine (M1.out _ GW).mono ?_
        rintro e w3 ⟨rfl, b3⟩
        have hw3 := hw.trans (b3.mono (by have := hw.size; omega))
        go_wp2_with fail
        refine (M2.out _ (G.below (hD ▸ hw3))).mono ?_
        rintro e w4 ⟨rfl, b4⟩
        have hw4 := hw3.trans (b4.mono (by have := hw3.size; omega))
        go_wp2_with fail
        go_roundw
        case rel => exact ⟨j + 1, by omega, by rw [HDIV.out], rfl, rfl, hw4⟩
        case measure => simp [intOf]; omega
      · have hr : (q : Int).tmod 2 = 0 := by rw [Int.tmod_eq_emod_of_nonneg (by omega)]; omega
        have HSP := Lib.hid (show n % 2 ^ (j + 1) = n % 2 ^ j by rw [hsplit, show q % 2 = 0 by omega, Nat.mul_zero]; rfl)
        generalize hO : tz (z ^ (n % 2 ^ j)) = O1 at *
        have HO := Lib.hid hO
        generalize tz (z ^ 2 ^ j) = B1 at *
        clear hsplit hdiv hdbl hq hmod hp0 hpj ho hqq hO
        go_wp2_with fail
        refine (M2.out _ GW).mono ?_
        rintro e w4 ⟨rfl, b4⟩
        have hw4 := hw.trans (b4.mono (by have := hw.size; omega))
        go_wp2_with fail
        go_roundw
        case rel => exact ⟨j + 1, by omega, by rw [HDIV.out], rfl, by rw [HSP.out, HO.out], hw4⟩
        case measure => simp [intOf]; omega

end Go.Proofs.YtkoljddejjfbiaaGreatDoor
/- Contracts of pitch's Check, checkBoth, ratioOf, ratioOnUnison, raised, less. -/
namespace Go.Proofs.YtkoljddejjfbiaaGreatDoor
open Go Go.RowKit Go.Shelf

/-- Check's answer over feet. -/
def pk (n d : Int) : Int := if FracMath.rightB n d = false then 2 else if n ≤ 0 ∨ 128 * d < n then 3 else if 128 < d then 4 else 0
theorem pk_ok {n d : Int} (h : pk n d = 0) : FracMath.rightB n d = true ∧ 0 < n ∧ n ≤ 128 * d ∧ 1 ≤ d ∧ d ≤ 128 ∧ FracMath.gg n d = 1 := by
  unfold pk at h
  split at h
  · cases h
  · split at h
    · cases h
    · split at h
      · cases h
      · have hr : FracMath.rightB n d = true := by cases e : FracMath.rightB n d <;> simp_all
        obtain ⟨k1, k2, k3, k4, k5⟩ := FracMath.right_of hr
        exact ⟨hr, by omega, by omega, by omega, by omega, k5⟩
theorem pk_cases (n d : Int) : pk n d = 2 ∨ pk n d = 3 ∨ pk n d = 4 ∨ pk n d = 0 := by
  unfold pk
  split
  · exact .inl rfl
  · split
    · exact .inr (.inl rfl)
    · split
      · exact .inr (.inr (.inl rfl))
      · exact .inr (.inr (.inr rfl))
theorem fchk_yes {n d : Int} (h : FracMath.rightB n d = true) : chk n d = 0 := by unfold chk; rw [h, if_pos rfl]
theorem fchk_no {n d : Int} (h : FracMath.rightB n d = false) : chk n d = 2 := by unfold chk; rw [h, if_neg (by decide)]

set_option maxHeartbeats 1000000 in
theorem pcheck_any (n d : Int) (w : World) :
    Calls Tryz.prog 13 #[.agg #[.int .i64 n, .int .i64 d]] w fun e w' => e = .returned (.int .i64 (pk n d)) ∧ Below w.heap.size w w' := by
  have C := Lib.hid (fun W => fcheck_any n d W)
  obtain ⟨D, hD⟩ : ∃ D, w.heap.size = D := ⟨_, rfl⟩
  unfold pk
  cases hr : FracMath.rightB n d with
  | false =>
    rw [fchk_no hr] at C
    rw [if_pos rfl]
    clear hr
    go_enter Tryz.func13, Tryz.ntmps13
    go_wp2_with fail
    refine (C.out _).mono ?_
    rintro e w1 ⟨rfl, hb1⟩
    have hw1 : Below w.heap.size w w1 := ((Below.refl _ w).alloc (Nat.le_refl _) _).trans (hb1.mono (by simp))
    go_wp2
    go_ret
    exact ⟨rfl, hw1⟩
  | true =>
    rw [fchk_yes hr] at C
    rw [if_neg (by decide)]
    obtain ⟨k1, k2, k3, k4, _⟩ := FracMath.right_of hr
    obtain ⟨x, hx⟩ : ∃ x : Int, (if n ≤ 0 ∨ 128 * d < n then 3 else if 128 < d then 4 else 0) = x := ⟨_, rfl⟩
    rw [hx]
    have HX := Lib.hid hx
    clear hr hx
    go_enter Tryz.func13, Tryz.ntmps13
    go_wp2_with fail
    refine (C.out _).mono ?_
    rintro e w1 ⟨rfl, hb1⟩
    have hp : w1.heap[D]? = some (.cells #[.int .i64 n, .int .i64 d] 23) := (hb1.block D (by simp [hD])).trans (heap_new hD.symm)
    have hw1 : Below w.heap.size w w1 := ((Below.refl _ w).alloc (Nat.le_refl _) _).trans (hb1.mono (by simp))
    have c0 := cell2_0 hp
    have c1 := cell2_1 hp
    have wm := wrap_in (q := 128 * d) (by omega) (by omega)
    clear hp C hb1
    by_cases h1 : n ≤ 0
    · obtain rfl : x = 3 := by rw [← HX.out, if_pos (.inl h1)]
      go_wp2
      go_ret
      exact ⟨rfl, hw1⟩
    by_cases h2 : 128 * d < n
    · obtain rfl : x = 3 := by rw [← HX.out, if_pos (.inr h2)]
      go_wp2
      go_ret
      exact ⟨rfl, hw1⟩
    by_cases h3 : 128 < d
    · obtain rfl : x = 4 := by rw [← HX.out, if_neg (by omega), if_pos h3]
      go_wp2
      go_ret
      exact ⟨rfl, hw1⟩
    · obtain rfl : x = 0 := by rw [← HX.out, if_neg (by omega), if_neg h3]
      go_wp2
      go_ret
      exact ⟨rfl, hw1⟩

/-- checkBoth's answer. -/
def pk2 (a b c d : Int) : Int := if pk a b = 0 then pk c d else pk a b
set_option maxHeartbeats 1000000 in
theorem pcheckBoth_any (a b c d : Int) (w : World) :
    Calls Tryz.prog 33 #[.agg #[.int .i64 a, .int .i64 b], .agg #[.int .i64 c, .int .i64 d]] w fun e w' => e = .returned (.int .i64 (pk2 a b c d)) ∧ Below w.heap.size w w' := by
  have C1 := Lib.hid (fun W => pcheck_any a b W)
  have C2 := Lib.hid (fun W => pcheck_any c d W)
  obtain ⟨D, hD⟩ : ∃ D, w.heap.size = D := ⟨_, rfl⟩
  unfold pk2
  obtain ⟨x, hx⟩ : ∃ x, pk a b = x := ⟨_, rfl⟩
  obtain ⟨y, hy⟩ : ∃ y, pk c d = y := ⟨_, rfl⟩
  rw [hx] at C1 ⊢
  rw [hy] at C2 ⊢
  obtain ⟨z, hz⟩ : ∃ z : Int, (if x = 0 then y else x) = z := ⟨_, rfl⟩
  rw [hz]
  have HZ := Lib.hid hz
  clear hx hy hz
  go_enter Tryz.func33, Tryz.ntmps33
  go_wp2_with fail
  refine (C1.out _).mono ?_
  rintro e w1 ⟨rfl, hb1⟩
  have hp : w1.heap[D + 1]? = some (.cells #[.int .i64 c, .int .i64 d] 23) := (hb1.block (D + 1) (by simp [hD])).trans (heap_new (by simp [hD]))
  have hw1 : Below w.heap.size w w1 := (((Below.refl _ w).alloc (Nat.le_refl _) _).alloc (by simp) _).trans (hb1.mono (by simp; omega))
  have c0 := cell2_0 hp
  have c1 := cell2_1 hp
  have hs := hw1.size
  clear hp C1 hb1
  by_cases h : x = 0
  · subst h
    obtain rfl : z = y := by rw [← HZ.out, if_pos rfl]
    go_wp2_with fail
    refine (C2.out _).mono ?_
    rintro e w2 ⟨rfl, hb2⟩
    go_wp2
    go_ret
    exact ⟨rfl, hw1.trans (hb2.mono hs)⟩
  · obtain rfl : z = x := by rw [← HZ.out, if_neg h]
    go_wp2
    go_ret
    exact ⟨rfl, hw1⟩

set_option maxHeartbeats 1000000 in
theorem ratioOf_any (a b c d : Int) (w : World) (h1 : -9223372036854775808 ≤ c * b) (h2 : c * b ≤ 9223372036854775807) (h3 : -9223372036854775808 ≤ d * a) (h4 : d * a ≤ 9223372036854775807) :
    Calls Tryz.prog 34 #[.agg #[.int .i64 a, .int .i64 b], .agg #[.int .i64 c, .int .i64 d]] w fun e w' => e = .returned (.agg #[.int .i64 (c * b), .int .i64 (d * a)]) ∧ Below w.heap.size w w' := by
  have w1 := wrap_in h1 h2
  have w2 := wrap_in h3 h4
  obtain ⟨x, hx⟩ : ∃ x, c * b = x := ⟨_, rfl⟩
  obtain ⟨y, hy⟩ : ∃ y, d * a = y := ⟨_, rfl⟩
  have HX := Lib.hid hx
  have HY := Lib.hid hy
  rw [hx] at w1 ⊢
  rw [hy] at w2 ⊢
  obtain ⟨D, hD⟩ : ∃ D, w.heap.size = D := ⟨_, rfl⟩
  go_enter Tryz.func34, Tryz.ntmps34
  go_wp2
  have hE : (((w.alloc (.cells #[.int .i64 a, .int .i64 b] 23)).alloc (.cells #[.int .i64 c, .int .i64 d] 23)).alloc (.cells #[.int .i64 x, .int .i64 y] 54)).heap[D + 1 + 1]? = some (.cells #[.int .i64 x, .int .i64 y] 54) := heap_new (by simp [hD])
  have z0 := cell2_0 hE
  have z1 := cell2_1 hE
  exact bodyPost_ret (v := .agg #[.int .i64 x, .int .i64 y]) (by simp [results, Tryz.results34, go_sem, z0, z1]) rfl ⟨rfl, (((Below.refl _ w).alloc (Nat.le_refl _) _).alloc (by simp) _).alloc (by simp; omega) _⟩

set_option maxHeartbeats 1000000 in
theorem ratioOn_any (a b : Int) (w : World) (h1 : -9223372036854775808 ≤ 8 * b) (h2 : 8 * b ≤ 9223372036854775807) (h3 : -9223372036854775808 ≤ a) (h4 : a ≤ 9223372036854775807) :
    Calls Tryz.prog 40 #[.agg #[.int .i64 a, .int .i64 b]] w fun e w' => e = .returned (.agg #[.int .i64 (8 * b), .int .i64 a]) ∧ Below w.heap.size w w' := by
  have C := Lib.hid (fun W => ratioOf_any a b 8 1 W h1 h2 (by omega) (by omega))
  rw [Int.one_mul] at C
  obtain ⟨x, hx⟩ : ∃ x, 8 * b = x := ⟨_, rfl⟩
  rw [hx] at C ⊢
  clear h1 h2 h3 h4 hx
  obtain ⟨D, hD⟩ : ∃ D, w.heap.size = D := ⟨_, rfl⟩
  go_enter Tryz.func40, Tryz.ntmps40
  go_wp2_with fail
  refine (C.out _).mono ?_
  rintro e w1 ⟨rfl, hb1⟩
  have hp : w1.heap[D + 1]? = some (.cells #[.int .i64 0, .int .i64 0] 54) := (hb1.block (D + 1) (by simp [hD])).trans (heap_new (by simp [hD]))
  have hw1 : Below w.heap.size w w1 := (((Below.refl _ w).alloc (Nat.le_refl _) _).alloc (by simp) _).trans (hb1.mono (by simp; omega))
  have f0 := free2_0 hp
  have f1 := free2_1 hp
  have c0 := cell2_0 hp
  have c1 := cell2_1 hp
  have hE := set2_1 (x := .int .i64 a) (set2_0 (x := .int .i64 x) hp)
  have z0 := cell2_0 hE
  have z1 := cell2_1 hE
  have HW := Lib.hid ((hw1.setCell (p := ⟨D + 1, 0, none⟩) (by simp; omega) (.int .i64 x)).setCell (p := ⟨D + 1, 1, none⟩) (by simp; omega) (.int .i64 a))
  clear hE hp C hb1 hw1
  go_wp2
  exact bodyPost_ret (v := .agg #[.int .i64 x, .int .i64 a]) (by simp [results, Tryz.results40, go_sem, z0, z1]) rfl ⟨rfl, HW.out⟩
end Go.Proofs.YtkoljddejjfbiaaGreatDoor
/- Contracts of pitch's raised, less, and of sort.Search; the law's power. -/
namespace Go.Proofs.YtkoljddejjfbiaaGreatDoor
open Go Go.RowKit Go.Shelf

theorem pt_nat {b : Nat} (hb : b < 10 ^ 7) : ((b : Int)).natAbs < 10 ^ 7 := by rw [Int.natAbs_natCast]; exact hb
theorem pt_cn {b : Nat} (hb : b < 10 ^ 7) : Cn (tz (b : Int)) := cn_tz (pt_nat hb) (by decide) (by decide)
theorem pt_dgs {b : Nat} (hb : b < 10 ^ 7) : (Im.dgs (tz (b : Int)).data.toList).length ≤ 8 := by
  have h1 := len_tz (pt_nat hb) (by decide)
  have h2 := dgs_len (tz (b : Int)).data.toList
  rw [size_list] at h2
  omega
theorem raised_c (b e : Nat) (hb : b < 10 ^ 7) (he : e ≤ 60) (w : World) (G : Gi w) :
    Calls Tryz.prog 52 #[.int .i64 b, .int .i64 e] w fun x w' => x = .returned (.string (tz ((b : Int) ^ e))) ∧ Below w.heap.size w w' := by
  have O := Lib.hid (fun W G => of_any (b : Int) (by omega) (by omega) W G)
  change Hid (∀ W, Gi W → Calls Tryz.prog 72 #[.int .i64 b] W fun e w' => e = .returned (.string (tz (b : Int))) ∧ Below W.heap.size W w') at O
  have PW := Lib.hid (fun W (G : Gi W) => power_c (tz (b : Int)) (pt_cn hb) e (by omega) (by have := Nat.mul_le_mul he (pt_dgs hb); omega) W G)
  rw [iv_tz] at PW
  obtain ⟨r, hr⟩ : ∃ r, tz ((b : Int) ^ e) = r := ⟨_, rfl⟩
  rw [hr] at PW ⊢
  clear hr hb
  go_enter Tryz.func52, Tryz.ntmps52
  go_wp2_with fail
  refine (O.out _ G).mono ?_
  rintro x w1 ⟨rfl, hb1⟩
  go_wp2_with fail
  refine (PW.out _ (G.below hb1)).mono ?_
  rintro x w2 ⟨rfl, hb2⟩
  go_wp2
  go_ret
  exact ⟨rfl, hb1.trans (hb2.mono hb1.size)⟩
theorem lpower_c (b e : Nat) (hb : b < 10 ^ 7) (he : e ≤ 60) (w : World) (G : Gi w) :
    Calls Tryz.prog 41 #[.int .i64 b, .int .i64 e] w fun x w' => x = .returned (.string (tz ((b : Int) ^ e))) ∧ Below w.heap.size w w' := by
  have O := Lib.hid (fun W G => rof_any (b : Int) (by omega) (by omega) W G)
  have PW := Lib.hid (fun W (G : Gi W) => rpower_c (tz (b : Int)) (pt_cn hb) (by rw [iv_tz]; exact pt_nat hb) e he W G)
  rw [iv_tz] at PW
  obtain ⟨r, hr⟩ : ∃ r, tz ((b : Int) ^ e) = r := ⟨_, rfl⟩
  rw [hr] at PW ⊢
  clear hr hb
  go_enter Tryz.func41, Tryz.ntmps41
  go_wp2_with fail
  refine (O.out _ G).mono ?_
  rintro x w1 ⟨rfl, hb1⟩
  go_wp2_with fail
  refine (PW.out _ (G.below hb1)).mono ?_
  rintro x w2 ⟨rfl, hb2⟩
  go_wp2
  go_ret
  exact ⟨rfl, hb1.trans (hb2.mono hb1.size)⟩
theorem sgn_lt (a b : Int) : sgn (a - b) < 0 ↔ a < b := by
  unfold sgn
  split
  · omega
  · split <;> omega
theorem less_c (a b : Int) (ca : Cn (tz a)) (cb : Cn (tz b)) (w : World) (G : Gi w) :
    Calls Tryz.prog 53 #[.string (tz a), .string (tz b)] w fun x w' => x = .returned (.bool (decide (a < b))) ∧ Below w.heap.size w w' := by
  have C := Lib.hid (fun W G => cmp_c (tz a) (tz b) ca cb W G)
  rw [iv_tz, iv_tz] at C
  have hs := sgn_lt a b
  rw [show decide (a < b) = decide (sgn (a - b) < 0) by simp only [hs]]
  obtain ⟨s, hs2⟩ : ∃ s, tz a = s := ⟨_, rfl⟩
  obtain ⟨t, ht2⟩ : ∃ s, tz b = s := ⟨_, rfl⟩
  obtain ⟨g, hg⟩ : ∃ g, sgn (a - b) = g := ⟨_, rfl⟩
  rw [hs2, ht2, hg] at C
  rw [hs2, ht2, hg]
  clear hs2 ht2 hg hs ca cb
  go_enter Tryz.func53, Tryz.ntmps53
  go_wp2_with fail
  refine (C.out _ G).mono ?_
  rintro x w1 ⟨rfl, hb1⟩
  go_wp2
  go_ret
  exact ⟨rfl, hb1⟩

set_option maxHeartbeats 1000000 in
/-- The search over a closure that says p. -/
theorem search_c (g : Nat) (cb : Array Value) (p : Nat → Bool) (n0 : Nat) (h12 : n0 ≤ 12) (hl : ∀ m, m < n0 → p m = false) (hr : ∀ m, n0 ≤ m → m < 12 → p m = true) (w : World)
    (eg : ∀ args w, (callFunc g args).run Tryz.prog w = .ok (.enter g args) w)
    (HC : ∀ (i : Nat), i < 12 → ∀ W, Below w.heap.size w W → Calls Tryz.prog g (#[.int .i64 i] ++ cb) W fun x w' => x = .returned (.bool (p i)) ∧ Below W.heap.size W w') :
    Calls Tryz.prog 68 #[.int .i64 12, .func (.func g) #[] cb] w fun x w' => x = .returned (.int .i64 n0) ∧ Below w.heap.size w w' := by
  have HL := Lib.hid hl
  have HR := Lib.hid hr
  have HC := Lib.hid HC
  clear hl hr
  go_enter Tryz.func68, Tryz.ntmps68
  go_wp2_with fail
  go_loopw [5, 6] (fun i j wr => ∃ lo hi : Nat, i = .int .i64 lo ∧ j = .int .i64 hi ∧ lo ≤ n0 ∧ n0 ≤ hi ∧ hi ≤ 12 ∧ Below w.heap.size w wr) (fun i j _ => (intOf j - intOf i).toNat)
  case atStart => exact ⟨0, 12, rfl, rfl, Nat.zero_le _, h12, Nat.le_refl _, Below.refl _ _⟩
  case round =>
    obtain ⟨lo, hi, rfl, rfl, hlo, hhi, hh12, hw⟩ := hrel
    by_cases hlt : lo < hi
    · have hc := HC.out ((lo + hi) / 2) (by omega) _ hw
      rw [show (((lo + hi) / 2 : Nat) : Int) = ((lo : Int) + (hi : Int)) / 2 by omega] at hc
      cases hp : p ((lo + hi) / 2) <;> rw [hp] at hc
      · have hq : (lo + hi) / 2 < n0 := by
          rcases Nat.lt_or_ge ((lo + hi) / 2) n0 with h | h
          · exact h
          · have := HR.out _ h (by omega)
            rw [hp] at this; cases this
        clear hp
        go_wp2_with (go_at_fn g; refine hc.mono ?_; rintro e w' ⟨rfl, hb⟩)
        go_roundw
        case rel => exact ⟨(lo + hi) / 2 + 1, hi, by rw [show ((lo : Int) + (hi : Int)) / 2 + 1 = (((lo + hi) / 2 + 1 : Nat) : Int) by omega], rfl, by omega, hhi, hh12, hw.trans (hb.mono hw.size)⟩
        case measure => simp [intOf]; omega
      · have hq : n0 ≤ (lo + hi) / 2 := by
          rcases Nat.lt_or_ge ((lo + hi) / 2) n0 with h | h
          · have := HL.out _ h
            rw [hp] at this; cases this
          · exact h
        clear hp
        go_wp2_with (go_at_fn g; refine hc.mono ?_; rintro e w' ⟨rfl, hb⟩)
        go_roundw
        case rel => exact ⟨lo, (lo + hi) / 2, rfl, by rw [show ((lo : Int) + (hi : Int)) / 2 = (((lo + hi) / 2 : Nat) : Int) by omega], hlo, hq, by omega, hw.trans (hb.mono hw.size)⟩
        case measure => simp [intOf]; omega
    · obtain rfl : lo = n0 := by omega
      go_wp2
      go_ret
      exact ⟨rfl, hw⟩
end Go.Proofs.YtkoljddejjfbiaaGreatDoor
/- Contracts of pitch's semitones$1, semitones, octaves, shift. -/
namespace Go.Proofs.YtkoljddejjfbiaaGreatDoor
open Go Go.RowKit Go.Shelf

theorem pt_pow {b e : Nat} (hb : b < 10 ^ 7) (he : e ≤ 30) : ((b : Int) ^ e).natAbs < 10 ^ 211 := by
  rw [Int.natAbs_pow, Int.natAbs_natCast]
  have h1 : b ^ e ≤ (10 ^ 7) ^ e := Nat.pow_le_pow_left (Nat.le_of_lt hb) e
  rw [← Nat.pow_mul] at h1
  exact Nat.lt_of_le_of_lt h1 (Nat.pow_lt_pow_right (by decide) (by omega))
theorem pt_pcn {b e : Nat} (hb : b < 10 ^ 7) (he : e ≤ 30) : Cn (tz ((b : Int) ^ e)) := cn_tz (pt_pow hb he) (by decide) (by decide)
theorem pt_mcn {b e f : Nat} (hb : b < 10 ^ 7) (he : e ≤ 30) (hf : f ≤ 30) : Cn (tz ((b : Int) ^ e * 2 ^ f)) := by
  have h1 := pt_pow hb he
  have h2 := pt_pow (b := 2) (e := f) (by decide) hf
  obtain ⟨k, hk⟩ : ∃ k, k = 211 := ⟨_, rfl⟩
  rw [← hk] at h1 h2
  refine cn_tz (k := k + k) ?_ (by omega) (by omega)
  rw [Int.natAbs_mul, Nat.pow_add]
  exact Nat.mul_lt_mul'' h1 h2
theorem pS_int (a b i : Nat) : decide ((a : Int) ^ 24 < (b : Int) ^ 24 * 2 ^ (2 * i + 1)) = Pt.pS a b i := by
  unfold Pt.pS
  have : ((a : Int) ^ 24 < (b : Int) ^ 24 * 2 ^ (2 * i + 1)) ↔ a ^ 24 < b ^ 24 * 2 ^ (2 * i + 1) := by
    rw [show (a : Int) ^ 24 = ((a ^ 24 : Nat) : Int) by simp, show (b : Int) ^ 24 * 2 ^ (2 * i + 1) = ((b ^ 24 * 2 ^ (2 * i + 1) : Nat) : Int) by simp]
    exact Int.ofNat_lt
  simp only [this]

/-- What lies in the closure's boxes. -/
structure StR (w : World) (bf bn bd : Nat) (x y : ByteArray) (A : World) : Prop where
  bel : Below w.heap.size w A
  lf : bf < w.heap.size ∧ bn < w.heap.size ∧ bd < w.heap.size
  cf : A.cell? ⟨bf, 0, none⟩ = some (.func (.func 53) #[] #[])
  cn : A.cell? ⟨bn, 0, none⟩ = some (.string x)
  cd : A.cell? ⟨bd, 0, none⟩ = some (.string y)
theorem StR.up {w : World} {bf bn bd : Nat} {x y : ByteArray} {A B : World} (h : StR w bf bn bd x y A) (hb : Below A.heap.size A B) : StR w bf bn bd x y B := by
  have hz := h.bel.size
  have hl := h.lf
  exact ⟨h.bel.trans (hb.mono hz), hl, (hb.cell (p := ⟨bf, 0, none⟩) (by simp; omega)).trans h.cf, (hb.cell (p := ⟨bn, 0, none⟩) (by simp; omega)).trans h.cn, (hb.cell (p := ⟨bd, 0, none⟩) (by simp; omega)).trans h.cd⟩

def s1I (i : Nat) (x y r m : ByteArray) (qv : Bool) : Nat → Value → World → Prop
  | 0, v, _ => v = .func (.func 53) #[] #[]
  | 1, v, _ => v = .string x
  | 2, v, _ => v = .string y
  | 3, v, _ => v = .int .i64 (i : Int)
  | 4, v, _ => v = .int .i64 (2 * (i : Int))
  | 5, v, _ => v = .int .i64 (2 * (i : Int) + 1)
  | 6, v, _ => v = .string r
  | 7, v, _ => v = .string m
  | 8, v, _ => v = .bool qv
  | 9, v, _ => v = .bool qv
  | _, _, _ => True

theorem s1I_up (i : Nat) (x y r m : ByteArray) (qv : Bool) : ∀ (j : Nat) (v : Value) (A B : World), Below A.heap.size A B → s1I i x y r m qv j v A → s1I i x y r m qv j v B
  | 0, _, _, _, _, h => h
  | 1, _, _, _, _, h => h
  | 2, _, _, _, _, h => h
  | 3, _, _, _, _, h => h
  | 4, _, _, _, _, h => h
  | 5, _, _, _, _, h => h
  | 6, _, _, _, _, h => h
  | 7, _, _, _, _, h => h
  | 8, _, _, _, _, h => h
  | 9, _, _, _, _, h => h
  | _ + 10, _, _, _, _, _ => trivial


set_option maxRecDepth 100000 in
set_option maxHeartbeats 2000000 in
theorem semi1_c (a b i bf bn bd : Nat) (ha : a < 10 ^ 7) (hb : b < 10 ^ 7) (hi : i < 12) (w : World) (G : Gi w) (hr : StR w bf bn bd (tz ((a : Int) ^ 24)) (tz ((b : Int) ^ 24)) w) :
    Calls Tryz.prog 69 (#[.int .i64 i] ++ #[.pointer (some ⟨bf, 0, none⟩), .pointer (some ⟨bn, 0, none⟩), .pointer (some ⟨bd, 0, none⟩)]) w fun e w' => e = .returned (.bool (Pt.pS a b i)) ∧ Below w.heap.size w w' := by
  have RS := Lib.hid (fun W G => raised_c 2 (2 * i + 1) (by decide) (by omega) W G)
  have ML := Lib.hid (fun W G => mul_c (tz ((b : Int) ^ 24)) (tz ((2 : Int) ^ (2 * i + 1))) (pt_pcn hb (by decide)) (pt_pcn (b := 2) (by decide) (by omega)) W G)
  have LS := Lib.hid (fun W G => less_c ((a : Int) ^ 24) ((b : Int) ^ 24 * 2 ^ (2 * i + 1)) (pt_pcn ha (by decide)) (pt_mcn hb (by decide) (by omega)) W G)
  rw [iv_tz, iv_tz] at ML
  rw [pS_int] at LS
  rw [show (((2 : Nat) : Int)) = 2 from rfl, show ((2 * i + 1 : Nat) : Int) = 2 * (i : Int) + 1 by omega] at RS
  obtain ⟨qv, hv⟩ : ∃ qv, Pt.pS a b i = qv := ⟨_, rfl⟩
  rw [hv] at LS ⊢
  obtain ⟨m, hm⟩ : ∃ m, tz ((b : Int) ^ 24 * 2 ^ (2 * i + 1)) = m := ⟨_, rfl⟩
  rw [hm] at LS ML
  obtain ⟨r, hrr⟩ : ∃ r, tz ((2 : Int) ^ (2 * i + 1)) = r := ⟨_, rfl⟩
  rw [hrr] at RS ML
  obtain ⟨x, hx⟩ : ∃ r, tz ((a : Int) ^ 24) = r := ⟨_, rfl⟩
  rw [hx] at LS hr
  obtain ⟨y, hy⟩ : ∃ r, tz ((b : Int) ^ 24) = r := ⟨_, rfl⟩
  rw [hy] at ML hr
  clear hv hm hrr hx hy ha hb
  have HR := Lib.hid hr
  have GG := Lib.hid (fun (W : World) (h : StR w bf bn bd x y W) => G.below h.bel)
  clear hr
  go_enter Tryz.func69, Tryz.ntmps69
  go_wp2_with fail
  refine wp_region_slots_at rfl rfl (fun base ys => (((((((((base.set 6 (ys 0)).set 7 (ys 1)).set 8 (ys 2)).set 9 (ys 3)).set 10 (ys 4)).set 11 (ys 5)).set 12 (ys 6)).set 13 (ys 7)).set 14 (ys 8)).set 5 (ys 9)) (BelowI _ (StR w bf bn bd x y) (s1I i x y r m qv)) (fun | 9 => .bool false | _ => undef) (by kernel_rfl) (below_start (HR.out.up ⟨rfl, rfl, rfl, Nat.le_refl _, fun _ _ => rfl⟩)) ?h
  case h =>
    intro FF hFF
    simp only [List.set_cons_succ, List.set_cons_zero] at hFF
    subst hFF
    refine ⟨rfl, ?_, ?_⟩
    refine ⟨?_, ?_⟩
    · refine SlotStep.below (fun A B hb h => h.up hb) (s1I_up i x y r m qv) ?_
      intro ys W hR hd K hK
      have c0 := hR.cf
      go_simp
      have hK2 := hK (.func (.func 53) #[] #[]) _ (Below.refl _ _) rfl
      simp (config := { decide := true }) only [upd, if_true, if_false] at hK2
      exact hK2
    refine ⟨?_, ?_⟩
    · refine SlotStep.below (fun A B hb h => h.up hb) (s1I_up i x y r m qv) ?_
      intro ys W hR hd K hK
      have c0 := hR.cn
      go_simp
      have hK2 := hK (.string x) _ (Below.refl _ _) rfl
      simp (config := { decide := true }) only [upd, if_true, if_false] at hK2
      exact hK2
    refine ⟨?_, ?_⟩
    · refine SlotStep.below (fun A B hb h => h.up hb) (s1I_up i x y r m qv) ?_
      intro ys W hR hd K hK
      have c0 := hR.cd
      go_simp
      have hK2 := hK (.string y) _ (Below.refl _ _) rfl
      simp (config := { decide := true }) only [upd, if_true, if_false] at hK2
      exact hK2
    refine ⟨?_, ?_⟩
    · refine SlotStep.below (fun A B hb h => h.up hb) (s1I_up i x y r m qv) ?_
      intro ys W hR hd K hK
      go_simp
      have hK2 := hK (.int .i64 (i : Int)) _ (Below.refl _ _) rfl
      simp (config := { decide := true }) only [upd, if_true, if_false] at hK2
      exact hK2
    refine ⟨?_, ?_⟩
    · refine SlotStep.below (fun A B hb h => h.up hb) (s1I_up i x y r m qv) ?_
      intro ys W hR hd K hK
      have dd3 : ys 3 = (.int .i64 (i : Int)) := hd 3 (by kernel_rfl) (by decide)
      have wq := wrap_in (q := 2 * (i : Int)) (by omega) (by omega)
      go_simp
      have hK2 := hK (.int .i64 (2 * (i : Int))) _ (Below.refl _ _) rfl
      simp (config := { decide := true }) only [upd, if_true, if_false, dd3] at hK2
      exact hK2
    refine ⟨?_, ?_⟩
    · refine SlotStep.below (fun A B hb h => h.up hb) (s1I_up i x y r m qv) ?_
      intro ys W hR hd K hK
      have dd4 : ys 4 = (.int .i64 (2 * (i : Int))) := hd 4 (by kernel_rfl) (by decide)
      have wq := wrap_in (q := 2 * (i : Int) + 1) (by omega) (by omega)
      go_simp
      have hK2 := hK (.int .i64 (2 * (i : Int) + 1)) _ (Below.refl _ _) rfl
      simp (config := { decide := true }) only [upd, if_true, if_false, dd4] at hK2
      exact hK2
    refine ⟨?_, ?_⟩
    · refine SlotStep.below (fun A B hb h => h.up hb) (s1I_up i x y r m qv) ?_
      intro ys W hR hd K hK
      have dd5 : ys 5 = (.int .i64 (2 * (i : Int) + 1)) := hd 5 (by kernel_rfl) (by decide)
      go_simp
      refine (RS.out _ (GG.out W hR)).mono ?_
      rintro e w5 ⟨rfl, hb5⟩
      have hK2 := hK (.string r) _ hb5 rfl
      simp (config := { decide := true }) only [upd, if_true, if_false, dd5] at hK2
      exact hK2
    refine ⟨?_, ?_⟩
    · refine SlotStep.below (fun A B hb h => h.up hb) (s1I_up i x y r m qv) ?_
      intro ys W hR hd K hK
      have dd2 : ys 2 = (.string y) := hd 2 (by kernel_rfl) (by decide)
      have dd6 : ys 6 = (.string r) := hd 6 (by kernel_rfl) (by decide)
      go_simp
      refine (ML.out _ (GG.out W hR)).mono ?_
      rintro e w5 ⟨rfl, hb5⟩
      have hK2 := hK (.string m) _ hb5 rfl
      simp (config := { decide := true }) only [upd, if_true, if_false, dd2, dd6] at hK2
      exact hK2
    refine ⟨?_, ?_⟩
    · refine SlotStep.below (fun A B hb h => h.up hb) (s1I_up i x y r m qv) ?_
      intro ys W hR hd K hK
      have dd0 : ys 0 = (.func (.func 53) #[] #[]) := hd 0 (by kernel_rfl) (by decide)
      have dd1 : ys 1 = (.string x) := hd 1 (by kernel_rfl) (by decide)
      have dd7 : ys 7 = (.string m) := hd 7 (by kernel_rfl) (by decide)
      go_simp
      refine (LS.out _ (GG.out W hR)).mono ?_
      rintro e w5 ⟨rfl, hb5⟩
      have hK2 := hK (.bool qv) _ hb5 rfl
      simp (config := { decide := true }) only [upd, if_true, if_false, dd0, dd1, dd7] at hK2
      exact hK2
    refine ⟨?_, ?_⟩
    · refine SlotStep.below (fun A B hb h => h.up hb) (s1I_up i x y r m qv) ?_
      intro ys W hR hd K hK
      have dd8 : ys 8 = (.bool qv) := hd 8 (by kernel_rfl) (by decide)
      go_simp
      have hK2 := hK (.bool qv) _ (Below.refl _ _) rfl
      simp (config := { decide := true }) only [upd, if_true, if_false, dd8] at hK2
      exact hK2
    trivial
    · intro L5 ys5 W5 hL5 hI5
      obtain ⟨hR5, hj5⟩ := hI5
      have d9 : ys5 9 = .bool qv := hj5 9 (by decide) (hL5 9 (by decide))
      simp only [d9]
      have hw5 := hR5.bel
      clear hR5 hj5 hL5
      go_wp2
      go_ret
      exact ⟨rfl, hw5⟩

set_option maxHeartbeats 1000000 in
theorem semi_c (a b n : Nat) (ha : a < 10 ^ 7) (hb : b < 10 ^ 7) (hs : Pt.St a b n) (w : World) (G : Gi w) :
    Calls Tryz.prog 51 #[.string (tz ((a : Int) ^ 24)), .string (tz ((b : Int) ^ 24)), .func (.func 53) #[] #[]] w fun e w' => e = .returned (.int .i64 n) ∧ Below w.heap.size w w' := by
  obtain ⟨D, hD⟩ : ∃ D, w.heap.size = D := ⟨_, rfl⟩
  have SC := Lib.hid (fun (bf bn bd : Nat) (W : World) (GW : Gi W) (hr : StR W bf bn bd (tz ((a : Int) ^ 24)) (tz ((b : Int) ^ 24)) W) =>
    search_c 69 #[.pointer (some ⟨bf, 0, none⟩), .pointer (some ⟨bn, 0, none⟩), .pointer (some ⟨bd, 0, none⟩)] (Pt.pS a b) n hs.1 hs.2.1 hs.2.2 W
      (enters_of Tryz.func69 (by kernel_rfl) rfl)
      (fun i hi V hV => semi1_c a b i bf bn bd ha hb hi V (GW.below hV) (by
        have h1 := hr.up hV
        have hz := hV.size
        exact ⟨Below.refl _ _, ⟨by have := hr.lf; omega, by have := hr.lf; omega, by have := hr.lf; omega⟩, h1.cf, h1.cn, h1.cd⟩)))
  obtain ⟨x, hx⟩ : ∃ r, tz ((a : Int) ^ 24) = r := ⟨_, rfl⟩
  obtain ⟨y, hy⟩ : ∃ r, tz ((b : Int) ^ 24) = r := ⟨_, rfl⟩
  rw [hx, hy] at SC ⊢
  clear hx hy hs ha hb
  obtain ⟨W0, hW0⟩ : ∃ W0, ((w.alloc (.cells #[.string x] 60)).alloc (.cells #[.string y] 60)).alloc (.cells #[.func (.func 53) #[] #[]] 75) = W0 := ⟨_, rfl⟩
  have hb0 : Below w.heap.size w W0 := by rw [← hW0]; exact (((Below.refl _ w).alloc (Nat.le_refl _) _).alloc (by simp) _).alloc (by simp; omega) _
  have hz0 : W0.heap.size = D + 3 := by rw [← hW0]; simp [hD]
  have c0 : W0.cell? ⟨D, 0, none⟩ = some (.string x) := by
    have : W0.heap[D]? = some (.cells #[.string x] 60) := by rw [← hW0]; exact heap_old (heap_old (heap_new hD.symm))
    simp [World.cell?, this]
  have c1 : W0.cell? ⟨D + 1, 0, none⟩ = some (.string y) := by
    have : W0.heap[D + 1]? = some (.cells #[.string y] 60) := by rw [← hW0]; exact heap_old (heap_new (by simp [hD]))
    simp [World.cell?, this]
  have c2 : W0.cell? ⟨D + 1 + 1, 0, none⟩ = some (.func (.func 53) #[] #[]) := by
    have : W0.heap[D + 1 + 1]? = some (.cells #[.func (.func 53) #[] #[]] 75) := by rw [← hW0]; exact heap_new (by simp [hD])
    simp [World.cell?, this]
  have S2 := Lib.hid (SC.out (D + 1 + 1) D (D + 1) W0 (G.below hb0) ⟨Below.refl _ _, ⟨by omega, by omega, by omega⟩, c2, c0, c1⟩)
  have HB := Lib.hid hb0
  clear SC c0 c1 c2 hz0 hb0
  go_enter Tryz.func51, Tryz.ntmps51
  go_wp2_with fail
  try rw [hW0]
  refine S2.out.mono ?_
  rintro e w1 ⟨rfl, hb1⟩
  have hw1 := HB.out.trans (hb1.mono HB.out.size)
  go_wp2
  go_ret
  exact ⟨rfl, hw1⟩

end Go.Proofs.YtkoljddejjfbiaaGreatDoor
/- Contracts of pitch's octaves and shift. -/
namespace Go.Proofs.YtkoljddejjfbiaaGreatDoor
open Go Go.RowKit Go.Shelf

set_option maxRecDepth 100000 in
set_option maxHeartbeats 4000000 in
theorem octaves_c (n d i j : Nat) (hn : 0 < n) (hd : 0 < d) (hn2 : n ≤ 2097152) (hd2 : d ≤ 2097152) (ho : Pt.Oct n d i j) (w : World) :
    Calls Tryz.prog 36 #[.agg #[.int .i64 n, .int .i64 d]] w fun e w' => e = .returned (.tuple #[.int .i64 ((j : Int) - i), .agg #[.int .i64 ((n * 2 ^ i : Nat) : Int), .int .i64 ((d * 2 ^ j : Nat) : Int)]]) ∧ Below w.heap.size w w' := by
  obtain ⟨bi, bj⟩ := Pt.oct_le ho hn hd hn2 hd2
  obtain ⟨ba, bb⟩ := Pt.oct_bd ho hn2 hd2
  have NL := Lib.hid (fun t (h : t < i) => Pt.oct_num_lt ho h)
  have DL := Lib.hid (fun t (h : t < j) => Pt.oct_den_le ho h)
  have NX := Lib.hid (Nat.le_trans (Pt.le_pow d j) ho.2.1)
  have DX := Lib.hid ho.2.2
  have OZ := Lib.hid ho.1
  have NI := Lib.hid (Nat.pow_zero 2)
  obtain ⟨A, hA⟩ : ∃ f : Nat → Nat, ∀ t, n * 2 ^ t = f t := ⟨_, fun _ => rfl⟩
  obtain ⟨B, hB⟩ : ∃ f : Nat → Nat, ∀ t, d * 2 ^ t = f t := ⟨_, fun _ => rfl⟩
  have A0 := Lib.hid (show A 0 = n by rw [← hA, Nat.pow_zero, Nat.mul_one])
  have B0 := Lib.hid (show B 0 = d by rw [← hB, Nat.pow_zero, Nat.mul_one])
  have AS := Lib.hid (fun t => show A (t + 1) = A t * 2 by rw [← hA, ← hA, Nat.pow_succ, Nat.mul_assoc])
  have BS := Lib.hid (fun t => show B (t + 1) = B t * 2 by rw [← hB, ← hB, Nat.pow_succ, Nat.mul_assoc])
  simp only [hA, hB] at NL DL NX DX ba bb ⊢
  have DL2 := Lib.hid (fun t (h : t < j) => show 2 * B t ≤ A i by
    have h1 := DL.out t h
    have : i = 0 := by have := OZ.out; omega
    rw [this, A0.out]; exact h1)
  clear hA hB ho DL
  obtain ⟨D, hD⟩ : ∃ D, w.heap.size = D := ⟨_, rfl⟩
  obtain ⟨W0, hW0⟩ : ∃ W0, (w.alloc (.cells #[.int .i64 n, .int .i64 d] 54)).alloc (.cells #[.int .i64 0, .int .i64 0] 54) = W0 := ⟨_, rfl⟩
  have hb0 : Below D w W0 := by rw [← hW0]; exact ((Below.refl _ w).alloc (by omega) _).alloc (by simp; omega) _
  have p0 : W0.heap[D]? = some (.cells #[.int .i64 n, .int .i64 d] 54) := by rw [← hW0]; exact heap_old (heap_new hD.symm)
  have p1 : W0.heap[D + 1]? = some (.cells #[.int .i64 0, .int .i64 0] 54) := by rw [← hW0]; exact heap_new (by simp [hD])
  have c0 := cell2_0 p0
  have c1 := cell2_1 p0
  have k0 := cell2_0 p1
  have k1 := cell2_1 p1
  have g0 := free2_0 p1
  have g1 := free2_1 p1
  have hp := set2_1 (x := .int .i64 d) (set2_0 (x := .int .i64 n) p1)
  have hw1 : Below D w ((W0.setCell ⟨D + 1, 0, none⟩ (.int .i64 n)).setCell ⟨D + 1, 1, none⟩ (.int .i64 d)) := (hb0.setCell (by simp) _).setCell (by simp) _
  have HP := Lib.hid hp
  have HW := Lib.hid hw1
  clear p0 p1 hp hw1 hb0
  go_enter Tryz.func36, Tryz.ntmps36
  go_upto_region 1 with fail
  try rw [hW0]
  go_wp2_with fail
  go_loopw [2] (fun c wr => ∃ t : Nat, t ≤ i ∧ c = .int .i64 (-(t : Int)) ∧ Below D w wr ∧ wr.heap[D + 1]? = some (.cells #[.int .i64 (A t : Int), .int .i64 d] 54)) (fun c _ => (i + intOf c).toNat)
  case atStart => exact ⟨0, Nat.zero_le _, rfl, HW.out, by rw [A0.out]; exact HP.out⟩
  case round =>
    obtain ⟨t, ht, rfl, hw, hc⟩ := hrel
    clear HW HP c0 c1 g0 g1 k0 k1
    have r0 := cell2_0 hc
    have r1 := cell2_1 hc
    have f0 := free2_0 hc
    have f1 := free2_1 hc
    by_cases hlt : t < i
    · have h1 := NL.out t hlt
      have hnx := set2_0 (x := .int .i64 (A (t + 1) : Int)) hc
      have hbx := hw.setCell (p := ⟨D + 1, 0, none⟩) (by simp) (.int .i64 (A (t + 1) : Int))
      have wk := wrap_in (q := (A t : Int) * 2) (by omega) (by omega)
      have wj := wrap_in (q := -(t : Int) - 1) (by omega) (by omega)
      have e1 : ((A (t + 1) : Nat) : Int) = (A t : Int) * 2 := by rw [AS.out]; omega
      rw [e1] at hnx hbx
      have HN := Lib.hid hnx
      have HB := Lib.hid hbx
      have E1 := Lib.hid e1
      clear hnx hbx e1 hc hw
      have hlt2 : (A t : Int) < (d : Int) := by omega
      go_wp2_with fail
      go_roundw
      case rel => exact ⟨t + 1, hlt, by rw [show (-(t : Int) - 1) = -((t + 1 : Nat) : Int) by omega], HB.out, by rw [E1.out]; exact HN.out⟩
      case measure => simp [intOf]; omega
    · obtain rfl : t = i := by omega
      have h1 : ¬ (A t : Int) < (d : Int) := by have := NX.out; omega
      obtain ⟨wo, hwo⟩ : ∃ wo, wo = wr := ⟨_, rfl⟩
      subst hwo
      have HWo := Lib.hid hw
      have HCo := Lib.hid hc
      clear hw hc
      go_wp2_with fail
      go_loopw [2] (fun c wr => ∃ s : Nat, s ≤ j ∧ c = .int .i64 ((s : Int) - t) ∧ Below D w wr ∧ wr.heap[D + 1]? = some (.cells #[.int .i64 (A t : Int), .int .i64 (B s : Int)] 54)) (fun c _ => ((j : Int) - t - intOf c).toNat)
      case atStart => exact ⟨0, Nat.zero_le _, by rw [show ((0 : Nat) : Int) - t = -(t : Int) by omega], HWo.out, by rw [B0.out]; exact HCo.out⟩
      case round =>
        obtain ⟨s, hs, rfl, hw, hc⟩ := hrel
        clear HWo HCo r0 r1 f0 f1 h1 hlt
        have r0 := cell2_0 hc
        have r1 := cell2_1 hc
        have f0 := free2_0 hc
        have f1 := free2_1 hc
        by_cases hlt : s < j
        · have h1 := DL2.out s hlt
          have hnx := set2_1 (x := .int .i64 (B (s + 1) : Int)) hc
          have hbx := hw.setCell (p := ⟨D + 1, 1, none⟩) (by simp) (.int .i64 (B (s + 1) : Int))
          have wk := wrap_in (q := (B s : Int) * 2) (by omega) (by omega)
          have wk2 := wrap_in (q := 2 * (B s : Int)) (by omega) (by omega)
          have wj := wrap_in (q := (s : Int) - t + 1) (by omega) (by omega)
          have e1 : ((B (s + 1) : Nat) : Int) = (B s : Int) * 2 := by rw [BS.out]; omega
          rw [e1] at hnx hbx
          have HN := Lib.hid hnx
          have HB := Lib.hid hbx
          have E1 := Lib.hid e1
          clear hnx hbx e1 hc hw
          have hlt2 : 2 * (B s : Int) ≤ (A t : Int) := by omega
          go_wp2_with fail
          go_roundw
          case rel => exact ⟨s + 1, hlt, by rw [show (s : Int) - t + 1 = ((s + 1 : Nat) : Int) - t by omega], HB.out, by rw [E1.out]; exact HN.out⟩
          case measure => simp [intOf]; omega
        · obtain rfl : s = j := by omega
          have wk2 := wrap_in (q := 2 * (B s : Int)) (by omega) (by omega)
          have h1 : ¬ 2 * (B s : Int) ≤ (A t : Int) := by have := DX.out; omega
          have hE := set2_1 (x := .int .i64 (B s : Int)) (set2_0 (x := .int .i64 (A t : Int)) hc)
          have z0 := cell2_0 hE
          have z1 := cell2_1 hE
          have HBx := Lib.hid ((hw.setCell (p := ⟨D + 1, 0, none⟩) (by simp) (.int .i64 (A t : Int))).setCell (p := ⟨D + 1, 1, none⟩) (by simp) (.int .i64 (B s : Int)))
          have HBd := Lib.hid (show Below w.heap.size w (((wr.setCell ⟨D + 1, 0, none⟩ (.int .i64 (A t : Int))).setCell ⟨D + 1, 1, none⟩ (.int .i64 (B s : Int))).drew) by rw [hD]; exact HBx.out.trans ⟨rfl, rfl, rfl, Nat.le_refl _, fun _ _ => rfl⟩)
          clear hE hc hw
          go_wp2_with fail
          go_region
          all_goals go_wp2
          all_goals exact bodyPost_ret (v := .tuple #[.int .i64 ((s : Int) - t), .agg #[.int .i64 (A t : Int), .int .i64 (B s : Int)]]) (by simp [results, Tryz.results36, go_sem, z0, z1]) rfl ⟨rfl, HBd.out⟩


/-- The rest's cells, while shift calculates. -/
structure ShR (w : World) (E : Nat) (a b : Nat) (A : World) : Prop where
  bel : Below w.heap.size w A
  pl : A.heap[E]? = some (.cells #[.int .i64 a, .int .i64 b] 54)
theorem ShR.up {w : World} {E a b : Nat} {A B : World} (h : ShR w E a b A) (hb : Below A.heap.size A B) : ShR w E a b B :=
  ⟨h.bel.trans (hb.mono h.bel.size), (hb.block E (Array.getElem?_eq_some_iff.1 h.pl).1).trans h.pl⟩

def shI (E a b k : Nat) (W0 : Int) (x y : ByteArray) : Nat → Value → World → Prop
  | 0, v, _ => v = .int .i64 W0
  | 1, v, _ => v = .int .i64 (12 * W0)
  | 2, v, _ => v = .pointer (some ⟨E, 0, none⟩)
  | 3, v, _ => v = .int .i64 (a : Int)
  | 4, v, _ => v = .string x
  | 5, v, _ => v = .pointer (some ⟨E, 1, none⟩)
  | 6, v, _ => v = .int .i64 (b : Int)
  | 7, v, _ => v = .string y
  | 8, v, _ => v = .int .i64 (k : Int)
  | 9, v, _ => v = .int .i64 (12 * W0 + (k : Int))
  | 10, v, _ => v = .int .i64 (12 * W0 + (k : Int))
  | _, _, _ => True

theorem shI_up (E a b k : Nat) (W0 : Int) (x y : ByteArray) : ∀ (j : Nat) (v : Value) (A B : World), Below A.heap.size A B → shI E a b k W0 x y j v A → shI E a b k W0 x y j v B
  | 0, _, _, _, _, h => h
  | 1, _, _, _, _, h => h
  | 2, _, _, _, _, h => h
  | 3, _, _, _, _, h => h
  | 4, _, _, _, _, h => h
  | 5, _, _, _, _, h => h
  | 6, _, _, _, _, h => h
  | 7, _, _, _, _, h => h
  | 8, _, _, _, _, h => h
  | 9, _, _, _, _, h => h
  | 10, _, _, _, _, h => h
  | _ + 11, _, _, _, _, _ => trivial


set_option maxRecDepth 100000 in
set_option maxHeartbeats 4000000 in
theorem shift_c (n d : Nat) (s : Int) (hn : 0 < n) (hd : 0 < d) (hn2 : n ≤ 2097152) (hd2 : d ≤ 2097152) (hs : Pt.IsSh n d s) (w : World) (G : Gi w) :
    Calls Tryz.prog 35 #[.agg #[.int .i64 n, .int .i64 d]] w fun e w' => e = .returned (.int .i64 s) ∧ Below w.heap.size w w' := by
  obtain ⟨i, j, ho⟩ := Pt.oct_ex hn hd
  obtain ⟨bi, bj⟩ := Pt.oct_le ho hn hd hn2 hd2
  obtain ⟨ba, bb⟩ := Pt.oct_bd ho hn2 hd2
  obtain ⟨k, hk⟩ := Pt.st_ex (n * 2 ^ i) (d * 2 ^ j)
  have es := Pt.sh_is hs hd ho hk
  have hk12 := hk.1
  have OC := Lib.hid (fun W => octaves_c n d i j hn hd hn2 hd2 ho W)
  obtain ⟨a, ha⟩ : ∃ a, n * 2 ^ i = a := ⟨_, rfl⟩
  obtain ⟨b, hb⟩ : ∃ b, d * 2 ^ j = b := ⟨_, rfl⟩
  rw [ha, hb] at OC hk
  rw [ha] at ba
  rw [hb] at bb
  have a7 : a < 10 ^ 7 := by omega
  have b7 : b < 10 ^ 7 := by omega
  have RA := Lib.hid (fun W G => raised_c a 24 a7 (by decide) W G)
  have RB := Lib.hid (fun W G => raised_c b 24 b7 (by decide) W G)
  have SE := Lib.hid (fun W G => semi_c a b k a7 b7 hk W G)
  rw [show ((24 : Nat) : Int) = 24 from rfl] at RA RB
  obtain ⟨x, hx⟩ : ∃ x, tz ((a : Int) ^ 24) = x := ⟨_, rfl⟩
  obtain ⟨y, hy⟩ : ∃ y, tz ((b : Int) ^ 24) = y := ⟨_, rfl⟩
  rw [hx] at RA SE
  rw [hy] at RB SE
  obtain ⟨W0, hW0⟩ : ∃ z : Int, (j : Int) - i = z := ⟨_, rfl⟩
  rw [hW0] at OC es
  have bW : -21 ≤ W0 ∧ W0 ≤ 21 := by omega
  have ES := Lib.hid es
  clear hs hn hd hn2 hd2 ho hk es ha hb hx hy hW0 a7 b7 bi bj ba bb
  obtain ⟨D, hD⟩ : ∃ D, w.heap.size = D := ⟨_, rfl⟩
  go_enter Tryz.func35, Tryz.ntmps35
  go_wp2_with fail
  refine (OC.out _).mono ?_
  rintro e w1 ⟨rfl, hb1⟩
  have hw1 : Below w.heap.size w w1 := ((Below.refl _ w).alloc (Nat.le_refl _) _).trans (hb1.mono (by simp))
  obtain ⟨E, hE⟩ : ∃ E, w1.heap.size = E := ⟨_, rfl⟩
  obtain ⟨V, hV⟩ : ∃ V, w1.alloc (.cells #[.int .i64 a, .int .i64 b] 54) = V := ⟨_, rfl⟩
  have hR0 : ShR w E a b V := by rw [← hV]; exact ⟨hw1.alloc (by have := hw1.size; omega) _, heap_new hE.symm⟩
  have HR := Lib.hid hR0
  have GG := Lib.hid (fun (W : World) (h : ShR w E a b W) => G.below h.bel)
  clear hb1 hw1 hR0
  go_upto_region 2 with fail
  try rw [hV]
  refine wp_region_slots_at rfl rfl (fun base ys => ((((((((((base.set 10 (ys 0)).set 11 (ys 1)).set 12 (ys 2)).set 13 (ys 3)).set 14 (ys 4)).set 15 (ys 5)).set 16 (ys 6)).set 17 (ys 7)).set 18 (ys 8)).set 19 (ys 9)).set 2 (ys 10)) (BelowI _ (ShR w E a b) (shI E a b k W0 x y)) (fun | 10 => .int .i64 0 | _ => undef) (by kernel_rfl) (below_start (HR.out.up ⟨rfl, rfl, rfl, Nat.le_refl _, fun _ _ => rfl⟩)) ?h
  case h =>
    intro FF hFF
    simp only [List.set_cons_succ, List.set_cons_zero] at hFF
    subst hFF
    refine ⟨rfl, ?_, ?_⟩
    refine ⟨?_, ?_⟩
    · refine SlotStep.below (fun A B hb h => h.up hb) (shI_up E a b k W0 x y) ?_
      intro ys W hR hd K hK
      go_simp
      have hK2 := hK (.int .i64 W0) _ (Below.refl _ _) rfl
      simp (config := { decide := true }) only [upd, if_true, if_false] at hK2
      exact hK2
    refine ⟨?_, ?_⟩
    · refine SlotStep.below (fun A B hb h => h.up hb) (shI_up E a b k W0 x y) ?_
      intro ys W hR hd K hK
      have dd0 : ys 0 = (.int .i64 W0) := hd 0 (by kernel_rfl) (by decide)
      have wq := wrap_in (q := 12 * W0) (by omega) (by omega)
      go_simp
      have hK2 := hK (.int .i64 (12 * W0)) _ (Below.refl _ _) rfl
      simp (config := { decide := true }) only [upd, if_true, if_false, dd0] at hK2
      exact hK2
    refine ⟨?_, ?_⟩
    · refine SlotStep.below (fun A B hb h => h.up hb) (shI_up E a b k W0 x y) ?_
      intro ys W hR hd K hK
      go_simp
      have hK2 := hK (.pointer (some ⟨E, 0, none⟩)) _ (Below.refl _ _) rfl
      simp (config := { decide := true }) only [upd, if_true, if_false] at hK2
      exact hK2
    refine ⟨?_, ?_⟩
    · refine SlotStep.below (fun A B hb h => h.up hb) (shI_up E a b k W0 x y) ?_
      intro ys W hR hd K hK
      have dd2 : ys 2 = (.pointer (some ⟨E, 0, none⟩)) := hd 2 (by kernel_rfl) (by decide)
      have c0 := cell2_0 hR.pl
      go_simp
      have hK2 := hK (.int .i64 (a : Int)) _ (Below.refl _ _) rfl
      simp (config := { decide := true }) only [upd, if_true, if_false, dd2] at hK2
      exact hK2
    refine ⟨?_, ?_⟩
    · refine SlotStep.below (fun A B hb h => h.up hb) (shI_up E a b k W0 x y) ?_
      intro ys W hR hd K hK
      have dd3 : ys 3 = (.int .i64 (a : Int)) := hd 3 (by kernel_rfl) (by decide)
      go_simp
      refine (RA.out _ (GG.out W hR)).mono ?_
      rintro e w5 ⟨rfl, hb5⟩
      have hK2 := hK (.string x) _ hb5 rfl
      simp (config := { decide := true }) only [upd, if_true, if_false, dd3] at hK2
      exact hK2
    refine ⟨?_, ?_⟩
    · refine SlotStep.below (fun A B hb h => h.up hb) (shI_up E a b k W0 x y) ?_
      intro ys W hR hd K hK
      go_simp
      have hK2 := hK (.pointer (some ⟨E, 1, none⟩)) _ (Below.refl _ _) rfl
      simp (config := { decide := true }) only [upd, if_true, if_false] at hK2
      exact hK2
    refine ⟨?_, ?_⟩
    · refine SlotStep.below (fun A B hb h => h.up hb) (shI_up E a b k W0 x y) ?_
      intro ys W hR hd K hK
      have dd5 : ys 5 = (.pointer (some ⟨E, 1, none⟩)) := hd 5 (by kernel_rfl) (by decide)
      have c0 := cell2_1 hR.pl
      go_simp
      have hK2 := hK (.int .i64 (b : Int)) _ (Below.refl _ _) rfl
      simp (config := { decide := true }) only [upd, if_true, if_false, dd5] at hK2
      exact hK2
    refine ⟨?_, ?_⟩
    · refine SlotStep.below (fun A B hb h => h.up hb) (shI_up E a b k W0 x y) ?_
      intro ys W hR hd K hK
      have dd6 : ys 6 = (.int .i64 (b : Int)) := hd 6 (by kernel_rfl) (by decide)
      go_simp
      refine (RB.out _ (GG.out W hR)).mono ?_
      rintro e w5 ⟨rfl, hb5⟩
      have hK2 := hK (.string y) _ hb5 rfl
      simp (config := { decide := true }) only [upd, if_true, if_false, dd6] at hK2
      exact hK2
    refine ⟨?_, ?_⟩
    · refine SlotStep.below (fun A B hb h => h.up hb) (shI_up E a b k W0 x y) ?_
      intro ys W hR hd K hK
      have dd4 : ys 4 = (.string x) := hd 4 (by kernel_rfl) (by decide)
      have dd7 : ys 7 = (.string y) := hd 7 (by kernel_rfl) (by decide)
      go_simp
      refine (SE.out _ (GG.out W hR)).mono ?_
      rintro e w5 ⟨rfl, hb5⟩
      have hK2 := hK (.int .i64 (k : Int)) _ hb5 rfl
      simp (config := { decide := true }) only [upd, if_true, if_false, dd4, dd7] at hK2
      exact hK2
    refine ⟨?_, ?_⟩
    · refine SlotStep.below (fun A B hb h => h.up hb) (shI_up E a b k W0 x y) ?_
      intro ys W hR hd K hK
      have dd1 : ys 1 = (.int .i64 (12 * W0)) := hd 1 (by kernel_rfl) (by decide)
      have dd8 : ys 8 = (.int .i64 (k : Int)) := hd 8 (by kernel_rfl) (by decide)
      have wq := wrap_in (q := 12 * W0 + (k : Int)) (by omega) (by omega)
      go_simp
      have hK2 := hK (.int .i64 (12 * W0 + (k : Int))) _ (Below.refl _ _) rfl
      simp (config := { decide := true }) only [upd, if_true, if_false, dd1, dd8] at hK2
      exact hK2
    refine ⟨?_, ?_⟩
    · refine SlotStep.below (fun A B hb h => h.up hb) (shI_up E a b k W0 x y) ?_
      intro ys W hR hd K hK
      have dd9 : ys 9 = (.int .i64 (12 * W0 + (k : Int))) := hd 9 (by kernel_rfl) (by decide)
      go_simp
      have hK2 := hK (.int .i64 (12 * W0 + (k : Int))) _ (Below.refl _ _) rfl
      simp (config := { decide := true }) only [upd, if_true, if_false, dd9] at hK2
      exact hK2
    trivial
    · intro L5 ys5 W5 hL5 hI5
      obtain ⟨hR5, hj5⟩ := hI5
      have d9 : ys5 10 = .int .i64 (12 * W0 + (k : Int)) := hj5 10 (by decide) (hL5 10 (by decide))
      rw [← ES.out] at d9
      simp only [d9]
      have hw5 := hR5.bel
      clear hR5 hj5 hL5
      go_wp2
      go_ret
      exact ⟨rfl, hw5⟩
end Go.Proofs.YtkoljddejjfbiaaGreatDoor
/- Contracts of pitch's Shift, Exact, Compare, Sounding, Harmonic. -/
namespace Go.Proofs.YtkoljddejjfbiaaGreatDoor
open Go Go.RowKit Go.Shelf

theorem pr_bd {a b c d : Int} (h1 : pk a b = 0) (h2 : pk c d = 0) : 0 < c * b ∧ c * b ≤ 2097152 := by
  obtain ⟨_, k1, k2, k3, k4, _⟩ := pk_ok h1
  obtain ⟨_, l1, l2, l3, l4, _⟩ := pk_ok h2
  refine ⟨Int.mul_pos l1 (by omega), ?_⟩
  calc c * b ≤ 16384 * b := Int.mul_le_mul_of_nonneg_right (by omega) (by omega)
    _ ≤ 16384 * 128 := Int.mul_le_mul_of_nonneg_left k4 (by decide)
theorem ret_tb {v : Value} {a b : Bool} (h : a = b) : Ending.returned (.tuple #[.bool a, v]) = .returned (.tuple #[.bool b, v]) := by rw [h]
def ShI (x y s : Int) : Prop := Pt.IsSh x.toNat y.toNat s
theorem shift_i (x y s : Int) (h1 : 0 < x) (h2 : x ≤ 2097152) (h3 : 0 < y) (h4 : y ≤ 2097152) (hs : ShI x y s) (w : World) (G : Gi w) :
    Calls Tryz.prog 35 #[.agg #[.int .i64 x, .int .i64 y]] w fun e w' => e = .returned (.int .i64 s) ∧ Below w.heap.size w w' := by
  have h := shift_c x.toNat y.toNat s (by omega) (by omega) (by omega) (by omega) hs w G
  rw [Int.toNat_of_nonneg (by omega), Int.toNat_of_nonneg (by omega)] at h
  exact h
theorem oct_i (x y : Int) (i j : Nat) (h1 : 0 < x) (h2 : x ≤ 2097152) (h3 : 0 < y) (h4 : y ≤ 2097152) (hs : Pt.Oct x.toNat y.toNat i j) (w : World) :
    Calls Tryz.prog 36 #[.agg #[.int .i64 x, .int .i64 y]] w fun e w' => e = .returned (.tuple #[.int .i64 ((j : Int) - i), .agg #[.int .i64 ((x.toNat * 2 ^ i : Nat) : Int), .int .i64 ((y.toNat * 2 ^ j : Nat) : Int)]]) ∧ Below w.heap.size w w' := by
  have h := octaves_c x.toNat y.toNat i j (by omega) (by omega) (by omega) (by omega) hs w
  rw [Int.toNat_of_nonneg (by omega), Int.toNat_of_nonneg (by omega)] at h
  exact h
theorem sh_of_eq {x y s : Int} (hs : ShI x y s) (h1 : 0 < x) (h2 : x ≤ 2097152) (h3 : 0 < y) (h4 : y ≤ 2097152) : -300 ≤ s ∧ s ≤ 300 :=
  Pt.sh_bd hs (by omega) (by omega) (by omega) (by omega)
theorem shi_ex {x y : Int} (h1 : 0 < x) (h3 : 0 < y) : ∃ s, ShI x y s := Pt.sh_ex (by omega) (by omega)
theorem pk2_ok {a b c d : Int} (h1 : pk a b = 0) (h2 : pk c d = 0) : pk2 a b c d = 0 := by unfold pk2; rw [if_pos h1, h2]


theorem pshift_bad (a b c d z : Int) (hz : pk2 a b c d = z) (hn : ¬ z = 0) (w : World) :
    Calls Tryz.prog 15 #[.agg #[.int .i64 a, .int .i64 b], .agg #[.int .i64 c, .int .i64 d]] w fun e w' => e = .returned (.tuple #[.int .i64 0, .int .i64 z]) ∧ Below w.heap.size w w' := by
  have CB := Lib.hid (fun W => pcheckBoth_any a b c d W)
  rw [hz] at CB
  clear hz
  obtain ⟨D, hD⟩ : ∃ D, w.heap.size = D := ⟨_, rfl⟩
  go_enter Tryz.func15, Tryz.ntmps15
  go_wp2_with fail
  refine (CB.out _).mono ?_
  rintro e w1 ⟨rfl, hb1⟩
  have hp0 : w1.heap[D]? = some (.cells #[.int .i64 a, .int .i64 b] 23) := (hb1.block D (by simp [hD]; omega)).trans (heap_old (heap_new hD.symm))
  have hp1 : w1.heap[D + 1]? = some (.cells #[.int .i64 c, .int .i64 d] 23) := (hb1.block (D + 1) (by simp [hD])).trans (heap_new (by simp [hD]))
  have hw1 : Below w.heap.size w w1 := (((Below.refl _ w).alloc (Nat.le_refl _) _).alloc (by simp) _).trans (hb1.mono (by simp; omega))
  have hs1 := hw1.size
  have c0 := cell2_0 hp0
  have c1 := cell2_1 hp0
  have c2 := cell2_0 hp1
  have c3 := cell2_1 hp1
  clear hp0 hp1 hb1 CB
  go_wp2
  go_ret2
  exact ⟨rfl, hw1⟩


set_option maxHeartbeats 1000000 in
theorem pshift_ok (a b c d s : Int) (h1 : pk a b = 0) (h2 : pk c d = 0) (hs : ShI (c * b) (d * a) s) (w : World) (G : Gi w) :
    Calls Tryz.prog 15 #[.agg #[.int .i64 a, .int .i64 b], .agg #[.int .i64 c, .int .i64 d]] w fun e w' => e = .returned (.tuple #[.int .i64 s, .int .i64 0]) ∧ Below w.heap.size w w' := by
  obtain ⟨m1, m2⟩ := pr_bd h1 h2
  obtain ⟨m3, m4⟩ : 0 < d * a ∧ d * a ≤ 2097152 := by rw [Int.mul_comm]; exact pr_bd h2 h1
  have CB := Lib.hid (fun W => pcheckBoth_any a b c d W)
  rw [pk2_ok h1 h2] at CB
  have RO := Lib.hid (fun W => ratioOf_any a b c d W (by omega) (by omega) (by omega) (by omega))
  have SH := Lib.hid (fun W G => shift_i (c * b) (d * a) s m1 m2 m3 m4 hs W G)
  obtain ⟨x, hx⟩ : ∃ x, c * b = x := ⟨_, rfl⟩
  obtain ⟨y, hy⟩ : ∃ x, d * a = x := ⟨_, rfl⟩
  rw [hx, hy] at SH RO
  clear m1 m2 m3 m4 hs h1 h2 hx hy
  obtain ⟨D, hD⟩ : ∃ D, w.heap.size = D := ⟨_, rfl⟩
  go_enter Tryz.func15, Tryz.ntmps15
  go_wp2_with fail
  refine (CB.out _).mono ?_
  rintro e w1 ⟨rfl, hb1⟩
  have hp0 : w1.heap[D]? = some (.cells #[.int .i64 a, .int .i64 b] 23) := (hb1.block D (by simp [hD]; omega)).trans (heap_old (heap_new hD.symm))
  have hp1 : w1.heap[D + 1]? = some (.cells #[.int .i64 c, .int .i64 d] 23) := (hb1.block (D + 1) (by simp [hD])).trans (heap_new (by simp [hD]))
  have hw1 : Below w.heap.size w w1 := (((Below.refl _ w).alloc (Nat.le_refl _) _).alloc (by simp) _).trans (hb1.mono (by simp; omega))
  have hs1 := hw1.size
  have c0 := cell2_0 hp0
  have c1 := cell2_1 hp0
  have c2 := cell2_0 hp1
  have c3 := cell2_1 hp1
  clear hp0 hp1 hb1 CB
  go_wp2_with fail
  refine (RO.out _).mono ?_
  rintro e w2 ⟨rfl, hb2⟩
  have hw2 := hw1.trans (hb2.mono hs1)
  have hs2 := hw2.size
  go_wp2_with fail
  refine (SH.out _ (G.below hw2)).mono ?_
  rintro e w3 ⟨rfl, hb3⟩
  go_wp2
  go_ret2
  exact ⟨rfl, hw2.trans (hb3.mono hs2)⟩


theorem pexact_bad (a b c d z : Int) (hz : pk2 a b c d = z) (hn : ¬ z = 0) (w : World) :
    Calls Tryz.prog 16 #[.agg #[.int .i64 a, .int .i64 b], .agg #[.int .i64 c, .int .i64 d]] w fun e w' => e = .returned (.tuple #[.bool false, .int .i64 z]) ∧ Below w.heap.size w w' := by
  have CB := Lib.hid (fun W => pcheckBoth_any a b c d W)
  rw [hz] at CB
  clear hz
  obtain ⟨D, hD⟩ : ∃ D, w.heap.size = D := ⟨_, rfl⟩
  go_enter Tryz.func16, Tryz.ntmps16
  go_wp2_with fail
  refine (CB.out _).mono ?_
  rintro e w1 ⟨rfl, hb1⟩
  have hp0 : w1.heap[D]? = some (.cells #[.int .i64 a, .int .i64 b] 23) := (hb1.block D (by simp [hD]; omega)).trans (heap_old (heap_new hD.symm))
  have hp1 : w1.heap[D + 1]? = some (.cells #[.int .i64 c, .int .i64 d] 23) := (hb1.block (D + 1) (by simp [hD])).trans (heap_new (by simp [hD]))
  have hw1 : Below w.heap.size w w1 := (((Below.refl _ w).alloc (Nat.le_refl _) _).alloc (by simp) _).trans (hb1.mono (by simp; omega))
  have hs1 := hw1.size
  have c0 := cell2_0 hp0
  have c1 := cell2_1 hp0
  have c2 := cell2_0 hp1
  have c3 := cell2_1 hp1
  clear hp0 hp1 hb1 CB
  go_wp2
  go_ret2
  exact ⟨rfl, hw1⟩


set_option maxHeartbeats 1000000 in
theorem pexact_ok (a b c d : Int) (i j : Nat) (h1 : pk a b = 0) (h2 : pk c d = 0) (hs : Pt.Oct (c * b).toNat (d * a).toNat i j) (w : World) :
    Calls Tryz.prog 16 #[.agg #[.int .i64 a, .int .i64 b], .agg #[.int .i64 c, .int .i64 d]] w fun e w' => e = .returned (.tuple #[.bool (decide ((c * b).toNat * 2 ^ i = (d * a).toNat * 2 ^ j)), .int .i64 0]) ∧ Below w.heap.size w w' := by
  obtain ⟨m1, m2⟩ := pr_bd h1 h2
  obtain ⟨m3, m4⟩ : 0 < d * a ∧ d * a ≤ 2097152 := by rw [Int.mul_comm]; exact pr_bd h2 h1
  have CB := Lib.hid (fun W => pcheckBoth_any a b c d W)
  rw [pk2_ok h1 h2] at CB
  have RO := Lib.hid (fun W => ratioOf_any a b c d W (by omega) (by omega) (by omega) (by omega))
  have OC := Lib.hid (fun W => oct_i (c * b) (d * a) i j m1 m2 m3 m4 hs W)
  obtain ⟨x, hx⟩ : ∃ x, c * b = x := ⟨_, rfl⟩
  obtain ⟨y, hy⟩ : ∃ x, d * a = x := ⟨_, rfl⟩
  rw [hx, hy] at OC
  rw [hx, hy] at RO
  rw [hx, hy]
  obtain ⟨A, hA⟩ : ∃ z, x.toNat * 2 ^ i = z := ⟨_, rfl⟩
  obtain ⟨B, hB⟩ : ∃ z, y.toNat * 2 ^ j = z := ⟨_, rfl⟩
  rw [hA, hB] at OC
  rw [hA, hB]
  clear m1 m2 m3 m4 hs h1 h2 hx hy hA hB
  obtain ⟨D, hD⟩ : ∃ D, w.heap.size = D := ⟨_, rfl⟩
  go_enter Tryz.func16, Tryz.ntmps16
  go_wp2_with fail
  refine (CB.out _).mono ?_
  rintro e w1 ⟨rfl, hb1⟩
  have hp0 : w1.heap[D]? = some (.cells #[.int .i64 a, .int .i64 b] 23) := (hb1.block D (by simp [hD]; omega)).trans (heap_old (heap_new hD.symm))
  have hp1 : w1.heap[D + 1]? = some (.cells #[.int .i64 c, .int .i64 d] 23) := (hb1.block (D + 1) (by simp [hD])).trans (heap_new (by simp [hD]))
  have hw1 : Below w.heap.size w w1 := (((Below.refl _ w).alloc (Nat.le_refl _) _).alloc (by simp) _).trans (hb1.mono (by simp; omega))
  have hs1 := hw1.size
  have c0 := cell2_0 hp0
  have c1 := cell2_1 hp0
  have c2 := cell2_0 hp1
  have c3 := cell2_1 hp1
  clear hp0 hp1 hb1 CB
  go_wp2_with fail
  refine (RO.out _).mono ?_
  rintro e w2 ⟨rfl, hb2⟩
  have hw2 := hw1.trans (hb2.mono hs1)
  have hs2 := hw2.size
  go_wp2_with fail
  refine (OC.out _).mono ?_
  rintro e w3 ⟨rfl, hb3⟩
  have hw3 := hw2.trans (hb3.mono hs2)
  have hs3 := hw3.size
  have e0 : decide (A = B) = ((A : Int) == (B : Int)) := by
    by_cases h : A = B
    · subst h; simp
    · have : ((A : Int) == (B : Int)) = false := by rw [beq_eq_false_iff_ne]; omega
      rw [this]; simp [h]
  go_wp2
  go_ret2
  exact ⟨ret_tb e0.symm, hw3.alloc (by omega) _⟩


theorem pcompare_bad (a b c d z : Int) (hz : pk2 a b c d = z) (hn : ¬ z = 0) (w : World) :
    Calls Tryz.prog 19 #[.agg #[.int .i64 a, .int .i64 b], .agg #[.int .i64 c, .int .i64 d]] w fun e w' => e = .returned (.tuple #[.int .i64 0, .int .i64 z]) ∧ Below w.heap.size w w' := by
  have CB := Lib.hid (fun W => pcheckBoth_any a b c d W)
  rw [hz] at CB
  clear hz
  obtain ⟨D, hD⟩ : ∃ D, w.heap.size = D := ⟨_, rfl⟩
  go_enter Tryz.func19, Tryz.ntmps19
  go_wp2_with fail
  refine (CB.out _).mono ?_
  rintro e w1 ⟨rfl, hb1⟩
  have hp0 : w1.heap[D]? = some (.cells #[.int .i64 a, .int .i64 b] 23) := (hb1.block D (by simp [hD]; omega)).trans (heap_old (heap_new hD.symm))
  have hp1 : w1.heap[D + 1]? = some (.cells #[.int .i64 c, .int .i64 d] 23) := (hb1.block (D + 1) (by simp [hD])).trans (heap_new (by simp [hD]))
  have hw1 : Below w.heap.size w w1 := (((Below.refl _ w).alloc (Nat.le_refl _) _).alloc (by simp) _).trans (hb1.mono (by simp; omega))
  have hs1 := hw1.size
  have c0 := cell2_0 hp0
  have c1 := cell2_1 hp0
  have c2 := cell2_0 hp1
  have c3 := cell2_1 hp1
  clear hp0 hp1 hb1 CB
  go_wp2
  go_ret2
  exact ⟨rfl, hw1⟩


set_option maxHeartbeats 1000000 in
theorem pcompare_ok (a b c d : Int) (h1 : pk a b = 0) (h2 : pk c d = 0) (w : World) :
    Calls Tryz.prog 19 #[.agg #[.int .i64 a, .int .i64 b], .agg #[.int .i64 c, .int .i64 d]] w fun e w' => e = .returned (.tuple #[.int .i64 (FracMath.cmpI (c * b) (a * d)), .int .i64 0]) ∧ Below w.heap.size w w' := by
  have CB := Lib.hid (fun W => pcheckBoth_any a b c d W)
  rw [pk2_ok h1 h2] at CB
  have CM := Lib.hid (fun W => compare_right c d a b W (pk_ok h2).1 (pk_ok h1).1)
  obtain ⟨x, hx⟩ : ∃ x, FracMath.cmpI (c * b) (a * d) = x := ⟨_, rfl⟩
  rw [hx] at CM
  rw [hx]
  clear h1 h2 hx
  obtain ⟨D, hD⟩ : ∃ D, w.heap.size = D := ⟨_, rfl⟩
  go_enter Tryz.func19, Tryz.ntmps19
  go_wp2_with fail
  refine (CB.out _).mono ?_
  rintro e w1 ⟨rfl, hb1⟩
  have hp0 : w1.heap[D]? = some (.cells #[.int .i64 a, .int .i64 b] 23) := (hb1.block D (by simp [hD]; omega)).trans (heap_old (heap_new hD.symm))
  have hp1 : w1.heap[D + 1]? = some (.cells #[.int .i64 c, .int .i64 d] 23) := (hb1.block (D + 1) (by simp [hD])).trans (heap_new (by simp [hD]))
  have hw1 : Below w.heap.size w w1 := (((Below.refl _ w).alloc (Nat.le_refl _) _).alloc (by simp) _).trans (hb1.mono (by simp; omega))
  have hs1 := hw1.size
  have c0 := cell2_0 hp0
  have c1 := cell2_1 hp0
  have c2 := cell2_0 hp1
  have c3 := cell2_1 hp1
  clear hp0 hp1 hb1 CB
  go_wp2_with fail
  refine (CM.out _).mono ?_
  rintro e w2 ⟨rfl, hb2⟩
  have hw2 := hw1.trans (hb2.mono hs1)
  go_wp2
  go_ret2
  exact ⟨rfl, hw2⟩


theorem isNote_c (n : Int) (w : World) : Calls Tryz.prog 39 #[.int .i64 n] w fun e w' => e = .returned (.bool (decide (0 ≤ n ∧ n ≤ 127))) ∧ w' = w := by
  go_enter Tryz.func39, Tryz.ntmps39
  by_cases h1 : 0 ≤ n
  · by_cases h2 : n ≤ 127
    · go_wp2
      go_ret
      exact ⟨ret_bool (by simp [h2]; try omega), rfl⟩
    · go_wp2
      go_ret
      exact ⟨ret_bool (by simp [h2]; try omega), rfl⟩
  · go_wp2
    go_ret
    exact ⟨ret_bool (by simp; omega), rfl⟩


theorem psound_bad (a b z : Int) (key : Int) (hz : pk a b = z) (hn : ¬ z = 0) (w : World) :
    Calls Tryz.prog 20 #[.agg #[.int .i64 a, .int .i64 b], .int .i64 key] w fun e w' => e = .returned (.tuple #[.int .i64 0, .bool false, .int .i64 z]) ∧ Below w.heap.size w w' := by
  have CB := Lib.hid (fun W => pcheck_any a b W)
  rw [hz] at CB
  clear hz
  obtain ⟨D, hD⟩ : ∃ D, w.heap.size = D := ⟨_, rfl⟩
  go_enter Tryz.func20, Tryz.ntmps20
  go_wp2_with fail
  refine (CB.out _).mono ?_
  rintro e w1 ⟨rfl, hb1⟩
  have hp0 : w1.heap[D]? = some (.cells #[.int .i64 a, .int .i64 b] 23) := (hb1.block D (by simp [hD])).trans (heap_new hD.symm)
  have hw1 : Below w.heap.size w w1 := ((Below.refl _ w).alloc (Nat.le_refl _) _).trans (hb1.mono (by simp))
  have hs1 := hw1.size
  have c0 := cell2_0 hp0
  have c1 := cell2_1 hp0
  clear hp0 hb1 CB
  go_wp2
  go_ret3
  exact ⟨rfl, hw1⟩


/-- Sounding's answer for right feet. -/
def sndV (key s : Int) : Value := if 0 ≤ key ∧ key ≤ 127 then (if 0 ≤ key + s ∧ key + s ≤ 127 then .tuple #[.int .i64 (key + s), .bool true, .int .i64 0] else .tuple #[.int .i64 0, .bool false, .int .i64 0]) else .tuple #[.int .i64 0, .bool false, .int .i64 3]
set_option maxHeartbeats 1000000 in
theorem psound_ok (a b key s : Int) (h1 : pk a b = 0) (hs : ShI (8 * b) a s) (w : World) (G : Gi w) :
    Calls Tryz.prog 20 #[.agg #[.int .i64 a, .int .i64 b], .int .i64 key] w fun e w' => e = .returned (sndV key s) ∧ Below w.heap.size w w' := by
  obtain ⟨_, k1, k2, k3, k4, _⟩ := pk_ok h1
  have CB := Lib.hid (fun W => pcheck_any a b W)
  rw [h1] at CB
  have RO := Lib.hid (fun W => ratioOn_any a b W (by omega) (by omega) (by omega) (by omega))
  have SH := Lib.hid (fun W G => shift_i (8 * b) a s (by omega) (by omega) (by omega) (by omega) hs W G)
  have bs := sh_of_eq hs (by omega) (by omega) (by omega) (by omega)
  have N1 := Lib.hid (fun W => isNote_c key W)
  have N2 := Lib.hid (fun W => isNote_c (key + s) W)
  obtain ⟨x, hx⟩ : ∃ x, 8 * b = x := ⟨_, rfl⟩
  rw [hx] at SH RO
  obtain ⟨V, hV⟩ : ∃ V, sndV key s = V := ⟨_, rfl⟩
  rw [hV]
  unfold sndV at hV
  have HV := Lib.hid hV
  clear hs h1 hx hV k1 k2 k3 k4
  by_cases g1 : 0 ≤ key ∧ key ≤ 127
  · rw [if_pos g1] at HV
    rw [decide_eq_true g1] at N1
    have wk := wrap_in (q := key + s) (by omega) (by omega)
    by_cases g2 : 0 ≤ key + s ∧ key + s ≤ 127
    · rw [if_pos g2] at HV
      rw [decide_eq_true g2] at N2
      obtain ⟨D, hD⟩ : ∃ D, w.heap.size = D := ⟨_, rfl⟩
      go_enter Tryz.func20, Tryz.ntmps20
      go_wp2_with fail
      refine (CB.out _).mono ?_
      rintro e w1 ⟨rfl, hb1⟩
      have hp0 : w1.heap[D]? = some (.cells #[.int .i64 a, .int .i64 b] 23) := (hb1.block D (by simp [hD])).trans (heap_new hD.symm)
      have hw1 : Below w.heap.size w w1 := ((Below.refl _ w).alloc (Nat.le_refl _) _).trans (hb1.mono (by simp))
      have hs1 := hw1.size
      have c0 := cell2_0 hp0
      have c1 := cell2_1 hp0
      clear hp0 hb1 CB
      go_wp2_with fail
      refine (N1.out _).mono ?_
      rintro e w2 ⟨rfl, rfl⟩
      go_wp2_with fail
      refine (RO.out _).mono ?_
      rintro e w3 ⟨rfl, hb3⟩
      have hw3 := hw1.trans (hb3.mono hs1)
      have hs3 := hw3.size
      go_wp2_with fail
      refine (SH.out _ (G.below hw3)).mono ?_
      rintro e w4 ⟨rfl, hb4⟩
      have hw4 := hw3.trans (hb4.mono hs3)
      go_wp2_with fail
      refine (N2.out _).mono ?_
      rintro e w5 ⟨rfl, rfl⟩
      go_wp2
      go_ret3
      exact ⟨by rw [← HV.out]; first | done | rfl, hw4⟩
    · rw [if_neg g2] at HV
      rw [decide_eq_false g2] at N2
      obtain ⟨D, hD⟩ : ∃ D, w.heap.size = D := ⟨_, rfl⟩
      go_enter Tryz.func20, Tryz.ntmps20
      go_wp2_with fail
      refine (CB.out _).mono ?_
      rintro e w1 ⟨rfl, hb1⟩
      have hp0 : w1.heap[D]? = some (.cells #[.int .i64 a, .int .i64 b] 23) := (hb1.block D (by simp [hD])).trans (heap_new hD.symm)
      have hw1 : Below w.heap.size w w1 := ((Below.refl _ w).alloc (Nat.le_refl _) _).trans (hb1.mono (by simp))
      have hs1 := hw1.size
      have c0 := cell2_0 hp0
      have c1 := cell2_1 hp0
      clear hp0 hb1 CB
      go_wp2_with fail
      refine (N1.out _).mono ?_
      rintro e w2 ⟨rfl, rfl⟩
      go_wp2_with fail
      refine (RO.out _).mono ?_
      rintro e w3 ⟨rfl, hb3⟩
      have hw3 := hw1.trans (hb3.mono hs1)
      have hs3 := hw3.size
      go_wp2_with fail
      refine (SH.out _ (G.below hw3)).mono ?_
      rintro e w4 ⟨rfl, hb4⟩
      have hw4 := hw3.trans (hb4.mono hs3)
      go_wp2_with fail
      refine (N2.out _).mono ?_
      rintro e w5 ⟨rfl, rfl⟩
      go_wp2
      go_ret3
      exact ⟨by rw [← HV.out]; first | done | rfl, hw4⟩
  · rw [if_neg g1] at HV
    rw [decide_eq_false g1] at N1
    obtain ⟨D, hD⟩ : ∃ D, w.heap.size = D := ⟨_, rfl⟩
    go_enter Tryz.func20, Tryz.ntmps20
    go_wp2_with fail
    refine (CB.out _).mono ?_
    rintro e w1 ⟨rfl, hb1⟩
    have hp0 : w1.heap[D]? = some (.cells #[.int .i64 a, .int .i64 b] 23) := (hb1.block D (by simp [hD])).trans (heap_new hD.symm)
    have hw1 : Below w.heap.size w w1 := ((Below.refl _ w).alloc (Nat.le_refl _) _).trans (hb1.mono (by simp))
    have hs1 := hw1.size
    have c0 := cell2_0 hp0
    have c1 := cell2_1 hp0
    clear hp0 hb1 CB
    go_wp2_with fail
    refine (N1.out _).mono ?_
    rintro e w2 ⟨rfl, rfl⟩
    go_wp2
    go_ret3
    exact ⟨by rw [← HV.out]; first | done | rfl, hw1⟩

end Go.Proofs.YtkoljddejjfbiaaGreatDoor
