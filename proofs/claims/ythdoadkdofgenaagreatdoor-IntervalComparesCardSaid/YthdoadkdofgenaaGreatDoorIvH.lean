/- Contracts of combined, Add, Sub. -/
import Derived.Test.YthdoadkdofgenaaGreatDoorIvG
namespace Go.Proofs.YthdoadkdofgenaaGreatDoor
open Go Go.RowKit Go.Shelf

theorem rd_nat (x0 x1 x2 x3 x4 x5 : Int) (h : Iv.rdE x0 x1 x2 x3 x4 x5 = 0) : ∃ d : Nat, rdD x0 x1 x2 x3 x4 x5 = (d : Int) ∧ 0 < d ∧ d ≤ 240 := by
  have hb := rd_bounds x0 x1 x2 x3 x4 x5
  have hp := hb.2.2.2.2.2.2.2 h
  exact ⟨(rdD x0 x1 x2 x3 x4 x5).natAbs, by omega, by omega, by omega⟩
theorem cb_bd {a b : Int} {d e : Nat} {k : Int} (hk : k = 1 ∨ k = -1) (hd1 : 0 < d) (hd2 : d ≤ 240) (he1 : 0 < e) (he2 : e ≤ 240) (a1 : -6000 ≤ a) (a2 : a ≤ 6000) (b1 : -6000 ≤ b) (b2 : b ≤ 6000) : -3000000 ≤ Iv.cb a b d e k ∧ Iv.cb a b d e k ≤ 3000000 := by
  have hu : Nat.lcm d e / d ≤ 240 := Nat.le_trans (lcm_over hd1) he2
  have hv : Nat.lcm d e / e ≤ 240 := by rw [Nat.lcm_comm]; exact Nat.le_trans (lcm_over he1) hd2
  have h1 := mul_bd (B := 6000) a1 a2 hu
  have h2 := mul_bd (B := 6000) b1 b2 hv
  unfold Iv.cb
  rcases hk with rfl | rfl <;> omega

set_option maxRecDepth 10000 in
set_option maxHeartbeats 4000000 in
theorem ivcombined_err (sx sy : Array Value) (f : Value) (x0 x1 x2 x3 x4 x5 y0 y1 y2 y3 y4 y5 E : Int) (hx : sx = #[.int .i64 x0, .int .i64 x1, .int .i64 x2, .int .i64 x3, .int .i64 x4, .int .i64 x5]) (hy : sy = #[.int .i64 y0, .int .i64 y1, .int .i64 y2, .int .i64 y3, .int .i64 y4, .int .i64 y5]) (w : World) (he : E ≠ 0)
    (PR : ∀ W, Calls Tryz.prog 48 #[.agg #[.int .i64 x0, .int .i64 x1, .int .i64 x2, .int .i64 x3, .int .i64 x4, .int .i64 x5], .agg #[.int .i64 y0, .int .i64 y1, .int .i64 y2, .int .i64 y3, .int .i64 y4, .int .i64 y5]] W fun e w' => e = .returned (.tuple #[.agg #[.int .i64 0, .int .i64 0, .int .i64 0, .int .i64 0], .agg #[.int .i64 0, .int .i64 0, .int .i64 0, .int .i64 0], .int .i64 E]) ∧ Below W.heap.size W w') :
    Calls Tryz.prog 41 #[.agg sx, .agg sy, f] w fun e w' => e = .returned (.tuple #[.agg #[.int .i64 0, .int .i64 0, .int .i64 0, .int .i64 0, .int .i64 0, .int .i64 0], .int .i64 E]) ∧ Below w.heap.size w w' := by
  subst hx
  subst hy
  have PH := Lib.hid PR
  have hne : (E == 0) = false := by rw [beq_eq_false_iff_ne]; exact he
  clear PR
  obtain ⟨D, hD⟩ : ∃ D, w.heap.size = D := ⟨_, rfl⟩
  go_enter Tryz.func41, Tryz.ntmps41
  go_wp2_with fail
  refine (PH.out _).mono ?_
  rintro e w1 ⟨rfl, hb1⟩
  have hs1 := hb1.size
  have h1a : w1.heap[D + 1 + 1]? = some (.cells #[.int .i64 0, .int .i64 0, .int .i64 0, .int .i64 0, .int .i64 0, .int .i64 0] 25) := (hb1.block (D + 1 + 1) (by simp [hD])).trans (heap_new (by simp [hD]))
  have hw1a : Below D w w1 := ((((Below.refl _ w).alloc (by omega) _).alloc (by simp; omega) _).alloc (by simp; omega) _).trans (hb1.mono (by simp; omega))
  have h1 := heap_old (o := .cells #[.int .i64 0, .int .i64 0, .int .i64 0, .int .i64 0] 73) (heap_old (o := .cells #[.int .i64 0, .int .i64 0, .int .i64 0, .int .i64 0] 73) h1a)
  have hw1 := (hw1a.alloc (by have := hw1a.size; omega) (.cells #[.int .i64 0, .int .i64 0, .int .i64 0, .int .i64 0] 73)).alloc (by have := hw1a.size; simp; omega) (.cells #[.int .i64 0, .int .i64 0, .int .i64 0, .int .i64 0] 73)
  have r0 := cell6_0 h1
  have g0 := free6_0 h1
  have r1 := cell6_1 h1
  have g1 := free6_1 h1
  have r2 := cell6_2 h1
  have g2 := free6_2 h1
  have r3 := cell6_3 h1
  have g3 := free6_3 h1
  have r4 := cell6_4 h1
  have g4 := free6_4 h1
  have r5 := cell6_5 h1
  have g5 := free6_5 h1
  obtain ⟨U, hU⟩ : ∃ U, ((((((((w1.alloc (.cells #[.int .i64 0, .int .i64 0, .int .i64 0, .int .i64 0] 73)).alloc (.cells #[.int .i64 0, .int .i64 0, .int .i64 0, .int .i64 0] 73)).setCell ⟨D + 1 + 1, 0, none⟩ (.int .i64 0)).setCell ⟨D + 1 + 1, 1, none⟩ (.int .i64 0)).setCell ⟨D + 1 + 1, 2, none⟩ (.int .i64 0)).setCell ⟨D + 1 + 1, 3, none⟩ (.int .i64 0)).setCell ⟨D + 1 + 1, 4, none⟩ (.int .i64 0)).setCell ⟨D + 1 + 1, 5, none⟩ (.int .i64 0)) = U := ⟨_, rfl⟩
  have HW := Lib.hid (show Below D w U by rw [← hU]; exact ((((((hw1.setCell (p := ⟨D + 1 + 1, 0, none⟩) (show D ≤ D + 1 + 1 by omega) (.int .i64 0)).setCell (p := ⟨D + 1 + 1, 1, none⟩) (show D ≤ D + 1 + 1 by omega) (.int .i64 0)).setCell (p := ⟨D + 1 + 1, 2, none⟩) (show D ≤ D + 1 + 1 by omega) (.int .i64 0)).setCell (p := ⟨D + 1 + 1, 3, none⟩) (show D ≤ D + 1 + 1 by omega) (.int .i64 0)).setCell (p := ⟨D + 1 + 1, 4, none⟩) (show D ≤ D + 1 + 1 by omega) (.int .i64 0)).setCell (p := ⟨D + 1 + 1, 5, none⟩) (show D ≤ D + 1 + 1 by omega) (.int .i64 0)))
  have hE : U.heap[D + 1 + 1]? = some (.cells #[.int .i64 0, .int .i64 0, .int .i64 0, .int .i64 0, .int .i64 0, .int .i64 0] 25) := by rw [← hU]; exact (set6_5 (x := .int .i64 0) (set6_4 (x := .int .i64 0) (set6_3 (x := .int .i64 0) (set6_2 (x := .int .i64 0) (set6_1 (x := .int .i64 0) (set6_0 (x := .int .i64 0) h1))))))
  have HU := Lib.hid hU
  have z0 := cell6_0 hE
  have z1 := cell6_1 hE
  have z2 := cell6_2 hE
  have z3 := cell6_3 hE
  have z4 := cell6_4 hE
  have z5 := cell6_5 hE
  clear h1 h1a hw1 hw1a hb1 hs1 hE hU
  go_wp2
  rw [HU.out]
  refine bodyPost_ret (v := .tuple #[.agg #[.int .i64 0, .int .i64 0, .int .i64 0, .int .i64 0, .int .i64 0, .int .i64 0], .int .i64 E]) (by simp [results, Tryz.results41, go_sem, z0, z1, z2, z3, z4, z5]) rfl ⟨rfl, by rw [hD]; exact HW.out⟩
set_option maxRecDepth 10000 in
set_option maxHeartbeats 4000000 in
theorem ivcombined_plus (x0 x1 x2 x3 x4 x5 y0 y1 y2 y3 y4 y5 : Int) (d e : Nat) (w : World) (he : Iv.rdE x0 x1 x2 x3 x4 x5 = 0) (hf : Iv.rdE y0 y1 y2 y3 y4 y5 = 0) (hd : rdD x0 x1 x2 x3 x4 x5 = (d : Int)) (hd1 : 0 < d) (hd2 : d ≤ 240) (hg : rdD y0 y1 y2 y3 y4 y5 = (e : Int)) (he1 : 0 < e) (he2 : e ≤ 240) :
    Calls Tryz.prog 41 #[.agg #[.int .i64 x0, .int .i64 x1, .int .i64 x2, .int .i64 x3, .int .i64 x4, .int .i64 x5], .agg #[.int .i64 y0, .int .i64 y1, .int .i64 y2, .int .i64 y3, .int .i64 y4, .int .i64 y5], .func (.func 42) #[] #[]] w fun x w' => x = .returned (.tuple #[.agg #[.int .i64 (szN (Iv.cb (rdA x0 x1 x2 x3 x4 x5) (rdA y0 y1 y2 y3 y4 y5) d e 1) (Iv.cb (rdA x0 x1 x2 x3 x4 x5) (rdA y0 y1 y2 y3 y4 y5) d e 1) (Iv.cb (rdB x0 x1 x2 x3 x4 x5) (rdB y0 y1 y2 y3 y4 y5) d e 1) (Iv.cb (rdC x0 x1 x2 x3 x4 x5) (rdC y0 y1 y2 y3 y4 y5) d e 1) (Nat.lcm d e)), .int .i64 (szD (Iv.cb (rdA x0 x1 x2 x3 x4 x5) (rdA y0 y1 y2 y3 y4 y5) d e 1) (Iv.cb (rdA x0 x1 x2 x3 x4 x5) (rdA y0 y1 y2 y3 y4 y5) d e 1) (Iv.cb (rdB x0 x1 x2 x3 x4 x5) (rdB y0 y1 y2 y3 y4 y5) d e 1) (Iv.cb (rdC x0 x1 x2 x3 x4 x5) (rdC y0 y1 y2 y3 y4 y5) d e 1) (Nat.lcm d e)), .int .i64 (szN (Iv.cb (rdB x0 x1 x2 x3 x4 x5) (rdB y0 y1 y2 y3 y4 y5) d e 1) (Iv.cb (rdA x0 x1 x2 x3 x4 x5) (rdA y0 y1 y2 y3 y4 y5) d e 1) (Iv.cb (rdB x0 x1 x2 x3 x4 x5) (rdB y0 y1 y2 y3 y4 y5) d e 1) (Iv.cb (rdC x0 x1 x2 x3 x4 x5) (rdC y0 y1 y2 y3 y4 y5) d e 1) (Nat.lcm d e)), .int .i64 (szD (Iv.cb (rdB x0 x1 x2 x3 x4 x5) (rdB y0 y1 y2 y3 y4 y5) d e 1) (Iv.cb (rdA x0 x1 x2 x3 x4 x5) (rdA y0 y1 y2 y3 y4 y5) d e 1) (Iv.cb (rdB x0 x1 x2 x3 x4 x5) (rdB y0 y1 y2 y3 y4 y5) d e 1) (Iv.cb (rdC x0 x1 x2 x3 x4 x5) (rdC y0 y1 y2 y3 y4 y5) d e 1) (Nat.lcm d e)), .int .i64 (szN (Iv.cb (rdC x0 x1 x2 x3 x4 x5) (rdC y0 y1 y2 y3 y4 y5) d e 1) (Iv.cb (rdA x0 x1 x2 x3 x4 x5) (rdA y0 y1 y2 y3 y4 y5) d e 1) (Iv.cb (rdB x0 x1 x2 x3 x4 x5) (rdB y0 y1 y2 y3 y4 y5) d e 1) (Iv.cb (rdC x0 x1 x2 x3 x4 x5) (rdC y0 y1 y2 y3 y4 y5) d e 1) (Nat.lcm d e)), .int .i64 (szD (Iv.cb (rdC x0 x1 x2 x3 x4 x5) (rdC y0 y1 y2 y3 y4 y5) d e 1) (Iv.cb (rdA x0 x1 x2 x3 x4 x5) (rdA y0 y1 y2 y3 y4 y5) d e 1) (Iv.cb (rdB x0 x1 x2 x3 x4 x5) (rdB y0 y1 y2 y3 y4 y5) d e 1) (Iv.cb (rdC x0 x1 x2 x3 x4 x5) (rdC y0 y1 y2 y3 y4 y5) d e 1) (Nat.lcm d e))], .int .i64 (szE (Iv.cb (rdA x0 x1 x2 x3 x4 x5) (rdA y0 y1 y2 y3 y4 y5) d e 1) (Iv.cb (rdB x0 x1 x2 x3 x4 x5) (rdB y0 y1 y2 y3 y4 y5) d e 1) (Iv.cb (rdC x0 x1 x2 x3 x4 x5) (rdC y0 y1 y2 y3 y4 y5) d e 1) (Nat.lcm d e))]) ∧ Below w.heap.size w w' := by
  have PH := Lib.hid (fun W => ivpair_ok x0 x1 x2 x3 x4 x5 y0 y1 y2 y3 y4 y5 W he hf)
  have bx := rd_bounds x0 x1 x2 x3 x4 x5
  have bY := rd_bounds y0 y1 y2 y3 y4 y5
  have CO := Lib.hid (fun W => ivcombine_plus (rdA x0 x1 x2 x3 x4 x5) (rdB x0 x1 x2 x3 x4 x5) (rdC x0 x1 x2 x3 x4 x5) (rdA y0 y1 y2 y3 y4 y5) (rdB y0 y1 y2 y3 y4 y5) (rdC y0 y1 y2 y3 y4 y5) d e W hd1 hd2 he1 he2 (by omega) (by omega) (by omega) (by omega) (by omega) (by omega) (by omega) (by omega) (by omega) (by omega) (by omega) (by omega))
  have k0 := cb_bd (k := 1) (by decide) hd1 hd2 he1 he2 (a := rdA x0 x1 x2 x3 x4 x5) (b := rdA y0 y1 y2 y3 y4 y5) (by omega) (by omega) (by omega) (by omega)
  have k1 := cb_bd (k := 1) (by decide) hd1 hd2 he1 he2 (a := rdB x0 x1 x2 x3 x4 x5) (b := rdB y0 y1 y2 y3 y4 y5) (by omega) (by omega) (by omega) (by omega)
  have k2 := cb_bd (k := 1) (by decide) hd1 hd2 he1 he2 (a := rdC x0 x1 x2 x3 x4 x5) (b := rdC y0 y1 y2 y3 y4 y5) (by omega) (by omega) (by omega) (by omega)
  have hL0 : 0 < Nat.lcm d e := Nat.lcm_pos hd1 he1
  have hL1 : Nat.lcm d e ≤ 57600 := by
    have h1 : Nat.lcm d e ≤ d * e := Nat.div_le_self _ _
    have h2 : d * e ≤ 240 * 240 := Nat.mul_le_mul hd2 he2
    omega
  have SI := Lib.hid (fun W => ivsize_any (Iv.cb (rdA x0 x1 x2 x3 x4 x5) (rdA y0 y1 y2 y3 y4 y5) d e 1) (Iv.cb (rdB x0 x1 x2 x3 x4 x5) (rdB y0 y1 y2 y3 y4 y5) d e 1) (Iv.cb (rdC x0 x1 x2 x3 x4 x5) (rdC y0 y1 y2 y3 y4 y5) d e 1) (Nat.lcm d e) W (by omega) (by omega) (by omega) (by omega) (by omega) (by omega) hL0 (by omega))
  rw [hd, hg] at PH
  clear bx bY k0 k1 k2 hL0 hL1 hd hg hd1 hd2 he1 he2 he hf
  generalize szN (Iv.cb (rdA x0 x1 x2 x3 x4 x5) (rdA y0 y1 y2 y3 y4 y5) d e 1) (Iv.cb (rdA x0 x1 x2 x3 x4 x5) (rdA y0 y1 y2 y3 y4 y5) d e 1) (Iv.cb (rdB x0 x1 x2 x3 x4 x5) (rdB y0 y1 y2 y3 y4 y5) d e 1) (Iv.cb (rdC x0 x1 x2 x3 x4 x5) (rdC y0 y1 y2 y3 y4 y5) d e 1) (Nat.lcm d e) = s0 at *
  generalize szD (Iv.cb (rdA x0 x1 x2 x3 x4 x5) (rdA y0 y1 y2 y3 y4 y5) d e 1) (Iv.cb (rdA x0 x1 x2 x3 x4 x5) (rdA y0 y1 y2 y3 y4 y5) d e 1) (Iv.cb (rdB x0 x1 x2 x3 x4 x5) (rdB y0 y1 y2 y3 y4 y5) d e 1) (Iv.cb (rdC x0 x1 x2 x3 x4 x5) (rdC y0 y1 y2 y3 y4 y5) d e 1) (Nat.lcm d e) = s1 at *
  generalize szN (Iv.cb (rdB x0 x1 x2 x3 x4 x5) (rdB y0 y1 y2 y3 y4 y5) d e 1) (Iv.cb (rdA x0 x1 x2 x3 x4 x5) (rdA y0 y1 y2 y3 y4 y5) d e 1) (Iv.cb (rdB x0 x1 x2 x3 x4 x5) (rdB y0 y1 y2 y3 y4 y5) d e 1) (Iv.cb (rdC x0 x1 x2 x3 x4 x5) (rdC y0 y1 y2 y3 y4 y5) d e 1) (Nat.lcm d e) = s2 at *
  generalize szD (Iv.cb (rdB x0 x1 x2 x3 x4 x5) (rdB y0 y1 y2 y3 y4 y5) d e 1) (Iv.cb (rdA x0 x1 x2 x3 x4 x5) (rdA y0 y1 y2 y3 y4 y5) d e 1) (Iv.cb (rdB x0 x1 x2 x3 x4 x5) (rdB y0 y1 y2 y3 y4 y5) d e 1) (Iv.cb (rdC x0 x1 x2 x3 x4 x5) (rdC y0 y1 y2 y3 y4 y5) d e 1) (Nat.lcm d e) = s3 at *
  generalize szN (Iv.cb (rdC x0 x1 x2 x3 x4 x5) (rdC y0 y1 y2 y3 y4 y5) d e 1) (Iv.cb (rdA x0 x1 x2 x3 x4 x5) (rdA y0 y1 y2 y3 y4 y5) d e 1) (Iv.cb (rdB x0 x1 x2 x3 x4 x5) (rdB y0 y1 y2 y3 y4 y5) d e 1) (Iv.cb (rdC x0 x1 x2 x3 x4 x5) (rdC y0 y1 y2 y3 y4 y5) d e 1) (Nat.lcm d e) = s4 at *
  generalize szD (Iv.cb (rdC x0 x1 x2 x3 x4 x5) (rdC y0 y1 y2 y3 y4 y5) d e 1) (Iv.cb (rdA x0 x1 x2 x3 x4 x5) (rdA y0 y1 y2 y3 y4 y5) d e 1) (Iv.cb (rdB x0 x1 x2 x3 x4 x5) (rdB y0 y1 y2 y3 y4 y5) d e 1) (Iv.cb (rdC x0 x1 x2 x3 x4 x5) (rdC y0 y1 y2 y3 y4 y5) d e 1) (Nat.lcm d e) = s5 at *
  generalize szE (Iv.cb (rdA x0 x1 x2 x3 x4 x5) (rdA y0 y1 y2 y3 y4 y5) d e 1) (Iv.cb (rdB x0 x1 x2 x3 x4 x5) (rdB y0 y1 y2 y3 y4 y5) d e 1) (Iv.cb (rdC x0 x1 x2 x3 x4 x5) (rdC y0 y1 y2 y3 y4 y5) d e 1) (Nat.lcm d e) = sE at *
  generalize (Iv.cb (rdA x0 x1 x2 x3 x4 x5) (rdA y0 y1 y2 y3 y4 y5) d e 1) = ca at *
  generalize (Iv.cb (rdB x0 x1 x2 x3 x4 x5) (rdB y0 y1 y2 y3 y4 y5) d e 1) = cb at *
  generalize (Iv.cb (rdC x0 x1 x2 x3 x4 x5) (rdC y0 y1 y2 y3 y4 y5) d e 1) = cc at *
  generalize Nat.lcm d e = L at *
  generalize rdA x0 x1 x2 x3 x4 x5 = rdAx at *
  generalize rdA y0 y1 y2 y3 y4 y5 = rdAy at *
  generalize rdB x0 x1 x2 x3 x4 x5 = rdBx at *
  generalize rdB y0 y1 y2 y3 y4 y5 = rdBy at *
  generalize rdC x0 x1 x2 x3 x4 x5 = rdCx at *
  generalize rdC y0 y1 y2 y3 y4 y5 = rdCy at *
  obtain ⟨D, hD⟩ : ∃ D, w.heap.size = D := ⟨_, rfl⟩
  go_enter Tryz.func41, Tryz.ntmps41
  go_wp2_with fail
  refine (PH.out _).mono ?_
  rintro x w1 ⟨rfl, hb1⟩
  have hs1 := hb1.size
  have h1a : w1.heap[D + 1 + 1]? = some (.cells #[.int .i64 0, .int .i64 0, .int .i64 0, .int .i64 0, .int .i64 0, .int .i64 0] 25) := (hb1.block (D + 1 + 1) (by simp [hD])).trans (heap_new (by simp [hD]))
  have hw1a : Below D w w1 := ((((Below.refl _ w).alloc (by omega) _).alloc (by simp; omega) _).alloc (by simp; omega) _).trans (hb1.mono (by simp; omega))
  go_wp2_with fail
  refine (CO.out _).mono ?_
  rintro x w2 ⟨rfl, hb2⟩
  go_wp2_with fail
  refine (SI.out _).mono ?_
  rintro x w3 ⟨rfl, hb3⟩
  have h1b := heap_old (o := .cells #[.int .i64 rdAy, .int .i64 rdBy, .int .i64 rdCy, .int .i64 (e : Int)] 73) (heap_old (o := .cells #[.int .i64 rdAx, .int .i64 rdBx, .int .i64 rdCx, .int .i64 (d : Int)] 73) h1a)
  have hw1b := (hw1a.alloc (by have := hw1a.size; omega) (.cells #[.int .i64 rdAx, .int .i64 rdBx, .int .i64 rdCx, .int .i64 (d : Int)] 73)).alloc (by have := hw1a.size; simp; omega) (.cells #[.int .i64 rdAy, .int .i64 rdBy, .int .i64 rdCy, .int .i64 (e : Int)] 73)
  have hDw := (Array.getElem?_eq_some_iff.1 h1b).1
  have h1c := (hb2.block (D + 1 + 1) hDw).trans h1b
  have hw1c := hw1b.trans (hb2.mono (by have := hw1b.size; omega))
  have h1 := (hb3.block (D + 1 + 1) (Array.getElem?_eq_some_iff.1 h1c).1).trans h1c
  have hw1 := hw1c.trans (hb3.mono (by have := hw1c.size; omega))
  have r0 := cell6_0 h1
  have g0 := free6_0 h1
  have r1 := cell6_1 h1
  have g1 := free6_1 h1
  have r2 := cell6_2 h1
  have g2 := free6_2 h1
  have r3 := cell6_3 h1
  have g3 := free6_3 h1
  have r4 := cell6_4 h1
  have g4 := free6_4 h1
  have r5 := cell6_5 h1
  have g5 := free6_5 h1
  obtain ⟨U, hU⟩ : ∃ U, ((((((w3.setCell ⟨D + 1 + 1, 0, none⟩ (.int .i64 s0)).setCell ⟨D + 1 + 1, 1, none⟩ (.int .i64 s1)).setCell ⟨D + 1 + 1, 2, none⟩ (.int .i64 s2)).setCell ⟨D + 1 + 1, 3, none⟩ (.int .i64 s3)).setCell ⟨D + 1 + 1, 4, none⟩ (.int .i64 s4)).setCell ⟨D + 1 + 1, 5, none⟩ (.int .i64 s5)) = U := ⟨_, rfl⟩
  have HW := Lib.hid (show Below D w U by rw [← hU]; exact ((((((hw1.setCell (p := ⟨D + 1 + 1, 0, none⟩) (show D ≤ D + 1 + 1 by omega) (.int .i64 s0)).setCell (p := ⟨D + 1 + 1, 1, none⟩) (show D ≤ D + 1 + 1 by omega) (.int .i64 s1)).setCell (p := ⟨D + 1 + 1, 2, none⟩) (show D ≤ D + 1 + 1 by omega) (.int .i64 s2)).setCell (p := ⟨D + 1 + 1, 3, none⟩) (show D ≤ D + 1 + 1 by omega) (.int .i64 s3)).setCell (p := ⟨D + 1 + 1, 4, none⟩) (show D ≤ D + 1 + 1 by omega) (.int .i64 s4)).setCell (p := ⟨D + 1 + 1, 5, none⟩) (show D ≤ D + 1 + 1 by omega) (.int .i64 s5)))
  have hE : U.heap[D + 1 + 1]? = some (.cells #[.int .i64 s0, .int .i64 s1, .int .i64 s2, .int .i64 s3, .int .i64 s4, .int .i64 s5] 25) := by rw [← hU]; exact (set6_5 (x := .int .i64 s5) (set6_4 (x := .int .i64 s4) (set6_3 (x := .int .i64 s3) (set6_2 (x := .int .i64 s2) (set6_1 (x := .int .i64 s1) (set6_0 (x := .int .i64 s0) h1))))))
  have HU := Lib.hid hU
  have z0 := cell6_0 hE
  have z1 := cell6_1 hE
  have z2 := cell6_2 hE
  have z3 := cell6_3 hE
  have z4 := cell6_4 hE
  have z5 := cell6_5 hE
  clear h1 hE hU h1a h1b h1c hw1a hw1b hw1c hw1 hb1 hb2 hb3 hs1 hDw
  go_wp2
  rw [HU.out]
  refine bodyPost_ret (v := .tuple #[.agg #[.int .i64 s0, .int .i64 s1, .int .i64 s2, .int .i64 s3, .int .i64 s4, .int .i64 s5], .int .i64 sE]) (by simp [results, Tryz.results41, go_sem, z0, z1, z2, z3, z4, z5]) rfl ⟨rfl, by rw [hD]; exact HW.out⟩
set_option maxRecDepth 10000 in
set_option maxHeartbeats 4000000 in
theorem ivadd_e1 (x0 x1 x2 x3 x4 x5 y0 y1 y2 y3 y4 y5 : Int) (w : World) (he : Iv.rdE x0 x1 x2 x3 x4 x5 ≠ 0) :
    Calls Tryz.prog 16 #[.agg #[.int .i64 x0, .int .i64 x1, .int .i64 x2, .int .i64 x3, .int .i64 x4, .int .i64 x5], .agg #[.int .i64 y0, .int .i64 y1, .int .i64 y2, .int .i64 y3, .int .i64 y4, .int .i64 y5]] w fun x w' => x = .returned (.tuple #[.agg #[.int .i64 0, .int .i64 0, .int .i64 0, .int .i64 0, .int .i64 0, .int .i64 0], .int .i64 (Iv.rdE x0 x1 x2 x3 x4 x5)]) ∧ Below w.heap.size w w' := by
  have CH := Lib.hid (fun W => ivcombined_err _ _ (.func (.func 42) #[] #[]) x0 x1 x2 x3 x4 x5 y0 y1 y2 y3 y4 y5 (Iv.rdE x0 x1 x2 x3 x4 x5) rfl rfl W he (fun W => ivpair_e1 x0 x1 x2 x3 x4 x5 y0 y1 y2 y3 y4 y5 W he))
  generalize Iv.rdE x0 x1 x2 x3 x4 x5 = E at *
  obtain ⟨D, hD⟩ : ∃ D, w.heap.size = D := ⟨_, rfl⟩
  go_enter Tryz.func16, Tryz.ntmps16
  go_wp2_with fail
  refine (CH.out _).mono ?_
  rintro x w1 ⟨rfl, hb1⟩
  have h1 : w1.heap[D + 1 + 1]? = some (.cells #[.int .i64 0, .int .i64 0, .int .i64 0, .int .i64 0, .int .i64 0, .int .i64 0] 25) := (hb1.block (D + 1 + 1) (by simp [hD])).trans (heap_new (by simp [hD]))
  have hw1 : Below D w w1 := ((((Below.refl _ w).alloc (by omega) _).alloc (by simp; omega) _).alloc (by simp; omega) _).trans (hb1.mono (by simp; omega))
  have r0 := cell6_0 h1
  have g0 := free6_0 h1
  have r1 := cell6_1 h1
  have g1 := free6_1 h1
  have r2 := cell6_2 h1
  have g2 := free6_2 h1
  have r3 := cell6_3 h1
  have g3 := free6_3 h1
  have r4 := cell6_4 h1
  have g4 := free6_4 h1
  have r5 := cell6_5 h1
  have g5 := free6_5 h1
  obtain ⟨U, hU⟩ : ∃ U, ((((((w1.setCell ⟨D + 1 + 1, 0, none⟩ (.int .i64 0)).setCell ⟨D + 1 + 1, 1, none⟩ (.int .i64 0)).setCell ⟨D + 1 + 1, 2, none⟩ (.int .i64 0)).setCell ⟨D + 1 + 1, 3, none⟩ (.int .i64 0)).setCell ⟨D + 1 + 1, 4, none⟩ (.int .i64 0)).setCell ⟨D + 1 + 1, 5, none⟩ (.int .i64 0)) = U := ⟨_, rfl⟩
  have HW := Lib.hid (show Below D w U by rw [← hU]; exact ((((((hw1.setCell (p := ⟨D + 1 + 1, 0, none⟩) (show D ≤ D + 1 + 1 by omega) (.int .i64 0)).setCell (p := ⟨D + 1 + 1, 1, none⟩) (show D ≤ D + 1 + 1 by omega) (.int .i64 0)).setCell (p := ⟨D + 1 + 1, 2, none⟩) (show D ≤ D + 1 + 1 by omega) (.int .i64 0)).setCell (p := ⟨D + 1 + 1, 3, none⟩) (show D ≤ D + 1 + 1 by omega) (.int .i64 0)).setCell (p := ⟨D + 1 + 1, 4, none⟩) (show D ≤ D + 1 + 1 by omega) (.int .i64 0)).setCell (p := ⟨D + 1 + 1, 5, none⟩) (show D ≤ D + 1 + 1 by omega) (.int .i64 0)))
  have hE : U.heap[D + 1 + 1]? = some (.cells #[.int .i64 0, .int .i64 0, .int .i64 0, .int .i64 0, .int .i64 0, .int .i64 0] 25) := by rw [← hU]; exact (set6_5 (x := .int .i64 0) (set6_4 (x := .int .i64 0) (set6_3 (x := .int .i64 0) (set6_2 (x := .int .i64 0) (set6_1 (x := .int .i64 0) (set6_0 (x := .int .i64 0) h1))))))
  have HU := Lib.hid hU
  have z0 := cell6_0 hE
  have z1 := cell6_1 hE
  have z2 := cell6_2 hE
  have z3 := cell6_3 hE
  have z4 := cell6_4 hE
  have z5 := cell6_5 hE
  clear h1 hE hU hw1 hb1
  go_wp2
  rw [HU.out]
  refine bodyPost_ret (v := .tuple #[.agg #[.int .i64 0, .int .i64 0, .int .i64 0, .int .i64 0, .int .i64 0, .int .i64 0], .int .i64 E]) (by simp [results, Tryz.results16, go_sem, z0, z1, z2, z3, z4, z5]) rfl ⟨rfl, by rw [hD]; exact HW.out⟩
set_option maxRecDepth 10000 in
set_option maxHeartbeats 4000000 in
theorem ivadd_e2 (x0 x1 x2 x3 x4 x5 y0 y1 y2 y3 y4 y5 : Int) (w : World) (he : Iv.rdE x0 x1 x2 x3 x4 x5 = 0) (hf : Iv.rdE y0 y1 y2 y3 y4 y5 ≠ 0) :
    Calls Tryz.prog 16 #[.agg #[.int .i64 x0, .int .i64 x1, .int .i64 x2, .int .i64 x3, .int .i64 x4, .int .i64 x5], .agg #[.int .i64 y0, .int .i64 y1, .int .i64 y2, .int .i64 y3, .int .i64 y4, .int .i64 y5]] w fun x w' => x = .returned (.tuple #[.agg #[.int .i64 0, .int .i64 0, .int .i64 0, .int .i64 0, .int .i64 0, .int .i64 0], .int .i64 (Iv.rdE y0 y1 y2 y3 y4 y5)]) ∧ Below w.heap.size w w' := by
  have CH := Lib.hid (fun W => ivcombined_err _ _ (.func (.func 42) #[] #[]) x0 x1 x2 x3 x4 x5 y0 y1 y2 y3 y4 y5 (Iv.rdE y0 y1 y2 y3 y4 y5) rfl rfl W hf (fun W => ivpair_e2 x0 x1 x2 x3 x4 x5 y0 y1 y2 y3 y4 y5 W he hf))
  generalize Iv.rdE y0 y1 y2 y3 y4 y5 = E at *
  obtain ⟨D, hD⟩ : ∃ D, w.heap.size = D := ⟨_, rfl⟩
  go_enter Tryz.func16, Tryz.ntmps16
  go_wp2_with fail
  refine (CH.out _).mono ?_
  rintro x w1 ⟨rfl, hb1⟩
  have h1 : w1.heap[D + 1 + 1]? = some (.cells #[.int .i64 0, .int .i64 0, .int .i64 0, .int .i64 0, .int .i64 0, .int .i64 0] 25) := (hb1.block (D + 1 + 1) (by simp [hD])).trans (heap_new (by simp [hD]))
  have hw1 : Below D w w1 := ((((Below.refl _ w).alloc (by omega) _).alloc (by simp; omega) _).alloc (by simp; omega) _).trans (hb1.mono (by simp; omega))
  have r0 := cell6_0 h1
  have g0 := free6_0 h1
  have r1 := cell6_1 h1
  have g1 := free6_1 h1
  have r2 := cell6_2 h1
  have g2 := free6_2 h1
  have r3 := cell6_3 h1
  have g3 := free6_3 h1
  have r4 := cell6_4 h1
  have g4 := free6_4 h1
  have r5 := cell6_5 h1
  have g5 := free6_5 h1
  obtain ⟨U, hU⟩ : ∃ U, ((((((w1.setCell ⟨D + 1 + 1, 0, none⟩ (.int .i64 0)).setCell ⟨D + 1 + 1, 1, none⟩ (.int .i64 0)).setCell ⟨D + 1 + 1, 2, none⟩ (.int .i64 0)).setCell ⟨D + 1 + 1, 3, none⟩ (.int .i64 0)).setCell ⟨D + 1 + 1, 4, none⟩ (.int .i64 0)).setCell ⟨D + 1 + 1, 5, none⟩ (.int .i64 0)) = U := ⟨_, rfl⟩
  have HW := Lib.hid (show Below D w U by rw [← hU]; exact ((((((hw1.setCell (p := ⟨D + 1 + 1, 0, none⟩) (show D ≤ D + 1 + 1 by omega) (.int .i64 0)).setCell (p := ⟨D + 1 + 1, 1, none⟩) (show D ≤ D + 1 + 1 by omega) (.int .i64 0)).setCell (p := ⟨D + 1 + 1, 2, none⟩) (show D ≤ D + 1 + 1 by omega) (.int .i64 0)).setCell (p := ⟨D + 1 + 1, 3, none⟩) (show D ≤ D + 1 + 1 by omega) (.int .i64 0)).setCell (p := ⟨D + 1 + 1, 4, none⟩) (show D ≤ D + 1 + 1 by omega) (.int .i64 0)).setCell (p := ⟨D + 1 + 1, 5, none⟩) (show D ≤ D + 1 + 1 by omega) (.int .i64 0)))
  have hE : U.heap[D + 1 + 1]? = some (.cells #[.int .i64 0, .int .i64 0, .int .i64 0, .int .i64 0, .int .i64 0, .int .i64 0] 25) := by rw [← hU]; exact (set6_5 (x := .int .i64 0) (set6_4 (x := .int .i64 0) (set6_3 (x := .int .i64 0) (set6_2 (x := .int .i64 0) (set6_1 (x := .int .i64 0) (set6_0 (x := .int .i64 0) h1))))))
  have HU := Lib.hid hU
  have z0 := cell6_0 hE
  have z1 := cell6_1 hE
  have z2 := cell6_2 hE
  have z3 := cell6_3 hE
  have z4 := cell6_4 hE
  have z5 := cell6_5 hE
  clear h1 hE hU hw1 hb1
  go_wp2
  rw [HU.out]
  refine bodyPost_ret (v := .tuple #[.agg #[.int .i64 0, .int .i64 0, .int .i64 0, .int .i64 0, .int .i64 0, .int .i64 0], .int .i64 E]) (by simp [results, Tryz.results16, go_sem, z0, z1, z2, z3, z4, z5]) rfl ⟨rfl, by rw [hD]; exact HW.out⟩
set_option maxRecDepth 10000 in
set_option maxHeartbeats 4000000 in
theorem ivadd_ok (x0 x1 x2 x3 x4 x5 y0 y1 y2 y3 y4 y5 : Int) (d e : Nat) (w : World) (he : Iv.rdE x0 x1 x2 x3 x4 x5 = 0) (hf : Iv.rdE y0 y1 y2 y3 y4 y5 = 0) (hd : rdD x0 x1 x2 x3 x4 x5 = (d : Int)) (hd1 : 0 < d) (hd2 : d ≤ 240) (hg : rdD y0 y1 y2 y3 y4 y5 = (e : Int)) (he1 : 0 < e) (he2 : e ≤ 240) :
    Calls Tryz.prog 16 #[.agg #[.int .i64 x0, .int .i64 x1, .int .i64 x2, .int .i64 x3, .int .i64 x4, .int .i64 x5], .agg #[.int .i64 y0, .int .i64 y1, .int .i64 y2, .int .i64 y3, .int .i64 y4, .int .i64 y5]] w fun x w' => x = .returned (.tuple #[.agg #[.int .i64 (szN (Iv.cb (rdA x0 x1 x2 x3 x4 x5) (rdA y0 y1 y2 y3 y4 y5) d e 1) (Iv.cb (rdA x0 x1 x2 x3 x4 x5) (rdA y0 y1 y2 y3 y4 y5) d e 1) (Iv.cb (rdB x0 x1 x2 x3 x4 x5) (rdB y0 y1 y2 y3 y4 y5) d e 1) (Iv.cb (rdC x0 x1 x2 x3 x4 x5) (rdC y0 y1 y2 y3 y4 y5) d e 1) (Nat.lcm d e)), .int .i64 (szD (Iv.cb (rdA x0 x1 x2 x3 x4 x5) (rdA y0 y1 y2 y3 y4 y5) d e 1) (Iv.cb (rdA x0 x1 x2 x3 x4 x5) (rdA y0 y1 y2 y3 y4 y5) d e 1) (Iv.cb (rdB x0 x1 x2 x3 x4 x5) (rdB y0 y1 y2 y3 y4 y5) d e 1) (Iv.cb (rdC x0 x1 x2 x3 x4 x5) (rdC y0 y1 y2 y3 y4 y5) d e 1) (Nat.lcm d e)), .int .i64 (szN (Iv.cb (rdB x0 x1 x2 x3 x4 x5) (rdB y0 y1 y2 y3 y4 y5) d e 1) (Iv.cb (rdA x0 x1 x2 x3 x4 x5) (rdA y0 y1 y2 y3 y4 y5) d e 1) (Iv.cb (rdB x0 x1 x2 x3 x4 x5) (rdB y0 y1 y2 y3 y4 y5) d e 1) (Iv.cb (rdC x0 x1 x2 x3 x4 x5) (rdC y0 y1 y2 y3 y4 y5) d e 1) (Nat.lcm d e)), .int .i64 (szD (Iv.cb (rdB x0 x1 x2 x3 x4 x5) (rdB y0 y1 y2 y3 y4 y5) d e 1) (Iv.cb (rdA x0 x1 x2 x3 x4 x5) (rdA y0 y1 y2 y3 y4 y5) d e 1) (Iv.cb (rdB x0 x1 x2 x3 x4 x5) (rdB y0 y1 y2 y3 y4 y5) d e 1) (Iv.cb (rdC x0 x1 x2 x3 x4 x5) (rdC y0 y1 y2 y3 y4 y5) d e 1) (Nat.lcm d e)), .int .i64 (szN (Iv.cb (rdC x0 x1 x2 x3 x4 x5) (rdC y0 y1 y2 y3 y4 y5) d e 1) (Iv.cb (rdA x0 x1 x2 x3 x4 x5) (rdA y0 y1 y2 y3 y4 y5) d e 1) (Iv.cb (rdB x0 x1 x2 x3 x4 x5) (rdB y0 y1 y2 y3 y4 y5) d e 1) (Iv.cb (rdC x0 x1 x2 x3 x4 x5) (rdC y0 y1 y2 y3 y4 y5) d e 1) (Nat.lcm d e)), .int .i64 (szD (Iv.cb (rdC x0 x1 x2 x3 x4 x5) (rdC y0 y1 y2 y3 y4 y5) d e 1) (Iv.cb (rdA x0 x1 x2 x3 x4 x5) (rdA y0 y1 y2 y3 y4 y5) d e 1) (Iv.cb (rdB x0 x1 x2 x3 x4 x5) (rdB y0 y1 y2 y3 y4 y5) d e 1) (Iv.cb (rdC x0 x1 x2 x3 x4 x5) (rdC y0 y1 y2 y3 y4 y5) d e 1) (Nat.lcm d e))], .int .i64 (szE (Iv.cb (rdA x0 x1 x2 x3 x4 x5) (rdA y0 y1 y2 y3 y4 y5) d e 1) (Iv.cb (rdB x0 x1 x2 x3 x4 x5) (rdB y0 y1 y2 y3 y4 y5) d e 1) (Iv.cb (rdC x0 x1 x2 x3 x4 x5) (rdC y0 y1 y2 y3 y4 y5) d e 1) (Nat.lcm d e))]) ∧ Below w.heap.size w w' := by
  have CH := Lib.hid (fun W => ivcombined_plus x0 x1 x2 x3 x4 x5 y0 y1 y2 y3 y4 y5 d e W he hf hd hd1 hd2 hg he1 he2)
  generalize szN (Iv.cb (rdA x0 x1 x2 x3 x4 x5) (rdA y0 y1 y2 y3 y4 y5) d e 1) (Iv.cb (rdA x0 x1 x2 x3 x4 x5) (rdA y0 y1 y2 y3 y4 y5) d e 1) (Iv.cb (rdB x0 x1 x2 x3 x4 x5) (rdB y0 y1 y2 y3 y4 y5) d e 1) (Iv.cb (rdC x0 x1 x2 x3 x4 x5) (rdC y0 y1 y2 y3 y4 y5) d e 1) (Nat.lcm d e) = s0 at *
  generalize szD (Iv.cb (rdA x0 x1 x2 x3 x4 x5) (rdA y0 y1 y2 y3 y4 y5) d e 1) (Iv.cb (rdA x0 x1 x2 x3 x4 x5) (rdA y0 y1 y2 y3 y4 y5) d e 1) (Iv.cb (rdB x0 x1 x2 x3 x4 x5) (rdB y0 y1 y2 y3 y4 y5) d e 1) (Iv.cb (rdC x0 x1 x2 x3 x4 x5) (rdC y0 y1 y2 y3 y4 y5) d e 1) (Nat.lcm d e) = s1 at *
  generalize szN (Iv.cb (rdB x0 x1 x2 x3 x4 x5) (rdB y0 y1 y2 y3 y4 y5) d e 1) (Iv.cb (rdA x0 x1 x2 x3 x4 x5) (rdA y0 y1 y2 y3 y4 y5) d e 1) (Iv.cb (rdB x0 x1 x2 x3 x4 x5) (rdB y0 y1 y2 y3 y4 y5) d e 1) (Iv.cb (rdC x0 x1 x2 x3 x4 x5) (rdC y0 y1 y2 y3 y4 y5) d e 1) (Nat.lcm d e) = s2 at *
  generalize szD (Iv.cb (rdB x0 x1 x2 x3 x4 x5) (rdB y0 y1 y2 y3 y4 y5) d e 1) (Iv.cb (rdA x0 x1 x2 x3 x4 x5) (rdA y0 y1 y2 y3 y4 y5) d e 1) (Iv.cb (rdB x0 x1 x2 x3 x4 x5) (rdB y0 y1 y2 y3 y4 y5) d e 1) (Iv.cb (rdC x0 x1 x2 x3 x4 x5) (rdC y0 y1 y2 y3 y4 y5) d e 1) (Nat.lcm d e) = s3 at *
  generalize szN (Iv.cb (rdC x0 x1 x2 x3 x4 x5) (rdC y0 y1 y2 y3 y4 y5) d e 1) (Iv.cb (rdA x0 x1 x2 x3 x4 x5) (rdA y0 y1 y2 y3 y4 y5) d e 1) (Iv.cb (rdB x0 x1 x2 x3 x4 x5) (rdB y0 y1 y2 y3 y4 y5) d e 1) (Iv.cb (rdC x0 x1 x2 x3 x4 x5) (rdC y0 y1 y2 y3 y4 y5) d e 1) (Nat.lcm d e) = s4 at *
  generalize szD (Iv.cb (rdC x0 x1 x2 x3 x4 x5) (rdC y0 y1 y2 y3 y4 y5) d e 1) (Iv.cb (rdA x0 x1 x2 x3 x4 x5) (rdA y0 y1 y2 y3 y4 y5) d e 1) (Iv.cb (rdB x0 x1 x2 x3 x4 x5) (rdB y0 y1 y2 y3 y4 y5) d e 1) (Iv.cb (rdC x0 x1 x2 x3 x4 x5) (rdC y0 y1 y2 y3 y4 y5) d e 1) (Nat.lcm d e) = s5 at *
  generalize szE (Iv.cb (rdA x0 x1 x2 x3 x4 x5) (rdA y0 y1 y2 y3 y4 y5) d e 1) (Iv.cb (rdB x0 x1 x2 x3 x4 x5) (rdB y0 y1 y2 y3 y4 y5) d e 1) (Iv.cb (rdC x0 x1 x2 x3 x4 x5) (rdC y0 y1 y2 y3 y4 y5) d e 1) (Nat.lcm d e) = sE at *
  obtain ⟨D, hD⟩ : ∃ D, w.heap.size = D := ⟨_, rfl⟩
  go_enter Tryz.func16, Tryz.ntmps16
  go_wp2_with fail
  refine (CH.out _).mono ?_
  rintro x w1 ⟨rfl, hb1⟩
  have h1 : w1.heap[D + 1 + 1]? = some (.cells #[.int .i64 0, .int .i64 0, .int .i64 0, .int .i64 0, .int .i64 0, .int .i64 0] 25) := (hb1.block (D + 1 + 1) (by simp [hD])).trans (heap_new (by simp [hD]))
  have hw1 : Below D w w1 := ((((Below.refl _ w).alloc (by omega) _).alloc (by simp; omega) _).alloc (by simp; omega) _).trans (hb1.mono (by simp; omega))
  have r0 := cell6_0 h1
  have g0 := free6_0 h1
  have r1 := cell6_1 h1
  have g1 := free6_1 h1
  have r2 := cell6_2 h1
  have g2 := free6_2 h1
  have r3 := cell6_3 h1
  have g3 := free6_3 h1
  have r4 := cell6_4 h1
  have g4 := free6_4 h1
  have r5 := cell6_5 h1
  have g5 := free6_5 h1
  obtain ⟨U, hU⟩ : ∃ U, ((((((w1.setCell ⟨D + 1 + 1, 0, none⟩ (.int .i64 s0)).setCell ⟨D + 1 + 1, 1, none⟩ (.int .i64 s1)).setCell ⟨D + 1 + 1, 2, none⟩ (.int .i64 s2)).setCell ⟨D + 1 + 1, 3, none⟩ (.int .i64 s3)).setCell ⟨D + 1 + 1, 4, none⟩ (.int .i64 s4)).setCell ⟨D + 1 + 1, 5, none⟩ (.int .i64 s5)) = U := ⟨_, rfl⟩
  have HW := Lib.hid (show Below D w U by rw [← hU]; exact ((((((hw1.setCell (p := ⟨D + 1 + 1, 0, none⟩) (show D ≤ D + 1 + 1 by omega) (.int .i64 s0)).setCell (p := ⟨D + 1 + 1, 1, none⟩) (show D ≤ D + 1 + 1 by omega) (.int .i64 s1)).setCell (p := ⟨D + 1 + 1, 2, none⟩) (show D ≤ D + 1 + 1 by omega) (.int .i64 s2)).setCell (p := ⟨D + 1 + 1, 3, none⟩) (show D ≤ D + 1 + 1 by omega) (.int .i64 s3)).setCell (p := ⟨D + 1 + 1, 4, none⟩) (show D ≤ D + 1 + 1 by omega) (.int .i64 s4)).setCell (p := ⟨D + 1 + 1, 5, none⟩) (show D ≤ D + 1 + 1 by omega) (.int .i64 s5)))
  have hE : U.heap[D + 1 + 1]? = some (.cells #[.int .i64 s0, .int .i64 s1, .int .i64 s2, .int .i64 s3, .int .i64 s4, .int .i64 s5] 25) := by rw [← hU]; exact (set6_5 (x := .int .i64 s5) (set6_4 (x := .int .i64 s4) (set6_3 (x := .int .i64 s3) (set6_2 (x := .int .i64 s2) (set6_1 (x := .int .i64 s1) (set6_0 (x := .int .i64 s0) h1))))))
  have HU := Lib.hid hU
  have z0 := cell6_0 hE
  have z1 := cell6_1 hE
  have z2 := cell6_2 hE
  have z3 := cell6_3 hE
  have z4 := cell6_4 hE
  have z5 := cell6_5 hE
  clear h1 hE hU hw1 hb1
  go_wp2
  rw [HU.out]
  refine bodyPost_ret (v := .tuple #[.agg #[.int .i64 s0, .int .i64 s1, .int .i64 s2, .int .i64 s3, .int .i64 s4, .int .i64 s5], .int .i64 sE]) (by simp [results, Tryz.results16, go_sem, z0, z1, z2, z3, z4, z5]) rfl ⟨rfl, by rw [hD]; exact HW.out⟩
set_option maxRecDepth 10000 in
set_option maxHeartbeats 4000000 in
theorem ivcombined_minus (x0 x1 x2 x3 x4 x5 y0 y1 y2 y3 y4 y5 : Int) (d e : Nat) (w : World) (he : Iv.rdE x0 x1 x2 x3 x4 x5 = 0) (hf : Iv.rdE y0 y1 y2 y3 y4 y5 = 0) (hd : rdD x0 x1 x2 x3 x4 x5 = (d : Int)) (hd1 : 0 < d) (hd2 : d ≤ 240) (hg : rdD y0 y1 y2 y3 y4 y5 = (e : Int)) (he1 : 0 < e) (he2 : e ≤ 240) :
    Calls Tryz.prog 41 #[.agg #[.int .i64 x0, .int .i64 x1, .int .i64 x2, .int .i64 x3, .int .i64 x4, .int .i64 x5], .agg #[.int .i64 y0, .int .i64 y1, .int .i64 y2, .int .i64 y3, .int .i64 y4, .int .i64 y5], .func (.func 43) #[] #[]] w fun x w' => x = .returned (.tuple #[.agg #[.int .i64 (szN (Iv.cb (rdA x0 x1 x2 x3 x4 x5) (rdA y0 y1 y2 y3 y4 y5) d e (-1)) (Iv.cb (rdA x0 x1 x2 x3 x4 x5) (rdA y0 y1 y2 y3 y4 y5) d e (-1)) (Iv.cb (rdB x0 x1 x2 x3 x4 x5) (rdB y0 y1 y2 y3 y4 y5) d e (-1)) (Iv.cb (rdC x0 x1 x2 x3 x4 x5) (rdC y0 y1 y2 y3 y4 y5) d e (-1)) (Nat.lcm d e)), .int .i64 (szD (Iv.cb (rdA x0 x1 x2 x3 x4 x5) (rdA y0 y1 y2 y3 y4 y5) d e (-1)) (Iv.cb (rdA x0 x1 x2 x3 x4 x5) (rdA y0 y1 y2 y3 y4 y5) d e (-1)) (Iv.cb (rdB x0 x1 x2 x3 x4 x5) (rdB y0 y1 y2 y3 y4 y5) d e (-1)) (Iv.cb (rdC x0 x1 x2 x3 x4 x5) (rdC y0 y1 y2 y3 y4 y5) d e (-1)) (Nat.lcm d e)), .int .i64 (szN (Iv.cb (rdB x0 x1 x2 x3 x4 x5) (rdB y0 y1 y2 y3 y4 y5) d e (-1)) (Iv.cb (rdA x0 x1 x2 x3 x4 x5) (rdA y0 y1 y2 y3 y4 y5) d e (-1)) (Iv.cb (rdB x0 x1 x2 x3 x4 x5) (rdB y0 y1 y2 y3 y4 y5) d e (-1)) (Iv.cb (rdC x0 x1 x2 x3 x4 x5) (rdC y0 y1 y2 y3 y4 y5) d e (-1)) (Nat.lcm d e)), .int .i64 (szD (Iv.cb (rdB x0 x1 x2 x3 x4 x5) (rdB y0 y1 y2 y3 y4 y5) d e (-1)) (Iv.cb (rdA x0 x1 x2 x3 x4 x5) (rdA y0 y1 y2 y3 y4 y5) d e (-1)) (Iv.cb (rdB x0 x1 x2 x3 x4 x5) (rdB y0 y1 y2 y3 y4 y5) d e (-1)) (Iv.cb (rdC x0 x1 x2 x3 x4 x5) (rdC y0 y1 y2 y3 y4 y5) d e (-1)) (Nat.lcm d e)), .int .i64 (szN (Iv.cb (rdC x0 x1 x2 x3 x4 x5) (rdC y0 y1 y2 y3 y4 y5) d e (-1)) (Iv.cb (rdA x0 x1 x2 x3 x4 x5) (rdA y0 y1 y2 y3 y4 y5) d e (-1)) (Iv.cb (rdB x0 x1 x2 x3 x4 x5) (rdB y0 y1 y2 y3 y4 y5) d e (-1)) (Iv.cb (rdC x0 x1 x2 x3 x4 x5) (rdC y0 y1 y2 y3 y4 y5) d e (-1)) (Nat.lcm d e)), .int .i64 (szD (Iv.cb (rdC x0 x1 x2 x3 x4 x5) (rdC y0 y1 y2 y3 y4 y5) d e (-1)) (Iv.cb (rdA x0 x1 x2 x3 x4 x5) (rdA y0 y1 y2 y3 y4 y5) d e (-1)) (Iv.cb (rdB x0 x1 x2 x3 x4 x5) (rdB y0 y1 y2 y3 y4 y5) d e (-1)) (Iv.cb (rdC x0 x1 x2 x3 x4 x5) (rdC y0 y1 y2 y3 y4 y5) d e (-1)) (Nat.lcm d e))], .int .i64 (szE (Iv.cb (rdA x0 x1 x2 x3 x4 x5) (rdA y0 y1 y2 y3 y4 y5) d e (-1)) (Iv.cb (rdB x0 x1 x2 x3 x4 x5) (rdB y0 y1 y2 y3 y4 y5) d e (-1)) (Iv.cb (rdC x0 x1 x2 x3 x4 x5) (rdC y0 y1 y2 y3 y4 y5) d e (-1)) (Nat.lcm d e))]) ∧ Below w.heap.size w w' := by
  have PH := Lib.hid (fun W => ivpair_ok x0 x1 x2 x3 x4 x5 y0 y1 y2 y3 y4 y5 W he hf)
  have bx := rd_bounds x0 x1 x2 x3 x4 x5
  have bY := rd_bounds y0 y1 y2 y3 y4 y5
  have CO := Lib.hid (fun W => ivcombine_minus (rdA x0 x1 x2 x3 x4 x5) (rdB x0 x1 x2 x3 x4 x5) (rdC x0 x1 x2 x3 x4 x5) (rdA y0 y1 y2 y3 y4 y5) (rdB y0 y1 y2 y3 y4 y5) (rdC y0 y1 y2 y3 y4 y5) d e W hd1 hd2 he1 he2 (by omega) (by omega) (by omega) (by omega) (by omega) (by omega) (by omega) (by omega) (by omega) (by omega) (by omega) (by omega))
  have k0 := cb_bd (k := (-1)) (by decide) hd1 hd2 he1 he2 (a := rdA x0 x1 x2 x3 x4 x5) (b := rdA y0 y1 y2 y3 y4 y5) (by omega) (by omega) (by omega) (by omega)
  have k1 := cb_bd (k := (-1)) (by decide) hd1 hd2 he1 he2 (a := rdB x0 x1 x2 x3 x4 x5) (b := rdB y0 y1 y2 y3 y4 y5) (by omega) (by omega) (by omega) (by omega)
  have k2 := cb_bd (k := (-1)) (by decide) hd1 hd2 he1 he2 (a := rdC x0 x1 x2 x3 x4 x5) (b := rdC y0 y1 y2 y3 y4 y5) (by omega) (by omega) (by omega) (by omega)
  have hL0 : 0 < Nat.lcm d e := Nat.lcm_pos hd1 he1
  have hL1 : Nat.lcm d e ≤ 57600 := by
    have h1 : Nat.lcm d e ≤ d * e := Nat.div_le_self _ _
    have h2 : d * e ≤ 240 * 240 := Nat.mul_le_mul hd2 he2
    omega
  have SI := Lib.hid (fun W => ivsize_any (Iv.cb (rdA x0 x1 x2 x3 x4 x5) (rdA y0 y1 y2 y3 y4 y5) d e (-1)) (Iv.cb (rdB x0 x1 x2 x3 x4 x5) (rdB y0 y1 y2 y3 y4 y5) d e (-1)) (Iv.cb (rdC x0 x1 x2 x3 x4 x5) (rdC y0 y1 y2 y3 y4 y5) d e (-1)) (Nat.lcm d e) W (by omega) (by omega) (by omega) (by omega) (by omega) (by omega) hL0 (by omega))
  rw [hd, hg] at PH
  clear bx bY k0 k1 k2 hL0 hL1 hd hg hd1 hd2 he1 he2 he hf
  generalize szN (Iv.cb (rdA x0 x1 x2 x3 x4 x5) (rdA y0 y1 y2 y3 y4 y5) d e (-1)) (Iv.cb (rdA x0 x1 x2 x3 x4 x5) (rdA y0 y1 y2 y3 y4 y5) d e (-1)) (Iv.cb (rdB x0 x1 x2 x3 x4 x5) (rdB y0 y1 y2 y3 y4 y5) d e (-1)) (Iv.cb (rdC x0 x1 x2 x3 x4 x5) (rdC y0 y1 y2 y3 y4 y5) d e (-1)) (Nat.lcm d e) = s0 at *
  generalize szD (Iv.cb (rdA x0 x1 x2 x3 x4 x5) (rdA y0 y1 y2 y3 y4 y5) d e (-1)) (Iv.cb (rdA x0 x1 x2 x3 x4 x5) (rdA y0 y1 y2 y3 y4 y5) d e (-1)) (Iv.cb (rdB x0 x1 x2 x3 x4 x5) (rdB y0 y1 y2 y3 y4 y5) d e (-1)) (Iv.cb (rdC x0 x1 x2 x3 x4 x5) (rdC y0 y1 y2 y3 y4 y5) d e (-1)) (Nat.lcm d e) = s1 at *
  generalize szN (Iv.cb (rdB x0 x1 x2 x3 x4 x5) (rdB y0 y1 y2 y3 y4 y5) d e (-1)) (Iv.cb (rdA x0 x1 x2 x3 x4 x5) (rdA y0 y1 y2 y3 y4 y5) d e (-1)) (Iv.cb (rdB x0 x1 x2 x3 x4 x5) (rdB y0 y1 y2 y3 y4 y5) d e (-1)) (Iv.cb (rdC x0 x1 x2 x3 x4 x5) (rdC y0 y1 y2 y3 y4 y5) d e (-1)) (Nat.lcm d e) = s2 at *
  generalize szD (Iv.cb (rdB x0 x1 x2 x3 x4 x5) (rdB y0 y1 y2 y3 y4 y5) d e (-1)) (Iv.cb (rdA x0 x1 x2 x3 x4 x5) (rdA y0 y1 y2 y3 y4 y5) d e (-1)) (Iv.cb (rdB x0 x1 x2 x3 x4 x5) (rdB y0 y1 y2 y3 y4 y5) d e (-1)) (Iv.cb (rdC x0 x1 x2 x3 x4 x5) (rdC y0 y1 y2 y3 y4 y5) d e (-1)) (Nat.lcm d e) = s3 at *
  generalize szN (Iv.cb (rdC x0 x1 x2 x3 x4 x5) (rdC y0 y1 y2 y3 y4 y5) d e (-1)) (Iv.cb (rdA x0 x1 x2 x3 x4 x5) (rdA y0 y1 y2 y3 y4 y5) d e (-1)) (Iv.cb (rdB x0 x1 x2 x3 x4 x5) (rdB y0 y1 y2 y3 y4 y5) d e (-1)) (Iv.cb (rdC x0 x1 x2 x3 x4 x5) (rdC y0 y1 y2 y3 y4 y5) d e (-1)) (Nat.lcm d e) = s4 at *
  generalize szD (Iv.cb (rdC x0 x1 x2 x3 x4 x5) (rdC y0 y1 y2 y3 y4 y5) d e (-1)) (Iv.cb (rdA x0 x1 x2 x3 x4 x5) (rdA y0 y1 y2 y3 y4 y5) d e (-1)) (Iv.cb (rdB x0 x1 x2 x3 x4 x5) (rdB y0 y1 y2 y3 y4 y5) d e (-1)) (Iv.cb (rdC x0 x1 x2 x3 x4 x5) (rdC y0 y1 y2 y3 y4 y5) d e (-1)) (Nat.lcm d e) = s5 at *
  generalize szE (Iv.cb (rdA x0 x1 x2 x3 x4 x5) (rdA y0 y1 y2 y3 y4 y5) d e (-1)) (Iv.cb (rdB x0 x1 x2 x3 x4 x5) (rdB y0 y1 y2 y3 y4 y5) d e (-1)) (Iv.cb (rdC x0 x1 x2 x3 x4 x5) (rdC y0 y1 y2 y3 y4 y5) d e (-1)) (Nat.lcm d e) = sE at *
  generalize (Iv.cb (rdA x0 x1 x2 x3 x4 x5) (rdA y0 y1 y2 y3 y4 y5) d e (-1)) = ca at *
  generalize (Iv.cb (rdB x0 x1 x2 x3 x4 x5) (rdB y0 y1 y2 y3 y4 y5) d e (-1)) = cb at *
  generalize (Iv.cb (rdC x0 x1 x2 x3 x4 x5) (rdC y0 y1 y2 y3 y4 y5) d e (-1)) = cc at *
  generalize Nat.lcm d e = L at *
  generalize rdA x0 x1 x2 x3 x4 x5 = rdAx at *
  generalize rdA y0 y1 y2 y3 y4 y5 = rdAy at *
  generalize rdB x0 x1 x2 x3 x4 x5 = rdBx at *
  generalize rdB y0 y1 y2 y3 y4 y5 = rdBy at *
  generalize rdC x0 x1 x2 x3 x4 x5 = rdCx at *
  generalize rdC y0 y1 y2 y3 y4 y5 = rdCy at *
  obtain ⟨D, hD⟩ : ∃ D, w.heap.size = D := ⟨_, rfl⟩
  go_enter Tryz.func41, Tryz.ntmps41
  go_wp2_with fail
  refine (PH.out _).mono ?_
  rintro x w1 ⟨rfl, hb1⟩
  have hs1 := hb1.size
  have h1a : w1.heap[D + 1 + 1]? = some (.cells #[.int .i64 0, .int .i64 0, .int .i64 0, .int .i64 0, .int .i64 0, .int .i64 0] 25) := (hb1.block (D + 1 + 1) (by simp [hD])).trans (heap_new (by simp [hD]))
  have hw1a : Below D w w1 := ((((Below.refl _ w).alloc (by omega) _).alloc (by simp; omega) _).alloc (by simp; omega) _).trans (hb1.mono (by simp; omega))
  go_wp2_with fail
  refine (CO.out _).mono ?_
  rintro x w2 ⟨rfl, hb2⟩
  go_wp2_with fail
  refine (SI.out _).mono ?_
  rintro x w3 ⟨rfl, hb3⟩
  have h1b := heap_old (o := .cells #[.int .i64 rdAy, .int .i64 rdBy, .int .i64 rdCy, .int .i64 (e : Int)] 73) (heap_old (o := .cells #[.int .i64 rdAx, .int .i64 rdBx, .int .i64 rdCx, .int .i64 (d : Int)] 73) h1a)
  have hw1b := (hw1a.alloc (by have := hw1a.size; omega) (.cells #[.int .i64 rdAx, .int .i64 rdBx, .int .i64 rdCx, .int .i64 (d : Int)] 73)).alloc (by have := hw1a.size; simp; omega) (.cells #[.int .i64 rdAy, .int .i64 rdBy, .int .i64 rdCy, .int .i64 (e : Int)] 73)
  have hDw := (Array.getElem?_eq_some_iff.1 h1b).1
  have h1c := (hb2.block (D + 1 + 1) hDw).trans h1b
  have hw1c := hw1b.trans (hb2.mono (by have := hw1b.size; omega))
  have h1 := (hb3.block (D + 1 + 1) (Array.getElem?_eq_some_iff.1 h1c).1).trans h1c
  have hw1 := hw1c.trans (hb3.mono (by have := hw1c.size; omega))
  have r0 := cell6_0 h1
  have g0 := free6_0 h1
  have r1 := cell6_1 h1
  have g1 := free6_1 h1
  have r2 := cell6_2 h1
  have g2 := free6_2 h1
  have r3 := cell6_3 h1
  have g3 := free6_3 h1
  have r4 := cell6_4 h1
  have g4 := free6_4 h1
  have r5 := cell6_5 h1
  have g5 := free6_5 h1
  obtain ⟨U, hU⟩ : ∃ U, ((((((w3.setCell ⟨D + 1 + 1, 0, none⟩ (.int .i64 s0)).setCell ⟨D + 1 + 1, 1, none⟩ (.int .i64 s1)).setCell ⟨D + 1 + 1, 2, none⟩ (.int .i64 s2)).setCell ⟨D + 1 + 1, 3, none⟩ (.int .i64 s3)).setCell ⟨D + 1 + 1, 4, none⟩ (.int .i64 s4)).setCell ⟨D + 1 + 1, 5, none⟩ (.int .i64 s5)) = U := ⟨_, rfl⟩
  have HW := Lib.hid (show Below D w U by rw [← hU]; exact ((((((hw1.setCell (p := ⟨D + 1 + 1, 0, none⟩) (show D ≤ D + 1 + 1 by omega) (.int .i64 s0)).setCell (p := ⟨D + 1 + 1, 1, none⟩) (show D ≤ D + 1 + 1 by omega) (.int .i64 s1)).setCell (p := ⟨D + 1 + 1, 2, none⟩) (show D ≤ D + 1 + 1 by omega) (.int .i64 s2)).setCell (p := ⟨D + 1 + 1, 3, none⟩) (show D ≤ D + 1 + 1 by omega) (.int .i64 s3)).setCell (p := ⟨D + 1 + 1, 4, none⟩) (show D ≤ D + 1 + 1 by omega) (.int .i64 s4)).setCell (p := ⟨D + 1 + 1, 5, none⟩) (show D ≤ D + 1 + 1 by omega) (.int .i64 s5)))
  have hE : U.heap[D + 1 + 1]? = some (.cells #[.int .i64 s0, .int .i64 s1, .int .i64 s2, .int .i64 s3, .int .i64 s4, .int .i64 s5] 25) := by rw [← hU]; exact (set6_5 (x := .int .i64 s5) (set6_4 (x := .int .i64 s4) (set6_3 (x := .int .i64 s3) (set6_2 (x := .int .i64 s2) (set6_1 (x := .int .i64 s1) (set6_0 (x := .int .i64 s0) h1))))))
  have HU := Lib.hid hU
  have z0 := cell6_0 hE
  have z1 := cell6_1 hE
  have z2 := cell6_2 hE
  have z3 := cell6_3 hE
  have z4 := cell6_4 hE
  have z5 := cell6_5 hE
  clear h1 hE hU h1a h1b h1c hw1a hw1b hw1c hw1 hb1 hb2 hb3 hs1 hDw
  go_wp2
  rw [HU.out]
  refine bodyPost_ret (v := .tuple #[.agg #[.int .i64 s0, .int .i64 s1, .int .i64 s2, .int .i64 s3, .int .i64 s4, .int .i64 s5], .int .i64 sE]) (by simp [results, Tryz.results41, go_sem, z0, z1, z2, z3, z4, z5]) rfl ⟨rfl, by rw [hD]; exact HW.out⟩
set_option maxRecDepth 10000 in
set_option maxHeartbeats 4000000 in
theorem ivsub_e1 (x0 x1 x2 x3 x4 x5 y0 y1 y2 y3 y4 y5 : Int) (w : World) (he : Iv.rdE x0 x1 x2 x3 x4 x5 ≠ 0) :
    Calls Tryz.prog 17 #[.agg #[.int .i64 x0, .int .i64 x1, .int .i64 x2, .int .i64 x3, .int .i64 x4, .int .i64 x5], .agg #[.int .i64 y0, .int .i64 y1, .int .i64 y2, .int .i64 y3, .int .i64 y4, .int .i64 y5]] w fun x w' => x = .returned (.tuple #[.agg #[.int .i64 0, .int .i64 0, .int .i64 0, .int .i64 0, .int .i64 0, .int .i64 0], .int .i64 (Iv.rdE x0 x1 x2 x3 x4 x5)]) ∧ Below w.heap.size w w' := by
  have CH := Lib.hid (fun W => ivcombined_err _ _ (.func (.func 43) #[] #[]) x0 x1 x2 x3 x4 x5 y0 y1 y2 y3 y4 y5 (Iv.rdE x0 x1 x2 x3 x4 x5) rfl rfl W he (fun W => ivpair_e1 x0 x1 x2 x3 x4 x5 y0 y1 y2 y3 y4 y5 W he))
  generalize Iv.rdE x0 x1 x2 x3 x4 x5 = E at *
  obtain ⟨D, hD⟩ : ∃ D, w.heap.size = D := ⟨_, rfl⟩
  go_enter Tryz.func17, Tryz.ntmps17
  go_wp2_with fail
  refine (CH.out _).mono ?_
  rintro x w1 ⟨rfl, hb1⟩
  have h1 : w1.heap[D + 1 + 1]? = some (.cells #[.int .i64 0, .int .i64 0, .int .i64 0, .int .i64 0, .int .i64 0, .int .i64 0] 25) := (hb1.block (D + 1 + 1) (by simp [hD])).trans (heap_new (by simp [hD]))
  have hw1 : Below D w w1 := ((((Below.refl _ w).alloc (by omega) _).alloc (by simp; omega) _).alloc (by simp; omega) _).trans (hb1.mono (by simp; omega))
  have r0 := cell6_0 h1
  have g0 := free6_0 h1
  have r1 := cell6_1 h1
  have g1 := free6_1 h1
  have r2 := cell6_2 h1
  have g2 := free6_2 h1
  have r3 := cell6_3 h1
  have g3 := free6_3 h1
  have r4 := cell6_4 h1
  have g4 := free6_4 h1
  have r5 := cell6_5 h1
  have g5 := free6_5 h1
  obtain ⟨U, hU⟩ : ∃ U, ((((((w1.setCell ⟨D + 1 + 1, 0, none⟩ (.int .i64 0)).setCell ⟨D + 1 + 1, 1, none⟩ (.int .i64 0)).setCell ⟨D + 1 + 1, 2, none⟩ (.int .i64 0)).setCell ⟨D + 1 + 1, 3, none⟩ (.int .i64 0)).setCell ⟨D + 1 + 1, 4, none⟩ (.int .i64 0)).setCell ⟨D + 1 + 1, 5, none⟩ (.int .i64 0)) = U := ⟨_, rfl⟩
  have HW := Lib.hid (show Below D w U by rw [← hU]; exact ((((((hw1.setCell (p := ⟨D + 1 + 1, 0, none⟩) (show D ≤ D + 1 + 1 by omega) (.int .i64 0)).setCell (p := ⟨D + 1 + 1, 1, none⟩) (show D ≤ D + 1 + 1 by omega) (.int .i64 0)).setCell (p := ⟨D + 1 + 1, 2, none⟩) (show D ≤ D + 1 + 1 by omega) (.int .i64 0)).setCell (p := ⟨D + 1 + 1, 3, none⟩) (show D ≤ D + 1 + 1 by omega) (.int .i64 0)).setCell (p := ⟨D + 1 + 1, 4, none⟩) (show D ≤ D + 1 + 1 by omega) (.int .i64 0)).setCell (p := ⟨D + 1 + 1, 5, none⟩) (show D ≤ D + 1 + 1 by omega) (.int .i64 0)))
  have hE : U.heap[D + 1 + 1]? = some (.cells #[.int .i64 0, .int .i64 0, .int .i64 0, .int .i64 0, .int .i64 0, .int .i64 0] 25) := by rw [← hU]; exact (set6_5 (x := .int .i64 0) (set6_4 (x := .int .i64 0) (set6_3 (x := .int .i64 0) (set6_2 (x := .int .i64 0) (set6_1 (x := .int .i64 0) (set6_0 (x := .int .i64 0) h1))))))
  have HU := Lib.hid hU
  have z0 := cell6_0 hE
  have z1 := cell6_1 hE
  have z2 := cell6_2 hE
  have z3 := cell6_3 hE
  have z4 := cell6_4 hE
  have z5 := cell6_5 hE
  clear h1 hE hU hw1 hb1
  go_wp2
  rw [HU.out]
  refine bodyPost_ret (v := .tuple #[.agg #[.int .i64 0, .int .i64 0, .int .i64 0, .int .i64 0, .int .i64 0, .int .i64 0], .int .i64 E]) (by simp [results, Tryz.results17, go_sem, z0, z1, z2, z3, z4, z5]) rfl ⟨rfl, by rw [hD]; exact HW.out⟩
set_option maxRecDepth 10000 in
set_option maxHeartbeats 4000000 in
theorem ivsub_e2 (x0 x1 x2 x3 x4 x5 y0 y1 y2 y3 y4 y5 : Int) (w : World) (he : Iv.rdE x0 x1 x2 x3 x4 x5 = 0) (hf : Iv.rdE y0 y1 y2 y3 y4 y5 ≠ 0) :
    Calls Tryz.prog 17 #[.agg #[.int .i64 x0, .int .i64 x1, .int .i64 x2, .int .i64 x3, .int .i64 x4, .int .i64 x5], .agg #[.int .i64 y0, .int .i64 y1, .int .i64 y2, .int .i64 y3, .int .i64 y4, .int .i64 y5]] w fun x w' => x = .returned (.tuple #[.agg #[.int .i64 0, .int .i64 0, .int .i64 0, .int .i64 0, .int .i64 0, .int .i64 0], .int .i64 (Iv.rdE y0 y1 y2 y3 y4 y5)]) ∧ Below w.heap.size w w' := by
  have CH := Lib.hid (fun W => ivcombined_err _ _ (.func (.func 43) #[] #[]) x0 x1 x2 x3 x4 x5 y0 y1 y2 y3 y4 y5 (Iv.rdE y0 y1 y2 y3 y4 y5) rfl rfl W hf (fun W => ivpair_e2 x0 x1 x2 x3 x4 x5 y0 y1 y2 y3 y4 y5 W he hf))
  generalize Iv.rdE y0 y1 y2 y3 y4 y5 = E at *
  obtain ⟨D, hD⟩ : ∃ D, w.heap.size = D := ⟨_, rfl⟩
  go_enter Tryz.func17, Tryz.ntmps17
  go_wp2_with fail
  refine (CH.out _).mono ?_
  rintro x w1 ⟨rfl, hb1⟩
  have h1 : w1.heap[D + 1 + 1]? = some (.cells #[.int .i64 0, .int .i64 0, .int .i64 0, .int .i64 0, .int .i64 0, .int .i64 0] 25) := (hb1.block (D + 1 + 1) (by simp [hD])).trans (heap_new (by simp [hD]))
  have hw1 : Below D w w1 := ((((Below.refl _ w).alloc (by omega) _).alloc (by simp; omega) _).alloc (by simp; omega) _).trans (hb1.mono (by simp; omega))
  have r0 := cell6_0 h1
  have g0 := free6_0 h1
  have r1 := cell6_1 h1
  have g1 := free6_1 h1
  have r2 := cell6_2 h1
  have g2 := free6_2 h1
  have r3 := cell6_3 h1
  have g3 := free6_3 h1
  have r4 := cell6_4 h1
  have g4 := free6_4 h1
  have r5 := cell6_5 h1
  have g5 := free6_5 h1
  obtain ⟨U, hU⟩ : ∃ U, ((((((w1.setCell ⟨D + 1 + 1, 0, none⟩ (.int .i64 0)).setCell ⟨D + 1 + 1, 1, none⟩ (.int .i64 0)).setCell ⟨D + 1 + 1, 2, none⟩ (.int .i64 0)).setCell ⟨D + 1 + 1, 3, none⟩ (.int .i64 0)).setCell ⟨D + 1 + 1, 4, none⟩ (.int .i64 0)).setCell ⟨D + 1 + 1, 5, none⟩ (.int .i64 0)) = U := ⟨_, rfl⟩
  have HW := Lib.hid (show Below D w U by rw [← hU]; exact ((((((hw1.setCell (p := ⟨D + 1 + 1, 0, none⟩) (show D ≤ D + 1 + 1 by omega) (.int .i64 0)).setCell (p := ⟨D + 1 + 1, 1, none⟩) (show D ≤ D + 1 + 1 by omega) (.int .i64 0)).setCell (p := ⟨D + 1 + 1, 2, none⟩) (show D ≤ D + 1 + 1 by omega) (.int .i64 0)).setCell (p := ⟨D + 1 + 1, 3, none⟩) (show D ≤ D + 1 + 1 by omega) (.int .i64 0)).setCell (p := ⟨D + 1 + 1, 4, none⟩) (show D ≤ D + 1 + 1 by omega) (.int .i64 0)).setCell (p := ⟨D + 1 + 1, 5, none⟩) (show D ≤ D + 1 + 1 by omega) (.int .i64 0)))
  have hE : U.heap[D + 1 + 1]? = some (.cells #[.int .i64 0, .int .i64 0, .int .i64 0, .int .i64 0, .int .i64 0, .int .i64 0] 25) := by rw [← hU]; exact (set6_5 (x := .int .i64 0) (set6_4 (x := .int .i64 0) (set6_3 (x := .int .i64 0) (set6_2 (x := .int .i64 0) (set6_1 (x := .int .i64 0) (set6_0 (x := .int .i64 0) h1))))))
  have HU := Lib.hid hU
  have z0 := cell6_0 hE
  have z1 := cell6_1 hE
  have z2 := cell6_2 hE
  have z3 := cell6_3 hE
  have z4 := cell6_4 hE
  have z5 := cell6_5 hE
  clear h1 hE hU hw1 hb1
  go_wp2
  rw [HU.out]
  refine bodyPost_ret (v := .tuple #[.agg #[.int .i64 0, .int .i64 0, .int .i64 0, .int .i64 0, .int .i64 0, .int .i64 0], .int .i64 E]) (by simp [results, Tryz.results17, go_sem, z0, z1, z2, z3, z4, z5]) rfl ⟨rfl, by rw [hD]; exact HW.out⟩
set_option maxRecDepth 10000 in
set_option maxHeartbeats 4000000 in
theorem ivsub_ok (x0 x1 x2 x3 x4 x5 y0 y1 y2 y3 y4 y5 : Int) (d e : Nat) (w : World) (he : Iv.rdE x0 x1 x2 x3 x4 x5 = 0) (hf : Iv.rdE y0 y1 y2 y3 y4 y5 = 0) (hd : rdD x0 x1 x2 x3 x4 x5 = (d : Int)) (hd1 : 0 < d) (hd2 : d ≤ 240) (hg : rdD y0 y1 y2 y3 y4 y5 = (e : Int)) (he1 : 0 < e) (he2 : e ≤ 240) :
    Calls Tryz.prog 17 #[.agg #[.int .i64 x0, .int .i64 x1, .int .i64 x2, .int .i64 x3, .int .i64 x4, .int .i64 x5], .agg #[.int .i64 y0, .int .i64 y1, .int .i64 y2, .int .i64 y3, .int .i64 y4, .int .i64 y5]] w fun x w' => x = .returned (.tuple #[.agg #[.int .i64 (szN (Iv.cb (rdA x0 x1 x2 x3 x4 x5) (rdA y0 y1 y2 y3 y4 y5) d e (-1)) (Iv.cb (rdA x0 x1 x2 x3 x4 x5) (rdA y0 y1 y2 y3 y4 y5) d e (-1)) (Iv.cb (rdB x0 x1 x2 x3 x4 x5) (rdB y0 y1 y2 y3 y4 y5) d e (-1)) (Iv.cb (rdC x0 x1 x2 x3 x4 x5) (rdC y0 y1 y2 y3 y4 y5) d e (-1)) (Nat.lcm d e)), .int .i64 (szD (Iv.cb (rdA x0 x1 x2 x3 x4 x5) (rdA y0 y1 y2 y3 y4 y5) d e (-1)) (Iv.cb (rdA x0 x1 x2 x3 x4 x5) (rdA y0 y1 y2 y3 y4 y5) d e (-1)) (Iv.cb (rdB x0 x1 x2 x3 x4 x5) (rdB y0 y1 y2 y3 y4 y5) d e (-1)) (Iv.cb (rdC x0 x1 x2 x3 x4 x5) (rdC y0 y1 y2 y3 y4 y5) d e (-1)) (Nat.lcm d e)), .int .i64 (szN (Iv.cb (rdB x0 x1 x2 x3 x4 x5) (rdB y0 y1 y2 y3 y4 y5) d e (-1)) (Iv.cb (rdA x0 x1 x2 x3 x4 x5) (rdA y0 y1 y2 y3 y4 y5) d e (-1)) (Iv.cb (rdB x0 x1 x2 x3 x4 x5) (rdB y0 y1 y2 y3 y4 y5) d e (-1)) (Iv.cb (rdC x0 x1 x2 x3 x4 x5) (rdC y0 y1 y2 y3 y4 y5) d e (-1)) (Nat.lcm d e)), .int .i64 (szD (Iv.cb (rdB x0 x1 x2 x3 x4 x5) (rdB y0 y1 y2 y3 y4 y5) d e (-1)) (Iv.cb (rdA x0 x1 x2 x3 x4 x5) (rdA y0 y1 y2 y3 y4 y5) d e (-1)) (Iv.cb (rdB x0 x1 x2 x3 x4 x5) (rdB y0 y1 y2 y3 y4 y5) d e (-1)) (Iv.cb (rdC x0 x1 x2 x3 x4 x5) (rdC y0 y1 y2 y3 y4 y5) d e (-1)) (Nat.lcm d e)), .int .i64 (szN (Iv.cb (rdC x0 x1 x2 x3 x4 x5) (rdC y0 y1 y2 y3 y4 y5) d e (-1)) (Iv.cb (rdA x0 x1 x2 x3 x4 x5) (rdA y0 y1 y2 y3 y4 y5) d e (-1)) (Iv.cb (rdB x0 x1 x2 x3 x4 x5) (rdB y0 y1 y2 y3 y4 y5) d e (-1)) (Iv.cb (rdC x0 x1 x2 x3 x4 x5) (rdC y0 y1 y2 y3 y4 y5) d e (-1)) (Nat.lcm d e)), .int .i64 (szD (Iv.cb (rdC x0 x1 x2 x3 x4 x5) (rdC y0 y1 y2 y3 y4 y5) d e (-1)) (Iv.cb (rdA x0 x1 x2 x3 x4 x5) (rdA y0 y1 y2 y3 y4 y5) d e (-1)) (Iv.cb (rdB x0 x1 x2 x3 x4 x5) (rdB y0 y1 y2 y3 y4 y5) d e (-1)) (Iv.cb (rdC x0 x1 x2 x3 x4 x5) (rdC y0 y1 y2 y3 y4 y5) d e (-1)) (Nat.lcm d e))], .int .i64 (szE (Iv.cb (rdA x0 x1 x2 x3 x4 x5) (rdA y0 y1 y2 y3 y4 y5) d e (-1)) (Iv.cb (rdB x0 x1 x2 x3 x4 x5) (rdB y0 y1 y2 y3 y4 y5) d e (-1)) (Iv.cb (rdC x0 x1 x2 x3 x4 x5) (rdC y0 y1 y2 y3 y4 y5) d e (-1)) (Nat.lcm d e))]) ∧ Below w.heap.size w w' := by
  have CH := Lib.hid (fun W => ivcombined_minus x0 x1 x2 x3 x4 x5 y0 y1 y2 y3 y4 y5 d e W he hf hd hd1 hd2 hg he1 he2)
  generalize szN (Iv.cb (rdA x0 x1 x2 x3 x4 x5) (rdA y0 y1 y2 y3 y4 y5) d e (-1)) (Iv.cb (rdA x0 x1 x2 x3 x4 x5) (rdA y0 y1 y2 y3 y4 y5) d e (-1)) (Iv.cb (rdB x0 x1 x2 x3 x4 x5) (rdB y0 y1 y2 y3 y4 y5) d e (-1)) (Iv.cb (rdC x0 x1 x2 x3 x4 x5) (rdC y0 y1 y2 y3 y4 y5) d e (-1)) (Nat.lcm d e) = s0 at *
  generalize szD (Iv.cb (rdA x0 x1 x2 x3 x4 x5) (rdA y0 y1 y2 y3 y4 y5) d e (-1)) (Iv.cb (rdA x0 x1 x2 x3 x4 x5) (rdA y0 y1 y2 y3 y4 y5) d e (-1)) (Iv.cb (rdB x0 x1 x2 x3 x4 x5) (rdB y0 y1 y2 y3 y4 y5) d e (-1)) (Iv.cb (rdC x0 x1 x2 x3 x4 x5) (rdC y0 y1 y2 y3 y4 y5) d e (-1)) (Nat.lcm d e) = s1 at *
  generalize szN (Iv.cb (rdB x0 x1 x2 x3 x4 x5) (rdB y0 y1 y2 y3 y4 y5) d e (-1)) (Iv.cb (rdA x0 x1 x2 x3 x4 x5) (rdA y0 y1 y2 y3 y4 y5) d e (-1)) (Iv.cb (rdB x0 x1 x2 x3 x4 x5) (rdB y0 y1 y2 y3 y4 y5) d e (-1)) (Iv.cb (rdC x0 x1 x2 x3 x4 x5) (rdC y0 y1 y2 y3 y4 y5) d e (-1)) (Nat.lcm d e) = s2 at *
  generalize szD (Iv.cb (rdB x0 x1 x2 x3 x4 x5) (rdB y0 y1 y2 y3 y4 y5) d e (-1)) (Iv.cb (rdA x0 x1 x2 x3 x4 x5) (rdA y0 y1 y2 y3 y4 y5) d e (-1)) (Iv.cb (rdB x0 x1 x2 x3 x4 x5) (rdB y0 y1 y2 y3 y4 y5) d e (-1)) (Iv.cb (rdC x0 x1 x2 x3 x4 x5) (rdC y0 y1 y2 y3 y4 y5) d e (-1)) (Nat.lcm d e) = s3 at *
  generalize szN (Iv.cb (rdC x0 x1 x2 x3 x4 x5) (rdC y0 y1 y2 y3 y4 y5) d e (-1)) (Iv.cb (rdA x0 x1 x2 x3 x4 x5) (rdA y0 y1 y2 y3 y4 y5) d e (-1)) (Iv.cb (rdB x0 x1 x2 x3 x4 x5) (rdB y0 y1 y2 y3 y4 y5) d e (-1)) (Iv.cb (rdC x0 x1 x2 x3 x4 x5) (rdC y0 y1 y2 y3 y4 y5) d e (-1)) (Nat.lcm d e) = s4 at *
  generalize szD (Iv.cb (rdC x0 x1 x2 x3 x4 x5) (rdC y0 y1 y2 y3 y4 y5) d e (-1)) (Iv.cb (rdA x0 x1 x2 x3 x4 x5) (rdA y0 y1 y2 y3 y4 y5) d e (-1)) (Iv.cb (rdB x0 x1 x2 x3 x4 x5) (rdB y0 y1 y2 y3 y4 y5) d e (-1)) (Iv.cb (rdC x0 x1 x2 x3 x4 x5) (rdC y0 y1 y2 y3 y4 y5) d e (-1)) (Nat.lcm d e) = s5 at *
  generalize szE (Iv.cb (rdA x0 x1 x2 x3 x4 x5) (rdA y0 y1 y2 y3 y4 y5) d e (-1)) (Iv.cb (rdB x0 x1 x2 x3 x4 x5) (rdB y0 y1 y2 y3 y4 y5) d e (-1)) (Iv.cb (rdC x0 x1 x2 x3 x4 x5) (rdC y0 y1 y2 y3 y4 y5) d e (-1)) (Nat.lcm d e) = sE at *
  obtain ⟨D, hD⟩ : ∃ D, w.heap.size = D := ⟨_, rfl⟩
  go_enter Tryz.func17, Tryz.ntmps17
  go_wp2_with fail
  refine (CH.out _).mono ?_
  rintro x w1 ⟨rfl, hb1⟩
  have h1 : w1.heap[D + 1 + 1]? = some (.cells #[.int .i64 0, .int .i64 0, .int .i64 0, .int .i64 0, .int .i64 0, .int .i64 0] 25) := (hb1.block (D + 1 + 1) (by simp [hD])).trans (heap_new (by simp [hD]))
  have hw1 : Below D w w1 := ((((Below.refl _ w).alloc (by omega) _).alloc (by simp; omega) _).alloc (by simp; omega) _).trans (hb1.mono (by simp; omega))
  have r0 := cell6_0 h1
  have g0 := free6_0 h1
  have r1 := cell6_1 h1
  have g1 := free6_1 h1
  have r2 := cell6_2 h1
  have g2 := free6_2 h1
  have r3 := cell6_3 h1
  have g3 := free6_3 h1
  have r4 := cell6_4 h1
  have g4 := free6_4 h1
  have r5 := cell6_5 h1
  have g5 := free6_5 h1
  obtain ⟨U, hU⟩ : ∃ U, ((((((w1.setCell ⟨D + 1 + 1, 0, none⟩ (.int .i64 s0)).setCell ⟨D + 1 + 1, 1, none⟩ (.int .i64 s1)).setCell ⟨D + 1 + 1, 2, none⟩ (.int .i64 s2)).setCell ⟨D + 1 + 1, 3, none⟩ (.int .i64 s3)).setCell ⟨D + 1 + 1, 4, none⟩ (.int .i64 s4)).setCell ⟨D + 1 + 1, 5, none⟩ (.int .i64 s5)) = U := ⟨_, rfl⟩
  have HW := Lib.hid (show Below D w U by rw [← hU]; exact ((((((hw1.setCell (p := ⟨D + 1 + 1, 0, none⟩) (show D ≤ D + 1 + 1 by omega) (.int .i64 s0)).setCell (p := ⟨D + 1 + 1, 1, none⟩) (show D ≤ D + 1 + 1 by omega) (.int .i64 s1)).setCell (p := ⟨D + 1 + 1, 2, none⟩) (show D ≤ D + 1 + 1 by omega) (.int .i64 s2)).setCell (p := ⟨D + 1 + 1, 3, none⟩) (show D ≤ D + 1 + 1 by omega) (.int .i64 s3)).setCell (p := ⟨D + 1 + 1, 4, none⟩) (show D ≤ D + 1 + 1 by omega) (.int .i64 s4)).setCell (p := ⟨D + 1 + 1, 5, none⟩) (show D ≤ D + 1 + 1 by omega) (.int .i64 s5)))
  have hE : U.heap[D + 1 + 1]? = some (.cells #[.int .i64 s0, .int .i64 s1, .int .i64 s2, .int .i64 s3, .int .i64 s4, .int .i64 s5] 25) := by rw [← hU]; exact (set6_5 (x := .int .i64 s5) (set6_4 (x := .int .i64 s4) (set6_3 (x := .int .i64 s3) (set6_2 (x := .int .i64 s2) (set6_1 (x := .int .i64 s1) (set6_0 (x := .int .i64 s0) h1))))))
  have HU := Lib.hid hU
  have z0 := cell6_0 hE
  have z1 := cell6_1 hE
  have z2 := cell6_2 hE
  have z3 := cell6_3 hE
  have z4 := cell6_4 hE
  have z5 := cell6_5 hE
  clear h1 hE hU hw1 hb1
  go_wp2
  rw [HU.out]
  refine bodyPost_ret (v := .tuple #[.agg #[.int .i64 s0, .int .i64 s1, .int .i64 s2, .int .i64 s3, .int .i64 s4, .int .i64 s5], .int .i64 sE]) (by simp [results, Tryz.results17, go_sem, z0, z1, z2, z3, z4, z5]) rfl ⟨rfl, by rw [hD]; exact HW.out⟩
end Go.Proofs.YthdoadkdofgenaaGreatDoor
