/- The contract of combine. -/
import Derived.Test.YthdoadkdofgenaaGreatDoorIvF
namespace Go.Proofs.YthdoadkdofgenaaGreatDoor
open Go Go.RowKit Go.Shelf

theorem mul_bd {a : Int} {u B C : Nat} (h1 : -(B : Int) ≤ a) (h2 : a ≤ B) (hu : u ≤ C) : -((B * C : Nat) : Int) ≤ a * (u : Int) ∧ a * (u : Int) ≤ ((B * C : Nat) : Int) := by
  have h : (a * (u : Int)).natAbs ≤ B * C := by
    rw [Int.natAbs_mul, Int.natAbs_natCast]
    exact Nat.mul_le_mul (by omega) hu
  omega

set_option maxRecDepth 10000 in
set_option maxHeartbeats 4000000 in
theorem ivcombine_plus (a b c p q r : Int) (d e : Nat) (w : World) (hd1 : 0 < d) (hd2 : d ≤ 240) (he1 : 0 < e) (he2 : e ≤ 240) (a1 : -6000 ≤ a) (a2 : a ≤ 6000) (b1 : -6000 ≤ b) (b2 : b ≤ 6000) (c1 : -6000 ≤ c) (c2 : c ≤ 6000) (p1 : -6000 ≤ p) (p2 : p ≤ 6000) (q1 : -6000 ≤ q) (q2 : q ≤ 6000) (r1 : -6000 ≤ r) (r2 : r ≤ 6000) :
    Calls Tryz.prog 49 #[.agg #[.int .i64 a, .int .i64 b, .int .i64 c, .int .i64 (d : Int)], .agg #[.int .i64 p, .int .i64 q, .int .i64 r, .int .i64 (e : Int)], .func (.func 42) #[] #[]] w fun e' w' => e' = .returned (.agg #[.int .i64 (Iv.cb a p d e 1), .int .i64 (Iv.cb b q d e 1), .int .i64 (Iv.cb c r d e 1), .int .i64 (Nat.lcm d e : Nat)]) ∧ Below w.heap.size w w' := by
  have hde : d * e ≤ 240 * 240 := Nat.mul_le_mul hd2 he2
  have hLl : Nat.lcm d e ≤ d * e := Nat.div_le_self _ _
  have ML := Lib.hid (fun W => ivmultiple_any d e W hd1 he1 (by omega) (by omega) (by omega))
  have hu : Nat.lcm d e / d ≤ 240 := Nat.le_trans (lcm_over hd1) he2
  have hv : Nat.lcm d e / e ≤ 240 := by rw [Nat.lcm_comm]; exact Nat.le_trans (lcm_over he1) hd2
  have eu : ((Nat.lcm d e : Nat) : Int).tdiv (d : Int) = ((Nat.lcm d e / d : Nat) : Int) := by simp
  have ev : ((Nat.lcm d e : Nat) : Int).tdiv (e : Int) = ((Nat.lcm d e / e : Nat) : Int) := by simp
  have bx0 := mul_bd (B := 6000) a1 a2 hu
  have by0 := mul_bd (B := 6000) p1 p2 hv
  have es0 : Iv.cb a p d e 1 = a * ((Nat.lcm d e / d : Nat) : Int) + p * ((Nat.lcm d e / e : Nat) : Int) := by unfold Iv.cb; rw [Int.one_mul]
  have bx1 := mul_bd (B := 6000) b1 b2 hu
  have by1 := mul_bd (B := 6000) q1 q2 hv
  have es1 : Iv.cb b q d e 1 = b * ((Nat.lcm d e / d : Nat) : Int) + q * ((Nat.lcm d e / e : Nat) : Int) := by unfold Iv.cb; rw [Int.one_mul]
  have bx2 := mul_bd (B := 6000) c1 c2 hu
  have by2 := mul_bd (B := 6000) r1 r2 hv
  have es2 : Iv.cb c r d e 1 = c * ((Nat.lcm d e / d : Nat) : Int) + r * ((Nat.lcm d e / e : Nat) : Int) := by unfold Iv.cb; rw [Int.one_mul]
  rw [es0, es1, es2]
  clear es0 es1 es2
  generalize Nat.lcm d e / d = u at *
  generalize Nat.lcm d e / e = v at *
  generalize Nat.lcm d e = L at *
  obtain ⟨x0, ex0⟩ : ∃ x, a * (u : Int) = x := ⟨_, rfl⟩
  obtain ⟨y0, ey0⟩ : ∃ y, p * (v : Int) = y := ⟨_, rfl⟩
  rw [ex0] at bx0 ⊢
  rw [ey0] at by0 ⊢
  have OP0 := Lib.hid (fun W => ivplus_any x0 y0 W (by omega) (by omega))
  have x0a : -9223372036854775808 ≤ x0 := by omega
  have x0b : x0 ≤ 9223372036854775807 := by omega
  have wx0 := wrap_in x0a x0b
  have y0a : -9223372036854775808 ≤ y0 := by omega
  have y0b : y0 ≤ 9223372036854775807 := by omega
  have wy0 := wrap_in y0a y0b
  obtain ⟨x1, ex1⟩ : ∃ x, b * (u : Int) = x := ⟨_, rfl⟩
  obtain ⟨y1, ey1⟩ : ∃ y, q * (v : Int) = y := ⟨_, rfl⟩
  rw [ex1] at bx1 ⊢
  rw [ey1] at by1 ⊢
  have OP1 := Lib.hid (fun W => ivplus_any x1 y1 W (by omega) (by omega))
  have x1a : -9223372036854775808 ≤ x1 := by omega
  have x1b : x1 ≤ 9223372036854775807 := by omega
  have wx1 := wrap_in x1a x1b
  have y1a : -9223372036854775808 ≤ y1 := by omega
  have y1b : y1 ≤ 9223372036854775807 := by omega
  have wy1 := wrap_in y1a y1b
  obtain ⟨x2, ex2⟩ : ∃ x, c * (u : Int) = x := ⟨_, rfl⟩
  obtain ⟨y2, ey2⟩ : ∃ y, r * (v : Int) = y := ⟨_, rfl⟩
  rw [ex2] at bx2 ⊢
  rw [ey2] at by2 ⊢
  have OP2 := Lib.hid (fun W => ivplus_any x2 y2 W (by omega) (by omega))
  have x2a : -9223372036854775808 ≤ x2 := by omega
  have x2b : x2 ≤ 9223372036854775807 := by omega
  have wx2 := wrap_in x2a x2b
  have y2a : -9223372036854775808 ≤ y2 := by omega
  have y2b : y2 ≤ 9223372036854775807 := by omega
  have wy2 := wrap_in y2a y2b
  have hdz : ¬ (d : Int) = 0 := by omega
  have hdn : ¬ d = 0 := by omega
  have hen : ¬ e = 0 := by omega
  have hez : ¬ (e : Int) = 0 := by omega
  have hdm : ¬ (d : Int) = -1 := by omega
  have hem : ¬ (e : Int) = -1 := by omega
  have ua : (u : Int) ≤ 9223372036854775807 := by omega
  have va : (v : Int) ≤ 9223372036854775807 := by omega
  clear bx0 bx1 bx2 by0 by1 by2 hde hLl a1 a2 b1 b2 c1 c2 p1 p2 q1 q2 r1 r2
  obtain ⟨D, hD⟩ : ∃ D, w.heap.size = D := ⟨_, rfl⟩
  go_enter Tryz.func49, Tryz.ntmps49
  go_wp2_with fail
  refine (ML.out _).mono ?_
  rintro e' w1 ⟨rfl, n, rfl⟩
  go_wp2_with fail
  obtain ⟨V, hV⟩ : ∃ V, (((((w.alloc (.cells #[.int .i64 a, .int .i64 b, .int .i64 c, .int .i64 (d : Int)] 73)).alloc (.cells #[.int .i64 p, .int .i64 q, .int .i64 r, .int .i64 (e : Int)] 73)).alloc (.cells #[.int .i64 0, .int .i64 0, .int .i64 0, .int .i64 0] 73)).drewN n).alloc (.cells #[.int .i64 0, .int .i64 0, .int .i64 0, .int .i64 (L : Int)] 73)) = V := ⟨_, rfl⟩
  have hwV : Below D w V := by rw [← hV]; exact (((((Below.refl _ w).alloc (by omega) _).alloc (by simp; omega) _).alloc (by simp; omega) _).trans ((drew_below' _ n).mono (by simp; omega))).alloc (by simp; omega) _
  have h0V : V.heap[D]? = some (.cells #[.int .i64 a, .int .i64 b, .int .i64 c, .int .i64 (d : Int)] 73) := by rw [← hV]; exact heap_old (X := World.drewN _ n) (heap_old (heap_old (heap_new hD.symm)))
  have h1V : V.heap[D + 1]? = some (.cells #[.int .i64 p, .int .i64 q, .int .i64 r, .int .i64 (e : Int)] 73) := by rw [← hV]; exact heap_old (X := World.drewN _ n) (heap_old (heap_new (by simp [hD])))
  have h2V : V.heap[D + 1 + 1]? = some (.cells #[.int .i64 0, .int .i64 0, .int .i64 0, .int .i64 0] 73) := by rw [← hV]; exact heap_old (X := World.drewN _ n) (heap_new (by simp [hD]))
  have h3V : V.heap[D + 1 + 1 + 1]? = some (.cells #[.int .i64 0, .int .i64 0, .int .i64 0, .int .i64 (L : Int)] 73) := by rw [← hV]; exact heap_new (X := World.drewN _ n) (by simp [hD])
  rw [hV]
  clear hV
  go_loopw [17] (fun i wr => ((i = .int .i64 0 ∧ wr.heap[D + 1 + 1 + 1]? = some (.cells #[.int .i64 0, .int .i64 0, .int .i64 0, .int .i64 (L : Int)] 73)) ∨ (i = .int .i64 1 ∧ wr.heap[D + 1 + 1 + 1]? = some (.cells #[.int .i64 (x0 + y0), .int .i64 0, .int .i64 0, .int .i64 (L : Int)] 73)) ∨ (i = .int .i64 2 ∧ wr.heap[D + 1 + 1 + 1]? = some (.cells #[.int .i64 (x0 + y0), .int .i64 (x1 + y1), .int .i64 0, .int .i64 (L : Int)] 73)) ∨ (i = .int .i64 3 ∧ wr.heap[D + 1 + 1 + 1]? = some (.cells #[.int .i64 (x0 + y0), .int .i64 (x1 + y1), .int .i64 (x2 + y2), .int .i64 (L : Int)] 73))) ∧ Below D w wr ∧ wr.heap[D]? = some (.cells #[.int .i64 a, .int .i64 b, .int .i64 c, .int .i64 (d : Int)] 73) ∧ wr.heap[D + 1]? = some (.cells #[.int .i64 p, .int .i64 q, .int .i64 r, .int .i64 (e : Int)] 73) ∧ wr.heap[D + 1 + 1]? = some (.cells #[.int .i64 0, .int .i64 0, .int .i64 0, .int .i64 0] 73)) (fun i _ => 3 - (intOf i).toNat)
  case atStart => exact ⟨.inl ⟨rfl, h3V⟩, hwV, h0V, h1V, h2V⟩
  case round =>
    obtain ⟨hk, hw, h0, h1, h2⟩ := hrel
    clear hwV h0V h1V h2V h3V
    rcases hk with ⟨rfl, h3⟩ | ⟨rfl, h3⟩ | ⟨rfl, h3⟩ | ⟨rfl, h3⟩
    · have c0 := cell4_0 h0
      have c1 := cell4_3 h0
      have c2 := cell4_0 h1
      have c3 := cell4_3 h1
      have c4 := cell4_3 h3
      go_wp2_with (go_quiet (fail))
      refine (OP0.out _).mono ?_
      rintro e' w5 ⟨rfl, rfl⟩
      have m0 := cell4_0 h3
      have f0 := free4_0 h3
      have H3 := Lib.hid (fun nq => set4_0 (W := wr.drewN nq) (x := .int .i64 (x0 + y0)) h3)
      have H0 := Lib.hid (fun nq => (set_other (W := wr.drewN nq) (b := D + 1 + 1 + 1) (o := 0) (x := .int .i64 (x0 + y0)) (show D ≠ D + 1 + 1 + 1 by omega)).trans h0)
      have H1 := Lib.hid (fun nq => (set_other (W := wr.drewN nq) (b := D + 1 + 1 + 1) (o := 0) (x := .int .i64 (x0 + y0)) (show D + 1 ≠ D + 1 + 1 + 1 by omega)).trans h1)
      have H2 := Lib.hid (fun nq => (set_other (W := wr.drewN nq) (b := D + 1 + 1 + 1) (o := 0) (x := .int .i64 (x0 + y0)) (show D + 1 + 1 ≠ D + 1 + 1 + 1 by omega)).trans h2)
      have HW := Lib.hid (fun nq => (hw.trans ((drew_below' wr nq).mono (by have := hw.size; omega))).setCell (p := ⟨D + 1 + 1 + 1, 0, none⟩) (by simp; omega) (.int .i64 (x0 + y0)))
      clear h0 h1 h2 h3 hw c0 c1 c2 c3 c4
      go_wp2
      exact ⟨⟨.inr (.inl ⟨rfl, H3.out _⟩), HW.out _, H0.out _, H1.out _, H2.out _⟩, by decide⟩
    · have c0 := cell4_1 h0
      have c1 := cell4_3 h0
      have c2 := cell4_1 h1
      have c3 := cell4_3 h1
      have c4 := cell4_3 h3
      go_wp2_with (go_quiet (fail))
      refine (OP1.out _).mono ?_
      rintro e' w5 ⟨rfl, rfl⟩
      have m0 := cell4_1 h3
      have f0 := free4_1 h3
      have H3 := Lib.hid (fun nq => set4_1 (W := wr.drewN nq) (x := .int .i64 (x1 + y1)) h3)
      have H0 := Lib.hid (fun nq => (set_other (W := wr.drewN nq) (b := D + 1 + 1 + 1) (o := 1) (x := .int .i64 (x1 + y1)) (show D ≠ D + 1 + 1 + 1 by omega)).trans h0)
      have H1 := Lib.hid (fun nq => (set_other (W := wr.drewN nq) (b := D + 1 + 1 + 1) (o := 1) (x := .int .i64 (x1 + y1)) (show D + 1 ≠ D + 1 + 1 + 1 by omega)).trans h1)
      have H2 := Lib.hid (fun nq => (set_other (W := wr.drewN nq) (b := D + 1 + 1 + 1) (o := 1) (x := .int .i64 (x1 + y1)) (show D + 1 + 1 ≠ D + 1 + 1 + 1 by omega)).trans h2)
      have HW := Lib.hid (fun nq => (hw.trans ((drew_below' wr nq).mono (by have := hw.size; omega))).setCell (p := ⟨D + 1 + 1 + 1, 1, none⟩) (by simp; omega) (.int .i64 (x1 + y1)))
      clear h0 h1 h2 h3 hw c0 c1 c2 c3 c4
      go_wp2
      exact ⟨⟨.inr (.inr (.inl ⟨rfl, H3.out _⟩)), HW.out _, H0.out _, H1.out _, H2.out _⟩, by decide⟩
    · have c0 := cell4_2 h0
      have c1 := cell4_3 h0
      have c2 := cell4_2 h1
      have c3 := cell4_3 h1
      have c4 := cell4_3 h3
      go_wp2_with (go_quiet (fail))
      refine (OP2.out _).mono ?_
      rintro e' w5 ⟨rfl, rfl⟩
      have m0 := cell4_2 h3
      have f0 := free4_2 h3
      have H3 := Lib.hid (fun nq => set4_2 (W := wr.drewN nq) (x := .int .i64 (x2 + y2)) h3)
      have H0 := Lib.hid (fun nq => (set_other (W := wr.drewN nq) (b := D + 1 + 1 + 1) (o := 2) (x := .int .i64 (x2 + y2)) (show D ≠ D + 1 + 1 + 1 by omega)).trans h0)
      have H1 := Lib.hid (fun nq => (set_other (W := wr.drewN nq) (b := D + 1 + 1 + 1) (o := 2) (x := .int .i64 (x2 + y2)) (show D + 1 ≠ D + 1 + 1 + 1 by omega)).trans h1)
      have H2 := Lib.hid (fun nq => (set_other (W := wr.drewN nq) (b := D + 1 + 1 + 1) (o := 2) (x := .int .i64 (x2 + y2)) (show D + 1 + 1 ≠ D + 1 + 1 + 1 by omega)).trans h2)
      have HW := Lib.hid (fun nq => (hw.trans ((drew_below' wr nq).mono (by have := hw.size; omega))).setCell (p := ⟨D + 1 + 1 + 1, 2, none⟩) (by simp; omega) (.int .i64 (x2 + y2)))
      clear h0 h1 h2 h3 hw c0 c1 c2 c3 c4
      go_wp2
      exact ⟨⟨.inr (.inr (.inr ⟨rfl, H3.out _⟩)), HW.out _, H0.out _, H1.out _, H2.out _⟩, by decide⟩
    · have c0 := cell4_0 h3
      have r0 := cell4_0 h2
      have f0 := free4_0 h2
      have c1 := cell4_1 h3
      have r1 := cell4_1 h2
      have f1 := free4_1 h2
      have c2 := cell4_2 h3
      have r2 := cell4_2 h2
      have f2 := free4_2 h2
      have c3 := cell4_3 h3
      have r3 := cell4_3 h2
      have f3 := free4_3 h2
      have HW := Lib.hid ((((hw.setCell (p := ⟨D + 1 + 1, 0, none⟩) (by simp; omega) (.int .i64 (x0 + y0))).setCell (p := ⟨D + 1 + 1, 1, none⟩) (by simp; omega) (.int .i64 (x1 + y1))).setCell (p := ⟨D + 1 + 1, 2, none⟩) (by simp; omega) (.int .i64 (x2 + y2))).setCell (p := ⟨D + 1 + 1, 3, none⟩) (by simp; omega) (.int .i64 (L : Int)))
      have hE := (set4_3 (x := .int .i64 (L : Int)) (set4_2 (x := .int .i64 (x2 + y2)) (set4_1 (x := .int .i64 (x1 + y1)) (set4_0 (x := .int .i64 (x0 + y0)) h2))))
      have z0 := cell4_0 hE
      have z1 := cell4_1 hE
      have z2 := cell4_2 hE
      have z3 := cell4_3 hE
      clear h0 h1 h2 h3 hw hE
      go_wp2
      refine bodyPost_ret (v := .agg #[.int .i64 (x0 + y0), .int .i64 (x1 + y1), .int .i64 (x2 + y2), .int .i64 (L : Int)]) (by simp [results, Tryz.results49, go_sem, z0, z1, z2, z3]) rfl ⟨rfl, by rw [hD]; exact HW.out⟩

set_option maxRecDepth 10000 in
set_option maxHeartbeats 4000000 in
theorem ivcombine_minus (a b c p q r : Int) (d e : Nat) (w : World) (hd1 : 0 < d) (hd2 : d ≤ 240) (he1 : 0 < e) (he2 : e ≤ 240) (a1 : -6000 ≤ a) (a2 : a ≤ 6000) (b1 : -6000 ≤ b) (b2 : b ≤ 6000) (c1 : -6000 ≤ c) (c2 : c ≤ 6000) (p1 : -6000 ≤ p) (p2 : p ≤ 6000) (q1 : -6000 ≤ q) (q2 : q ≤ 6000) (r1 : -6000 ≤ r) (r2 : r ≤ 6000) :
    Calls Tryz.prog 49 #[.agg #[.int .i64 a, .int .i64 b, .int .i64 c, .int .i64 (d : Int)], .agg #[.int .i64 p, .int .i64 q, .int .i64 r, .int .i64 (e : Int)], .func (.func 43) #[] #[]] w fun e' w' => e' = .returned (.agg #[.int .i64 (Iv.cb a p d e (-1)), .int .i64 (Iv.cb b q d e (-1)), .int .i64 (Iv.cb c r d e (-1)), .int .i64 (Nat.lcm d e : Nat)]) ∧ Below w.heap.size w w' := by
  have hde : d * e ≤ 240 * 240 := Nat.mul_le_mul hd2 he2
  have hLl : Nat.lcm d e ≤ d * e := Nat.div_le_self _ _
  have ML := Lib.hid (fun W => ivmultiple_any d e W hd1 he1 (by omega) (by omega) (by omega))
  have hu : Nat.lcm d e / d ≤ 240 := Nat.le_trans (lcm_over hd1) he2
  have hv : Nat.lcm d e / e ≤ 240 := by rw [Nat.lcm_comm]; exact Nat.le_trans (lcm_over he1) hd2
  have eu : ((Nat.lcm d e : Nat) : Int).tdiv (d : Int) = ((Nat.lcm d e / d : Nat) : Int) := by simp
  have ev : ((Nat.lcm d e : Nat) : Int).tdiv (e : Int) = ((Nat.lcm d e / e : Nat) : Int) := by simp
  have bx0 := mul_bd (B := 6000) a1 a2 hu
  have by0 := mul_bd (B := 6000) p1 p2 hv
  have es0 : Iv.cb a p d e (-1) = a * ((Nat.lcm d e / d : Nat) : Int) - p * ((Nat.lcm d e / e : Nat) : Int) := by unfold Iv.cb; omega
  have bx1 := mul_bd (B := 6000) b1 b2 hu
  have by1 := mul_bd (B := 6000) q1 q2 hv
  have es1 : Iv.cb b q d e (-1) = b * ((Nat.lcm d e / d : Nat) : Int) - q * ((Nat.lcm d e / e : Nat) : Int) := by unfold Iv.cb; omega
  have bx2 := mul_bd (B := 6000) c1 c2 hu
  have by2 := mul_bd (B := 6000) r1 r2 hv
  have es2 : Iv.cb c r d e (-1) = c * ((Nat.lcm d e / d : Nat) : Int) - r * ((Nat.lcm d e / e : Nat) : Int) := by unfold Iv.cb; omega
  rw [es0, es1, es2]
  clear es0 es1 es2
  generalize Nat.lcm d e / d = u at *
  generalize Nat.lcm d e / e = v at *
  generalize Nat.lcm d e = L at *
  obtain ⟨x0, ex0⟩ : ∃ x, a * (u : Int) = x := ⟨_, rfl⟩
  obtain ⟨y0, ey0⟩ : ∃ y, p * (v : Int) = y := ⟨_, rfl⟩
  rw [ex0] at bx0 ⊢
  rw [ey0] at by0 ⊢
  have OP0 := Lib.hid (fun W => ivminus_any x0 y0 W (by omega) (by omega))
  have x0a : -9223372036854775808 ≤ x0 := by omega
  have x0b : x0 ≤ 9223372036854775807 := by omega
  have wx0 := wrap_in x0a x0b
  have y0a : -9223372036854775808 ≤ y0 := by omega
  have y0b : y0 ≤ 9223372036854775807 := by omega
  have wy0 := wrap_in y0a y0b
  obtain ⟨x1, ex1⟩ : ∃ x, b * (u : Int) = x := ⟨_, rfl⟩
  obtain ⟨y1, ey1⟩ : ∃ y, q * (v : Int) = y := ⟨_, rfl⟩
  rw [ex1] at bx1 ⊢
  rw [ey1] at by1 ⊢
  have OP1 := Lib.hid (fun W => ivminus_any x1 y1 W (by omega) (by omega))
  have x1a : -9223372036854775808 ≤ x1 := by omega
  have x1b : x1 ≤ 9223372036854775807 := by omega
  have wx1 := wrap_in x1a x1b
  have y1a : -9223372036854775808 ≤ y1 := by omega
  have y1b : y1 ≤ 9223372036854775807 := by omega
  have wy1 := wrap_in y1a y1b
  obtain ⟨x2, ex2⟩ : ∃ x, c * (u : Int) = x := ⟨_, rfl⟩
  obtain ⟨y2, ey2⟩ : ∃ y, r * (v : Int) = y := ⟨_, rfl⟩
  rw [ex2] at bx2 ⊢
  rw [ey2] at by2 ⊢
  have OP2 := Lib.hid (fun W => ivminus_any x2 y2 W (by omega) (by omega))
  have x2a : -9223372036854775808 ≤ x2 := by omega
  have x2b : x2 ≤ 9223372036854775807 := by omega
  have wx2 := wrap_in x2a x2b
  have y2a : -9223372036854775808 ≤ y2 := by omega
  have y2b : y2 ≤ 9223372036854775807 := by omega
  have wy2 := wrap_in y2a y2b
  have hdz : ¬ (d : Int) = 0 := by omega
  have hdn : ¬ d = 0 := by omega
  have hen : ¬ e = 0 := by omega
  have hez : ¬ (e : Int) = 0 := by omega
  have hdm : ¬ (d : Int) = -1 := by omega
  have hem : ¬ (e : Int) = -1 := by omega
  have ua : (u : Int) ≤ 9223372036854775807 := by omega
  have va : (v : Int) ≤ 9223372036854775807 := by omega
  clear bx0 bx1 bx2 by0 by1 by2 hde hLl a1 a2 b1 b2 c1 c2 p1 p2 q1 q2 r1 r2
  obtain ⟨D, hD⟩ : ∃ D, w.heap.size = D := ⟨_, rfl⟩
  go_enter Tryz.func49, Tryz.ntmps49
  go_wp2_with fail
  refine (ML.out _).mono ?_
  rintro e' w1 ⟨rfl, n, rfl⟩
  go_wp2_with fail
  obtain ⟨V, hV⟩ : ∃ V, (((((w.alloc (.cells #[.int .i64 a, .int .i64 b, .int .i64 c, .int .i64 (d : Int)] 73)).alloc (.cells #[.int .i64 p, .int .i64 q, .int .i64 r, .int .i64 (e : Int)] 73)).alloc (.cells #[.int .i64 0, .int .i64 0, .int .i64 0, .int .i64 0] 73)).drewN n).alloc (.cells #[.int .i64 0, .int .i64 0, .int .i64 0, .int .i64 (L : Int)] 73)) = V := ⟨_, rfl⟩
  have hwV : Below D w V := by rw [← hV]; exact (((((Below.refl _ w).alloc (by omega) _).alloc (by simp; omega) _).alloc (by simp; omega) _).trans ((drew_below' _ n).mono (by simp; omega))).alloc (by simp; omega) _
  have h0V : V.heap[D]? = some (.cells #[.int .i64 a, .int .i64 b, .int .i64 c, .int .i64 (d : Int)] 73) := by rw [← hV]; exact heap_old (X := World.drewN _ n) (heap_old (heap_old (heap_new hD.symm)))
  have h1V : V.heap[D + 1]? = some (.cells #[.int .i64 p, .int .i64 q, .int .i64 r, .int .i64 (e : Int)] 73) := by rw [← hV]; exact heap_old (X := World.drewN _ n) (heap_old (heap_new (by simp [hD])))
  have h2V : V.heap[D + 1 + 1]? = some (.cells #[.int .i64 0, .int .i64 0, .int .i64 0, .int .i64 0] 73) := by rw [← hV]; exact heap_old (X := World.drewN _ n) (heap_new (by simp [hD]))
  have h3V : V.heap[D + 1 + 1 + 1]? = some (.cells #[.int .i64 0, .int .i64 0, .int .i64 0, .int .i64 (L : Int)] 73) := by rw [← hV]; exact heap_new (X := World.drewN _ n) (by simp [hD])
  rw [hV]
  clear hV
  go_loopw [17] (fun i wr => ((i = .int .i64 0 ∧ wr.heap[D + 1 + 1 + 1]? = some (.cells #[.int .i64 0, .int .i64 0, .int .i64 0, .int .i64 (L : Int)] 73)) ∨ (i = .int .i64 1 ∧ wr.heap[D + 1 + 1 + 1]? = some (.cells #[.int .i64 (x0 - y0), .int .i64 0, .int .i64 0, .int .i64 (L : Int)] 73)) ∨ (i = .int .i64 2 ∧ wr.heap[D + 1 + 1 + 1]? = some (.cells #[.int .i64 (x0 - y0), .int .i64 (x1 - y1), .int .i64 0, .int .i64 (L : Int)] 73)) ∨ (i = .int .i64 3 ∧ wr.heap[D + 1 + 1 + 1]? = some (.cells #[.int .i64 (x0 - y0), .int .i64 (x1 - y1), .int .i64 (x2 - y2), .int .i64 (L : Int)] 73))) ∧ Below D w wr ∧ wr.heap[D]? = some (.cells #[.int .i64 a, .int .i64 b, .int .i64 c, .int .i64 (d : Int)] 73) ∧ wr.heap[D + 1]? = some (.cells #[.int .i64 p, .int .i64 q, .int .i64 r, .int .i64 (e : Int)] 73) ∧ wr.heap[D + 1 + 1]? = some (.cells #[.int .i64 0, .int .i64 0, .int .i64 0, .int .i64 0] 73)) (fun i _ => 3 - (intOf i).toNat)
  case atStart => exact ⟨.inl ⟨rfl, h3V⟩, hwV, h0V, h1V, h2V⟩
  case round =>
    obtain ⟨hk, hw, h0, h1, h2⟩ := hrel
    clear hwV h0V h1V h2V h3V
    rcases hk with ⟨rfl, h3⟩ | ⟨rfl, h3⟩ | ⟨rfl, h3⟩ | ⟨rfl, h3⟩
    · have c0 := cell4_0 h0
      have c1 := cell4_3 h0
      have c2 := cell4_0 h1
      have c3 := cell4_3 h1
      have c4 := cell4_3 h3
      go_wp2_with (go_quiet (fail))
      refine (OP0.out _).mono ?_
      rintro e' w5 ⟨rfl, rfl⟩
      have m0 := cell4_0 h3
      have f0 := free4_0 h3
      have H3 := Lib.hid (fun nq => set4_0 (W := wr.drewN nq) (x := .int .i64 (x0 - y0)) h3)
      have H0 := Lib.hid (fun nq => (set_other (W := wr.drewN nq) (b := D + 1 + 1 + 1) (o := 0) (x := .int .i64 (x0 - y0)) (show D ≠ D + 1 + 1 + 1 by omega)).trans h0)
      have H1 := Lib.hid (fun nq => (set_other (W := wr.drewN nq) (b := D + 1 + 1 + 1) (o := 0) (x := .int .i64 (x0 - y0)) (show D + 1 ≠ D + 1 + 1 + 1 by omega)).trans h1)
      have H2 := Lib.hid (fun nq => (set_other (W := wr.drewN nq) (b := D + 1 + 1 + 1) (o := 0) (x := .int .i64 (x0 - y0)) (show D + 1 + 1 ≠ D + 1 + 1 + 1 by omega)).trans h2)
      have HW := Lib.hid (fun nq => (hw.trans ((drew_below' wr nq).mono (by have := hw.size; omega))).setCell (p := ⟨D + 1 + 1 + 1, 0, none⟩) (by simp; omega) (.int .i64 (x0 - y0)))
      clear h0 h1 h2 h3 hw c0 c1 c2 c3 c4
      go_wp2
      exact ⟨⟨.inr (.inl ⟨rfl, H3.out _⟩), HW.out _, H0.out _, H1.out _, H2.out _⟩, by decide⟩
    · have c0 := cell4_1 h0
      have c1 := cell4_3 h0
      have c2 := cell4_1 h1
      have c3 := cell4_3 h1
      have c4 := cell4_3 h3
      go_wp2_with (go_quiet (fail))
      refine (OP1.out _).mono ?_
      rintro e' w5 ⟨rfl, rfl⟩
      have m0 := cell4_1 h3
      have f0 := free4_1 h3
      have H3 := Lib.hid (fun nq => set4_1 (W := wr.drewN nq) (x := .int .i64 (x1 - y1)) h3)
      have H0 := Lib.hid (fun nq => (set_other (W := wr.drewN nq) (b := D + 1 + 1 + 1) (o := 1) (x := .int .i64 (x1 - y1)) (show D ≠ D + 1 + 1 + 1 by omega)).trans h0)
      have H1 := Lib.hid (fun nq => (set_other (W := wr.drewN nq) (b := D + 1 + 1 + 1) (o := 1) (x := .int .i64 (x1 - y1)) (show D + 1 ≠ D + 1 + 1 + 1 by omega)).trans h1)
      have H2 := Lib.hid (fun nq => (set_other (W := wr.drewN nq) (b := D + 1 + 1 + 1) (o := 1) (x := .int .i64 (x1 - y1)) (show D + 1 + 1 ≠ D + 1 + 1 + 1 by omega)).trans h2)
      have HW := Lib.hid (fun nq => (hw.trans ((drew_below' wr nq).mono (by have := hw.size; omega))).setCell (p := ⟨D + 1 + 1 + 1, 1, none⟩) (by simp; omega) (.int .i64 (x1 - y1)))
      clear h0 h1 h2 h3 hw c0 c1 c2 c3 c4
      go_wp2
      exact ⟨⟨.inr (.inr (.inl ⟨rfl, H3.out _⟩)), HW.out _, H0.out _, H1.out _, H2.out _⟩, by decide⟩
    · have c0 := cell4_2 h0
      have c1 := cell4_3 h0
      have c2 := cell4_2 h1
      have c3 := cell4_3 h1
      have c4 := cell4_3 h3
      go_wp2_with (go_quiet (fail))
      refine (OP2.out _).mono ?_
      rintro e' w5 ⟨rfl, rfl⟩
      have m0 := cell4_2 h3
      have f0 := free4_2 h3
      have H3 := Lib.hid (fun nq => set4_2 (W := wr.drewN nq) (x := .int .i64 (x2 - y2)) h3)
      have H0 := Lib.hid (fun nq => (set_other (W := wr.drewN nq) (b := D + 1 + 1 + 1) (o := 2) (x := .int .i64 (x2 - y2)) (show D ≠ D + 1 + 1 + 1 by omega)).trans h0)
      have H1 := Lib.hid (fun nq => (set_other (W := wr.drewN nq) (b := D + 1 + 1 + 1) (o := 2) (x := .int .i64 (x2 - y2)) (show D + 1 ≠ D + 1 + 1 + 1 by omega)).trans h1)
      have H2 := Lib.hid (fun nq => (set_other (W := wr.drewN nq) (b := D + 1 + 1 + 1) (o := 2) (x := .int .i64 (x2 - y2)) (show D + 1 + 1 ≠ D + 1 + 1 + 1 by omega)).trans h2)
      have HW := Lib.hid (fun nq => (hw.trans ((drew_below' wr nq).mono (by have := hw.size; omega))).setCell (p := ⟨D + 1 + 1 + 1, 2, none⟩) (by simp; omega) (.int .i64 (x2 - y2)))
      clear h0 h1 h2 h3 hw c0 c1 c2 c3 c4
      go_wp2
      exact ⟨⟨.inr (.inr (.inr ⟨rfl, H3.out _⟩)), HW.out _, H0.out _, H1.out _, H2.out _⟩, by decide⟩
    · have c0 := cell4_0 h3
      have r0 := cell4_0 h2
      have f0 := free4_0 h2
      have c1 := cell4_1 h3
      have r1 := cell4_1 h2
      have f1 := free4_1 h2
      have c2 := cell4_2 h3
      have r2 := cell4_2 h2
      have f2 := free4_2 h2
      have c3 := cell4_3 h3
      have r3 := cell4_3 h2
      have f3 := free4_3 h2
      have HW := Lib.hid ((((hw.setCell (p := ⟨D + 1 + 1, 0, none⟩) (by simp; omega) (.int .i64 (x0 - y0))).setCell (p := ⟨D + 1 + 1, 1, none⟩) (by simp; omega) (.int .i64 (x1 - y1))).setCell (p := ⟨D + 1 + 1, 2, none⟩) (by simp; omega) (.int .i64 (x2 - y2))).setCell (p := ⟨D + 1 + 1, 3, none⟩) (by simp; omega) (.int .i64 (L : Int)))
      have hE := (set4_3 (x := .int .i64 (L : Int)) (set4_2 (x := .int .i64 (x2 - y2)) (set4_1 (x := .int .i64 (x1 - y1)) (set4_0 (x := .int .i64 (x0 - y0)) h2))))
      have z0 := cell4_0 hE
      have z1 := cell4_1 hE
      have z2 := cell4_2 hE
      have z3 := cell4_3 hE
      clear h0 h1 h2 h3 hw hE
      go_wp2
      refine bodyPost_ret (v := .agg #[.int .i64 (x0 - y0), .int .i64 (x1 - y1), .int .i64 (x2 - y2), .int .i64 (L : Int)]) (by simp [results, Tryz.results49, go_sem, z0, z1, z2, z3]) rfl ⟨rfl, by rw [hD]; exact HW.out⟩
end Go.Proofs.YthdoadkdofgenaaGreatDoor
