/- The law's known; Harmonic; the walk of PitchClasses. -/
import Derived.Test.YtkoljddejjfbiaaGreatDoorPtH
namespace Go.Proofs.YtkoljddejjfbiaaGreatDoor
open Go Go.RowKit Go.Shelf

theorem pk_83 : pk 8 3 = 0 := by decide +kernel
theorem pk_81 : pk 8 1 = 0 := by decide +kernel
theorem pk_161 : pk 16 1 = 0 := by decide +kernel
theorem pk_85 : pk 8 5 = 0 := by decide +kernel
theorem oddp_8 : oddp 8 = 1 := oddp_pow 1 rfl 3
theorem oddp_5 : oddp 5 = 5 := oddp_odd rfl
theorem sh_83 : ShI (8 * 3) (1 * 8) 19 := Pt.sh_lit 24 8 0 1 7 (by decide +kernel) (by decide +kernel) (by decide +kernel) (by decide +kernel) (by decide +kernel) (by decide +kernel)
theorem sh_168 : ShI (8 * 1) (1 * 16) (-12) := Pt.sh_lit 8 16 1 0 0 (by decide +kernel) (by decide +kernel) (by decide +kernel) (by decide +kernel) (by decide +kernel) (by decide +kernel)
theorem f_lit (n d : Int) (w : World) (h : decide (0 < d) && decide (d ≤ 1000) && decide (0 ≤ n) && decide (n ≤ 1000) && decide (FracMath.qn n d = n) && decide (FracMath.qd n d = d) = true) :
    Calls Tryz.prog 12 #[.int .i64 n, .int .i64 d] w fun e w' => e = .returned (.agg #[.int .i64 n, .int .i64 d]) ∧ Below w.heap.size w w' := by
  simp only [Bool.and_eq_true, decide_eq_true_eq] at h
  obtain ⟨⟨⟨⟨⟨h1, h2⟩, h3⟩, h4⟩, h5⟩, h6⟩ := h
  exact lf_any n d w (by omega) (by omega) h1 (by omega) n d h5 h6

set_option maxRecDepth 100000 in
set_option maxHeartbeats 4000000 in
theorem pknown_c (w : World) (P : Pg w) : Calls Tryz.prog 10 #[] w fun e w' => e = .returned (.bool true) ∧ Below w.heap.size w w' := by
  have F83 := Lib.hid (fun W => f_lit 8 3 W (by decide +kernel))
  have F81 := Lib.hid (fun W => f_lit 8 1 W (by decide +kernel))
  have F161 := Lib.hid (fun W => f_lit 16 1 W (by decide +kernel))
  have F85 := Lib.hid (fun W => f_lit 8 5 W (by decide +kernel))
  have S1 := Lib.hid (fun W G => pshift_ok 8 3 8 1 19 pk_83 pk_81 sh_83 W G)
  have S2 := Lib.hid (fun W G => pshift_ok 16 1 8 1 (-12) pk_161 pk_81 sh_168 W G)
  have C5 := Lib.hid (fun W P => pclass_ok 8 5 pk_85 W P)
  rw [oddp_8, oddp_5, show cls 1 5 = ⟨#[116, 105, 101, 114, 99, 101]⟩ from rfl, show (((8 : Nat) : Int)) = 8 from rfl, show (((5 : Nat) : Int)) = 5 from rfl] at C5
  obtain ⟨D, hD⟩ : ∃ D, w.heap.size = D := ⟨_, rfl⟩

  go_enter Tryz.func10, Tryz.ntmps10
  go_wp2_with fail
  refine (F83.out _).mono ?_
  rintro e v1 ⟨rfl, hb_v1⟩
  have hw_v1 : Below D w v1 := ((Below.refl _ w)).trans (hb_v1.mono (by first | omega | (simp; omega)))
  clear hb_v1
  go_wp2_with fail
  refine (F81.out _).mono ?_
  rintro e v2 ⟨rfl, hb_v2⟩
  have hs_v2 := hw_v1.size
  have hw_v2 : Below D w v2 := (hw_v1).trans (hb_v2.mono (by first | omega | (simp; omega)))
  clear hb_v2 hw_v1 hs_v2
  have P1 : Pg v2 := P.below (by first | exact hw_v2 | (rw [hD]; exact hw_v2))
  go_wp2_with fail
  refine (S1.out _ P1.gi).mono ?_
  rintro e v3 ⟨rfl, hb_v3⟩
  have hs_v3 := hw_v2.size
  have hw_v3 : Below D w v3 := (hw_v2).trans (hb_v3.mono (by first | omega | (simp; omega)))
  clear hb_v3 hw_v2 hs_v3
  go_wp2_with fail
  refine (F161.out _).mono ?_
  rintro e v4 ⟨rfl, hb_v4⟩
  have hs_v4 := hw_v3.size
  have hw_v4 : Below D w v4 := (hw_v3).trans (hb_v4.mono (by first | omega | (simp; omega)))
  clear hb_v4 hw_v3 hs_v4
  go_wp2_with fail
  refine (F81.out _).mono ?_
  rintro e v5 ⟨rfl, hb_v5⟩
  have hs_v5 := hw_v4.size
  have hw_v5 : Below D w v5 := (hw_v4).trans (hb_v5.mono (by first | omega | (simp; omega)))
  clear hb_v5 hw_v4 hs_v5
  have P2 : Pg v5 := P.below (by first | exact hw_v5 | (rw [hD]; exact hw_v5))
  go_wp2_with fail
  refine (S2.out _ P2.gi).mono ?_
  rintro e v6 ⟨rfl, hb_v6⟩
  have hs_v6 := hw_v5.size
  have hw_v6 : Below D w v6 := (hw_v5).trans (hb_v6.mono (by first | omega | (simp; omega)))
  clear hb_v6 hw_v5 hs_v6
  go_wp2_with fail
  refine (F85.out _).mono ?_
  rintro e v7 ⟨rfl, hb_v7⟩
  have hs_v7 := hw_v6.size
  have hw_v7 : Below D w v7 := (hw_v6).trans (hb_v7.mono (by first | omega | (simp; omega)))
  clear hb_v7 hw_v6 hs_v7
  have P3 : Pg v7 := P.below (by first | exact hw_v7 | (rw [hD]; exact hw_v7))
  go_wp2_with fail
  refine (C5.out _ P3).mono ?_
  rintro e v8 ⟨rfl, hb_v8⟩
  have hs_v8 := hw_v7.size
  have hw_v8 : Below D w v8 := (hw_v7).trans (hb_v8.mono (by first | omega | (simp; omega)))
  clear hb_v8 hw_v7 hs_v8
  have HW := Lib.hid (hw_v8)
  go_wp2
  go_ret
  exact ⟨rfl, by first | exact HW.out | (rw [hD]; exact HW.out)⟩

theorem pharm_bad (a b z : Int) (hz : pk a b = z) (hn : ¬ z = 0) (w : World) :
    Calls Tryz.prog 14 #[.agg #[.int .i64 a, .int .i64 b]] w fun e w' => e = .returned (.tuple #[.agg #[.int .i64 0, .int .i64 0], .int .i64 z]) ∧ Below w.heap.size w w' := by
  have CB := Lib.hid (fun W => pcheck_any a b W)
  rw [hz] at CB
  clear hz
  obtain ⟨D, hD⟩ : ∃ D, w.heap.size = D := ⟨_, rfl⟩
  go_enter Tryz.func14, Tryz.ntmps14
  go_wp2_with fail
  refine (CB.out _).mono ?_
  rintro e w1 ⟨rfl, hb1⟩
  have hp : w1.heap[D + 1]? = some (.cells #[.int .i64 0, .int .i64 0] 23) := (hb1.block (D + 1) (by simp [hD])).trans (heap_new (by simp [hD]))
  have hw1 : Below w.heap.size w w1 := (((Below.refl _ w).alloc (Nat.le_refl _) _).alloc (by simp) _).trans (hb1.mono (by simp; omega))
  have f0 := free2_0 hp
  have f1 := free2_1 hp
  have c0 := cell2_0 hp
  have c1 := cell2_1 hp
  have hE := set2_1 (x := .int .i64 0) (set2_0 (x := .int .i64 0) hp)
  have z0 := cell2_0 hE
  have z1 := cell2_1 hE
  have HW := Lib.hid ((hw1.setCell (p := ⟨D + 1, 0, none⟩) (by simp; omega) (.int .i64 0)).setCell (p := ⟨D + 1, 1, none⟩) (by simp; omega) (.int .i64 0))
  clear hE hp hb1 hw1
  go_wp2
  exact bodyPost_ret (v := .tuple #[.agg #[.int .i64 0, .int .i64 0], .int .i64 z]) (by simp [results, Tryz.results14, go_sem, z0, z1]) rfl ⟨rfl, HW.out⟩
theorem harm_mk (a b : Int) (h1 : pk a b = 0) : FracMath.mk (8 * b) (1 * a) = (FracMath.qn (8 * b) a, FracMath.qd (8 * b) a, 0) := by
  obtain ⟨_, k1, k2, k3, k4, _⟩ := pk_ok h1
  rw [Int.one_mul]
  refine FracMath.mk_ok (by omega) ?_
  unfold FracMath.overB
  rw [decide_eq_false_iff_not]
  have e1 := Nat.div_le_self (8 * b).natAbs (FracMath.gg (8 * b) a)
  have e2 := Nat.div_le_self a.natAbs (FracMath.gg (8 * b) a)
  omega
theorem pharm_ok (a b : Int) (h1 : pk a b = 0) (w : World) :
    Calls Tryz.prog 14 #[.agg #[.int .i64 a, .int .i64 b]] w fun e w' => e = .returned (.tuple #[.agg #[.int .i64 (FracMath.qn (8 * b) a), .int .i64 (FracMath.qd (8 * b) a)], .int .i64 0]) ∧ Below w.heap.size w w' := by
  have CB := Lib.hid (fun W => pcheck_any a b W)
  rw [h1] at CB
  have DV := Lib.hid (fun W => div_right 8 1 a b W (by decide +kernel) (pk_ok h1).1)
  rw [harm_mk a b h1] at DV
  clear h1
  simp only at DV
  generalize FracMath.qn (8 * b) a = x at *
  generalize FracMath.qd (8 * b) a = y at *
  obtain ⟨D, hD⟩ : ∃ D, w.heap.size = D := ⟨_, rfl⟩
  go_enter Tryz.func14, Tryz.ntmps14
  go_wp2_with fail
  refine (CB.out _).mono ?_
  rintro e w1 ⟨rfl, hb1⟩
  have hq : w1.heap[D]? = some (.cells #[.int .i64 a, .int .i64 b] 23) := (hb1.block D (by simp [hD]; omega)).trans (heap_old (heap_new hD.symm))
  have hp : w1.heap[D + 1]? = some (.cells #[.int .i64 0, .int .i64 0] 23) := (hb1.block (D + 1) (by simp [hD])).trans (heap_new (by simp [hD]))
  have hw1 : Below w.heap.size w w1 := (((Below.refl _ w).alloc (Nat.le_refl _) _).alloc (by simp) _).trans (hb1.mono (by simp; omega))
  have d0 := cell2_0 hq
  have d1 := cell2_1 hq
  have hz1 := (Array.getElem?_eq_some_iff.1 hp).1
  clear hb1
  go_wp2_with fail
  refine (DV.out _).mono ?_
  rintro e w2 ⟨rfl, hb2⟩
  have hp := (hb2.block (D + 1) hz1).trans hp
  have hw2 := hw1.trans (hb2.mono hw1.size)
  clear hb2 hw1 d0 d1 hq
  have f0 := free2_0 hp
  have f1 := free2_1 hp
  have c0 := cell2_0 hp
  have c1 := cell2_1 hp
  have hE := set2_1 (x := .int .i64 y) (set2_0 (x := .int .i64 x) hp)
  have z0 := cell2_0 hE
  have z1 := cell2_1 hE
  have HW := Lib.hid ((hw2.setCell (p := ⟨D + 1, 0, none⟩) (by simp; omega) (.int .i64 x)).setCell (p := ⟨D + 1, 1, none⟩) (by simp; omega) (.int .i64 y))
  clear hE hp hw2
  go_wp2
  exact bodyPost_ret (v := .tuple #[.agg #[.int .i64 x, .int .i64 y], .int .i64 0]) (by simp [results, Tryz.results14, go_sem, z0, z1]) rfl ⟨rfl, HW.out⟩

theorem dvd_8 {g : Nat} (h : g ∣ 8) : ∃ u, g = 2 ^ u := by
  have hle := Nat.le_of_dvd (by decide) h
  obtain ⟨k, hk⟩ := h
  rcases (show g = 0 ∨ g = 1 ∨ g = 2 ∨ g = 3 ∨ g = 4 ∨ g = 5 ∨ g = 6 ∨ g = 7 ∨ g = 8 by omega) with rfl | rfl | rfl | rfl | rfl | rfl | rfl | rfl | rfl
  · omega
  · exact ⟨0, rfl⟩
  · exact ⟨1, rfl⟩
  · omega
  · exact ⟨2, rfl⟩
  · omega
  · omega
  · omega
  · exact ⟨3, rfl⟩
theorem oddp_mul_pow {n : Nat} (h : 0 < n) : ∀ k, oddp (n * 2 ^ k) = oddp n
  | 0 => by rw [Nat.pow_zero, Nat.mul_one]
  | k + 1 => by rw [Nat.pow_succ, ← Nat.mul_assoc, Nat.mul_comm _ 2, oddp_double (Nat.mul_pos h (Nat.pow_pos (by decide)))]; exact oddp_mul_pow h k
/-- The harmonic's odd parts. -/
theorem harm_odd (a b : Nat) (h1 : pk a b = 0) : ∃ x y : Nat, FracMath.qn (8 * (b : Int)) a = x ∧ FracMath.qd (8 * (b : Int)) a = y ∧ 0 < x ∧ 0 < y ∧ x ≤ 1024 ∧ y ≤ 16384 ∧ oddp x = oddp b ∧ oddp y = oddp a := by
  obtain ⟨_, k1, k2, k3, k4, kg⟩ := pk_ok h1
  have ha : 0 < a := by omega
  have hb : 0 < b := by omega
  have hg : Nat.gcd a b = 1 := kg
  have e8 : (8 * (b : Int)).natAbs = 8 * b := by omega
  have ea : ((a : Int)).natAbs = a := Int.natAbs_natCast a
  have eg : FracMath.gg (8 * (b : Int)) a = Nat.gcd 8 a := by
    unfold FracMath.gg
    rw [e8, ea]
    exact Nat.Coprime.gcd_mul_right_cancel 8 (Nat.Coprime.symm hg)
  obtain ⟨u, hu⟩ := dvd_8 (Nat.gcd_dvd_left 8 a)
  have d1 : Nat.gcd 8 a ∣ 8 * b := Nat.dvd_trans (Nat.gcd_dvd_left 8 a) (Nat.dvd_mul_right 8 b)
  have d2 := Nat.gcd_dvd_right 8 a
  have m1 := Nat.div_mul_cancel d1
  have m2 := Nat.div_mul_cancel d2
  have p1 : 0 < 8 * b / Nat.gcd 8 a := Nat.div_pos (Nat.le_of_dvd (by omega) d1) (Nat.gcd_pos_of_pos_left _ (by decide))
  have p2 : 0 < a / Nat.gcd 8 a := Nat.div_pos (Nat.le_of_dvd ha d2) (Nat.gcd_pos_of_pos_left _ (by decide))
  refine ⟨8 * b / Nat.gcd 8 a, a / Nat.gcd 8 a, ?_, ?_, p1, p2, ?_, ?_, ?_, ?_⟩
  · rw [FracMath.qn_of_pos (by omega), eg]
    rw [Int.tdiv_eq_ediv_of_nonneg (by omega)]
    rw [show (8 * (b : Int)) = ((8 * b : Nat) : Int) by omega]
    exact (Int.natCast_ediv _ _).symm
  · unfold FracMath.qd
    rw [eg, ea]
  · exact Nat.le_trans (Nat.div_le_self _ _) (by omega)
  · exact Nat.le_trans (Nat.div_le_self _ _) (by omega)
  · rw [← oddp_mul_pow p1 u, ← hu, m1, Nat.mul_comm]
    exact oddp_mul_pow hb 3
  · rw [← oddp_mul_pow p2 u, ← hu, m2]


set_option maxRecDepth 100000 in
set_option maxHeartbeats 8000000 in
theorem classes_bad (a b : Int) (h : ¬ pk a b = 0) (w : World) (P : Pg w) : Calls Tryz.prog 6 #[.agg #[.int .i64 a, .int .i64 b]] w fun e w' => e = .returned (.bool true) ∧ Below w.heap.size w w' := by
  have KN := Lib.hid (fun W P => pknown_c W P)
  have CH := Lib.hid (fun W => lcheck_any a b W)
  obtain ⟨z, hz⟩ : ∃ z, pk a b = z := ⟨_, rfl⟩
  rw [hz] at CH h
  clear hz
  obtain ⟨D, hD⟩ : ∃ D, w.heap.size = D := ⟨_, rfl⟩
  go_enter Tryz.func6, Tryz.ntmps6
  have P4 : Pg (w.alloc (.cells #[.int .i64 a, .int .i64 b] 23)) := P.below (by first | exact ((Below.refl _ w).alloc (by first | omega | (simp; omega)) (.cells #[.int .i64 a, .int .i64 b] 23)) | (rw [hD]; exact ((Below.refl _ w).alloc (by first | omega | (simp; omega)) (.cells #[.int .i64 a, .int .i64 b] 23))))
  go_wp2_with fail
  refine (KN.out _ P4).mono ?_
  rintro e v1 ⟨rfl, hb_v1⟩
  have cX_v1 : v1.heap[D]? = some (.cells #[.int .i64 a, .int .i64 b] 23) := (hb_v1.block (D) (Array.getElem?_eq_some_iff.1 (show (w.alloc (.cells #[.int .i64 a, .int .i64 b] 23)).heap[D]? = some (.cells #[.int .i64 a, .int .i64 b] 23) from (heap_new (by first | omega | (simp; omega))))).1).trans (heap_new (by first | omega | (simp; omega)))
  have hw_v1 : Below D w v1 := (((Below.refl _ w).alloc (by first | omega | (simp; omega)) (.cells #[.int .i64 a, .int .i64 b] 23))).trans (hb_v1.mono (by first | omega | (simp; omega)))
  clear hb_v1
  have ld2 : v1.heap[D]? = some (.cells #[.int .i64 a, .int .i64 b] 23) := cX_v1
  have y2_0 := cell2_0 ld2
  have y2_1 := cell2_1 ld2
  clear ld2
  go_wp2_with fail
  refine (CH.out _).mono ?_
  rintro e v3 ⟨rfl, hb_v3⟩
  have hs_v3 := hw_v1.size
  have cX_v3 : v3.heap[D]? = some (.cells #[.int .i64 a, .int .i64 b] 23) := (hb_v3.block (D) (Array.getElem?_eq_some_iff.1 (show v1.heap[D]? = some (.cells #[.int .i64 a, .int .i64 b] 23) from cX_v1)).1).trans cX_v1
  have hw_v3 : Below D w v3 := (hw_v1).trans (hb_v3.mono (by first | omega | (simp; omega)))
  clear cX_v1 hb_v3 y2_0 y2_1 hw_v1 hs_v3
  have P5 : Pg v3 := P.below (by first | exact hw_v3 | (rw [hD]; exact hw_v3))
  go_wp2_with fail
  refine (KN.out _ P5).mono ?_
  rintro e v4 ⟨rfl, hb_v4⟩
  have hs_v4 := hw_v3.size
  have cX_v4 : v4.heap[D]? = some (.cells #[.int .i64 a, .int .i64 b] 23) := (hb_v4.block (D) (Array.getElem?_eq_some_iff.1 (show v3.heap[D]? = some (.cells #[.int .i64 a, .int .i64 b] 23) from cX_v3)).1).trans cX_v3
  have hw_v4 : Below D w v4 := (hw_v3).trans (hb_v4.mono (by first | omega | (simp; omega)))
  clear cX_v3 hb_v4 hw_v3 hs_v4
  have HW := Lib.hid (hw_v4)
  go_wp2
  go_ret
  exact ⟨rfl, by first | exact HW.out | (rw [hD]; exact HW.out)⟩

set_option maxRecDepth 100000 in
set_option maxHeartbeats 8000000 in
theorem classes_ok (a b : Nat) (h1 : pk a b = 0) (w : World) (P : Pg w) : Calls Tryz.prog 6 #[.agg #[.int .i64 (a : Int), .int .i64 (b : Int)]] w fun e w' => e = .returned (.bool true) ∧ Below w.heap.size w w' := by
  obtain ⟨_, k1, k2, k3, k4, _⟩ := pk_ok h1
  obtain ⟨x, y, ex, ey, px, py, bx, bY, ox, oy⟩ := harm_odd a b h1
  have KN := Lib.hid (fun W P => pknown_c W P)
  have CH := Lib.hid (fun W => lcheck_any a b W)
  rw [h1] at CH
  have CL := Lib.hid (fun W P => pclass_ok a b h1 W P)
  have MU := Lib.hid (fun W P => pmut_ok a b h1 W P)
  have FF := Lib.hid (fun W => lf_any (8 * (b : Int)) a W (by omega) (by omega) (by omega) (by omega) x y ex ey)
  have OY := Lib.hid (fun W => lodd_any y py (by omega) W)
  have OX := Lib.hid (fun W => lodd_any x px (by omega) W)
  rw [oy] at OY
  rw [ox] at OX
  have wm := wrap_in (q := 8 * (b : Int)) (by omega) (by omega)
  have cc := cls_cases (oddp a) (oddp b)
  obtain ⟨c, hc⟩ : ∃ c, cls (oddp a) (oddp b) = c := ⟨_, rfl⟩
  rw [hc] at cc CL
  obtain ⟨v, hv⟩ : ∃ v, mutB (oddp a) (oddp b) = v := ⟨_, rfl⟩
  rw [hv] at MU
  have HV := Lib.hid hv
  generalize oddp a = o at *
  generalize oddp b = p at *
  clear hc hv ox oy ex ey h1 k1 k2 k3 k4 px py bx bY
  obtain ⟨D, hD⟩ : ∃ D, w.heap.size = D := ⟨_, rfl⟩
  rcases cc with ⟨rfl, rfl, rfl⟩ | ⟨rfl, rfl, rfl⟩ | ⟨rfl, rfl, rfl⟩ | ⟨rfl, rfl, rfl⟩ | ⟨rfl, n1, n3, n5, n7, rfl⟩ | ⟨n0, rfl⟩
  · obtain rfl : v = false := by rw [← HV.out]; rfl
    clear HV
    go_enter Tryz.func6, Tryz.ntmps6
    have P6 : Pg (w.alloc (.cells #[.int .i64 (a : Int), .int .i64 (b : Int)] 23)) := P.below (by first | exact ((Below.refl _ w).alloc (by first | omega | (simp; omega)) (.cells #[.int .i64 (a : Int), .int .i64 (b : Int)] 23)) | (rw [hD]; exact ((Below.refl _ w).alloc (by first | omega | (simp; omega)) (.cells #[.int .i64 (a : Int), .int .i64 (b : Int)] 23))))
    go_wp2_with fail
    refine (KN.out _ P6).mono ?_
    rintro e v1 ⟨rfl, hb_v1⟩
    have cX_v1 : v1.heap[D]? = some (.cells #[.int .i64 (a : Int), .int .i64 (b : Int)] 23) := (hb_v1.block (D) (Array.getElem?_eq_some_iff.1 (show (w.alloc (.cells #[.int .i64 (a : Int), .int .i64 (b : Int)] 23)).heap[D]? = some (.cells #[.int .i64 (a : Int), .int .i64 (b : Int)] 23) from (heap_new (by first | omega | (simp; omega))))).1).trans (heap_new (by first | omega | (simp; omega)))
    have hw_v1 : Below D w v1 := (((Below.refl _ w).alloc (by first | omega | (simp; omega)) (.cells #[.int .i64 (a : Int), .int .i64 (b : Int)] 23))).trans (hb_v1.mono (by first | omega | (simp; omega)))
    clear hb_v1
    have ld2 : v1.heap[D]? = some (.cells #[.int .i64 (a : Int), .int .i64 (b : Int)] 23) := cX_v1
    have y2_0 := cell2_0 ld2
    have y2_1 := cell2_1 ld2
    clear ld2
    go_wp2_with fail
    refine (CH.out _).mono ?_
    rintro e v3 ⟨rfl, hb_v3⟩
    have hs_v3 := hw_v1.size
    have cX_v3 : v3.heap[D]? = some (.cells #[.int .i64 (a : Int), .int .i64 (b : Int)] 23) := (hb_v3.block (D) (Array.getElem?_eq_some_iff.1 (show v1.heap[D]? = some (.cells #[.int .i64 (a : Int), .int .i64 (b : Int)] 23) from cX_v1)).1).trans cX_v1
    have hw_v3 : Below D w v3 := (hw_v1).trans (hb_v3.mono (by first | omega | (simp; omega)))
    clear cX_v1 hb_v3 y2_0 y2_1 hw_v1 hs_v3
    have ld4 : v3.heap[D]? = some (.cells #[.int .i64 (a : Int), .int .i64 (b : Int)] 23) := cX_v3
    have y4_0 := cell2_0 ld4
    have y4_1 := cell2_1 ld4
    clear ld4
    have P7 : Pg v3 := P.below (by first | exact hw_v3 | (rw [hD]; exact hw_v3))
    go_wp2_with fail
    refine (CL.out _ P7).mono ?_
    rintro e v5 ⟨rfl, hb_v5⟩
    have hs_v5 := hw_v3.size
    have cX_v5 : v5.heap[D]? = some (.cells #[.int .i64 (a : Int), .int .i64 (b : Int)] 23) := (hb_v5.block (D) (Array.getElem?_eq_some_iff.1 (show v3.heap[D]? = some (.cells #[.int .i64 (a : Int), .int .i64 (b : Int)] 23) from cX_v3)).1).trans cX_v3
    have hw_v5 : Below D w v5 := (hw_v3).trans (hb_v5.mono (by first | omega | (simp; omega)))
    clear cX_v3 hb_v5 y4_0 y4_1 hw_v3 hs_v5
    have ld6 : v5.heap[D]? = some (.cells #[.int .i64 (a : Int), .int .i64 (b : Int)] 23) := cX_v5
    have y6_0 := cell2_0 ld6
    have y6_1 := cell2_1 ld6
    clear ld6
    have P8 : Pg v5 := P.below (by first | exact hw_v5 | (rw [hD]; exact hw_v5))
    go_wp2_with fail
    refine (MU.out _ P8).mono ?_
    rintro e v7 ⟨rfl, hb_v7⟩
    have hs_v7 := hw_v5.size
    have cX_v7 : v7.heap[D]? = some (.cells #[.int .i64 (a : Int), .int .i64 (b : Int)] 23) := (hb_v7.block (D) (Array.getElem?_eq_some_iff.1 (show v5.heap[D]? = some (.cells #[.int .i64 (a : Int), .int .i64 (b : Int)] 23) from cX_v5)).1).trans cX_v5
    have hw_v7 : Below D w v7 := (hw_v5).trans (hb_v7.mono (by first | omega | (simp; omega)))
    clear cX_v5 hb_v7 y6_0 y6_1 hw_v5 hs_v7
    have ld8 : v7.heap[D]? = some (.cells #[.int .i64 (a : Int), .int .i64 (b : Int)] 23) := cX_v7
    have y8_0 := cell2_0 ld8
    have y8_1 := cell2_1 ld8
    clear ld8
    go_wp2_with fail
    refine (FF.out _).mono ?_
    rintro e v9 ⟨rfl, hb_v9⟩
    have hs_v9 := hw_v7.size
    have cX_v9 : v9.heap[D]? = some (.cells #[.int .i64 (a : Int), .int .i64 (b : Int)] 23) := (hb_v9.block (D) (Array.getElem?_eq_some_iff.1 (show v7.heap[D]? = some (.cells #[.int .i64 (a : Int), .int .i64 (b : Int)] 23) from cX_v7)).1).trans cX_v7
    have hw_v9 : Below D w v9 := (hw_v7).trans (hb_v9.mono (by first | omega | (simp; omega)))
    clear cX_v7 hb_v9 y8_0 y8_1 hw_v7 hs_v9
    obtain ⟨EH, hEH⟩ : ∃ E, v9.heap.size = E := ⟨_, rfl⟩
    have ld10 : (v9.alloc (.cells #[.int .i64 (x : Int), .int .i64 (y : Int)] 23)).heap[EH]? = some (.cells #[.int .i64 (x : Int), .int .i64 (y : Int)] 23) := (heap_new (by first | omega | (simp; omega)))
    have y10_0 := cell2_0 ld10
    have y10_1 := cell2_1 ld10
    clear ld10
    have HW := Lib.hid ((hw_v9.alloc (by have := hw_v9.size; first | omega | (simp; omega)) (.cells #[.int .i64 (x : Int), .int .i64 (y : Int)] 23)))
    go_wp2_with fail
    refine (OY.out _).mono ?_
    rintro e wq ⟨rfl, rfl⟩
    go_wp2_with fail
    refine (OX.out _).mono ?_
    rintro e wp ⟨rfl, rfl⟩
    go_wp2
    go_ret
    exact ⟨rfl, by first | exact HW.out | (rw [hD]; exact HW.out)⟩
  · obtain rfl : v = true := by rw [← HV.out]; rfl
    clear HV
    go_enter Tryz.func6, Tryz.ntmps6
    have P9 : Pg (w.alloc (.cells #[.int .i64 (a : Int), .int .i64 (b : Int)] 23)) := P.below (by first | exact ((Below.refl _ w).alloc (by first | omega | (simp; omega)) (.cells #[.int .i64 (a : Int), .int .i64 (b : Int)] 23)) | (rw [hD]; exact ((Below.refl _ w).alloc (by first | omega | (simp; omega)) (.cells #[.int .i64 (a : Int), .int .i64 (b : Int)] 23))))
    go_wp2_with fail
    refine (KN.out _ P9).mono ?_
    rintro e v1 ⟨rfl, hb_v1⟩
    have cX_v1 : v1.heap[D]? = some (.cells #[.int .i64 (a : Int), .int .i64 (b : Int)] 23) := (hb_v1.block (D) (Array.getElem?_eq_some_iff.1 (show (w.alloc (.cells #[.int .i64 (a : Int), .int .i64 (b : Int)] 23)).heap[D]? = some (.cells #[.int .i64 (a : Int), .int .i64 (b : Int)] 23) from (heap_new (by first | omega | (simp; omega))))).1).trans (heap_new (by first | omega | (simp; omega)))
    have hw_v1 : Below D w v1 := (((Below.refl _ w).alloc (by first | omega | (simp; omega)) (.cells #[.int .i64 (a : Int), .int .i64 (b : Int)] 23))).trans (hb_v1.mono (by first | omega | (simp; omega)))
    clear hb_v1
    have ld2 : v1.heap[D]? = some (.cells #[.int .i64 (a : Int), .int .i64 (b : Int)] 23) := cX_v1
    have y2_0 := cell2_0 ld2
    have y2_1 := cell2_1 ld2
    clear ld2
    go_wp2_with fail
    refine (CH.out _).mono ?_
    rintro e v3 ⟨rfl, hb_v3⟩
    have hs_v3 := hw_v1.size
    have cX_v3 : v3.heap[D]? = some (.cells #[.int .i64 (a : Int), .int .i64 (b : Int)] 23) := (hb_v3.block (D) (Array.getElem?_eq_some_iff.1 (show v1.heap[D]? = some (.cells #[.int .i64 (a : Int), .int .i64 (b : Int)] 23) from cX_v1)).1).trans cX_v1
    have hw_v3 : Below D w v3 := (hw_v1).trans (hb_v3.mono (by first | omega | (simp; omega)))
    clear cX_v1 hb_v3 y2_0 y2_1 hw_v1 hs_v3
    have ld4 : v3.heap[D]? = some (.cells #[.int .i64 (a : Int), .int .i64 (b : Int)] 23) := cX_v3
    have y4_0 := cell2_0 ld4
    have y4_1 := cell2_1 ld4
    clear ld4
    have P10 : Pg v3 := P.below (by first | exact hw_v3 | (rw [hD]; exact hw_v3))
    go_wp2_with fail
    refine (CL.out _ P10).mono ?_
    rintro e v5 ⟨rfl, hb_v5⟩
    have hs_v5 := hw_v3.size
    have cX_v5 : v5.heap[D]? = some (.cells #[.int .i64 (a : Int), .int .i64 (b : Int)] 23) := (hb_v5.block (D) (Array.getElem?_eq_some_iff.1 (show v3.heap[D]? = some (.cells #[.int .i64 (a : Int), .int .i64 (b : Int)] 23) from cX_v3)).1).trans cX_v3
    have hw_v5 : Below D w v5 := (hw_v3).trans (hb_v5.mono (by first | omega | (simp; omega)))
    clear cX_v3 hb_v5 y4_0 y4_1 hw_v3 hs_v5
    have ld6 : v5.heap[D]? = some (.cells #[.int .i64 (a : Int), .int .i64 (b : Int)] 23) := cX_v5
    have y6_0 := cell2_0 ld6
    have y6_1 := cell2_1 ld6
    clear ld6
    have P11 : Pg v5 := P.below (by first | exact hw_v5 | (rw [hD]; exact hw_v5))
    go_wp2_with fail
    refine (MU.out _ P11).mono ?_
    rintro e v7 ⟨rfl, hb_v7⟩
    have hs_v7 := hw_v5.size
    have cX_v7 : v7.heap[D]? = some (.cells #[.int .i64 (a : Int), .int .i64 (b : Int)] 23) := (hb_v7.block (D) (Array.getElem?_eq_some_iff.1 (show v5.heap[D]? = some (.cells #[.int .i64 (a : Int), .int .i64 (b : Int)] 23) from cX_v5)).1).trans cX_v5
    have hw_v7 : Below D w v7 := (hw_v5).trans (hb_v7.mono (by first | omega | (simp; omega)))
    clear cX_v5 hb_v7 y6_0 y6_1 hw_v5 hs_v7
    have ld8 : v7.heap[D]? = some (.cells #[.int .i64 (a : Int), .int .i64 (b : Int)] 23) := cX_v7
    have y8_0 := cell2_0 ld8
    have y8_1 := cell2_1 ld8
    clear ld8
    go_wp2_with fail
    refine (FF.out _).mono ?_
    rintro e v9 ⟨rfl, hb_v9⟩
    have hs_v9 := hw_v7.size
    have cX_v9 : v9.heap[D]? = some (.cells #[.int .i64 (a : Int), .int .i64 (b : Int)] 23) := (hb_v9.block (D) (Array.getElem?_eq_some_iff.1 (show v7.heap[D]? = some (.cells #[.int .i64 (a : Int), .int .i64 (b : Int)] 23) from cX_v7)).1).trans cX_v7
    have hw_v9 : Below D w v9 := (hw_v7).trans (hb_v9.mono (by first | omega | (simp; omega)))
    clear cX_v7 hb_v9 y8_0 y8_1 hw_v7 hs_v9
    obtain ⟨EH, hEH⟩ : ∃ E, v9.heap.size = E := ⟨_, rfl⟩
    have ld10 : (v9.alloc (.cells #[.int .i64 (x : Int), .int .i64 (y : Int)] 23)).heap[EH]? = some (.cells #[.int .i64 (x : Int), .int .i64 (y : Int)] 23) := (heap_new (by first | omega | (simp; omega)))
    have y10_0 := cell2_0 ld10
    have y10_1 := cell2_1 ld10
    clear ld10
    have HW := Lib.hid ((hw_v9.alloc (by have := hw_v9.size; first | omega | (simp; omega)) (.cells #[.int .i64 (x : Int), .int .i64 (y : Int)] 23)))
    go_wp2_with fail
    refine (OY.out _).mono ?_
    rintro e wq ⟨rfl, rfl⟩
    go_wp2_with fail
    refine (OX.out _).mono ?_
    rintro e wp ⟨rfl, rfl⟩
    go_wp2
    go_ret
    exact ⟨rfl, by first | exact HW.out | (rw [hD]; exact HW.out)⟩
  · obtain rfl : v = true := by rw [← HV.out]; rfl
    clear HV
    go_enter Tryz.func6, Tryz.ntmps6
    have P12 : Pg (w.alloc (.cells #[.int .i64 (a : Int), .int .i64 (b : Int)] 23)) := P.below (by first | exact ((Below.refl _ w).alloc (by first | omega | (simp; omega)) (.cells #[.int .i64 (a : Int), .int .i64 (b : Int)] 23)) | (rw [hD]; exact ((Below.refl _ w).alloc (by first | omega | (simp; omega)) (.cells #[.int .i64 (a : Int), .int .i64 (b : Int)] 23))))
    go_wp2_with fail
    refine (KN.out _ P12).mono ?_
    rintro e v1 ⟨rfl, hb_v1⟩
    have cX_v1 : v1.heap[D]? = some (.cells #[.int .i64 (a : Int), .int .i64 (b : Int)] 23) := (hb_v1.block (D) (Array.getElem?_eq_some_iff.1 (show (w.alloc (.cells #[.int .i64 (a : Int), .int .i64 (b : Int)] 23)).heap[D]? = some (.cells #[.int .i64 (a : Int), .int .i64 (b : Int)] 23) from (heap_new (by first | omega | (simp; omega))))).1).trans (heap_new (by first | omega | (simp; omega)))
    have hw_v1 : Below D w v1 := (((Below.refl _ w).alloc (by first | omega | (simp; omega)) (.cells #[.int .i64 (a : Int), .int .i64 (b : Int)] 23))).trans (hb_v1.mono (by first | omega | (simp; omega)))
    clear hb_v1
    have ld2 : v1.heap[D]? = some (.cells #[.int .i64 (a : Int), .int .i64 (b : Int)] 23) := cX_v1
    have y2_0 := cell2_0 ld2
    have y2_1 := cell2_1 ld2
    clear ld2
    go_wp2_with fail
    refine (CH.out _).mono ?_
    rintro e v3 ⟨rfl, hb_v3⟩
    have hs_v3 := hw_v1.size
    have cX_v3 : v3.heap[D]? = some (.cells #[.int .i64 (a : Int), .int .i64 (b : Int)] 23) := (hb_v3.block (D) (Array.getElem?_eq_some_iff.1 (show v1.heap[D]? = some (.cells #[.int .i64 (a : Int), .int .i64 (b : Int)] 23) from cX_v1)).1).trans cX_v1
    have hw_v3 : Below D w v3 := (hw_v1).trans (hb_v3.mono (by first | omega | (simp; omega)))
    clear cX_v1 hb_v3 y2_0 y2_1 hw_v1 hs_v3
    have ld4 : v3.heap[D]? = some (.cells #[.int .i64 (a : Int), .int .i64 (b : Int)] 23) := cX_v3
    have y4_0 := cell2_0 ld4
    have y4_1 := cell2_1 ld4
    clear ld4
    have P13 : Pg v3 := P.below (by first | exact hw_v3 | (rw [hD]; exact hw_v3))
    go_wp2_with fail
    refine (CL.out _ P13).mono ?_
    rintro e v5 ⟨rfl, hb_v5⟩
    have hs_v5 := hw_v3.size
    have cX_v5 : v5.heap[D]? = some (.cells #[.int .i64 (a : Int), .int .i64 (b : Int)] 23) := (hb_v5.block (D) (Array.getElem?_eq_some_iff.1 (show v3.heap[D]? = some (.cells #[.int .i64 (a : Int), .int .i64 (b : Int)] 23) from cX_v3)).1).trans cX_v3
    have hw_v5 : Below D w v5 := (hw_v3).trans (hb_v5.mono (by first | omega | (simp; omega)))
    clear cX_v3 hb_v5 y4_0 y4_1 hw_v3 hs_v5
    have ld6 : v5.heap[D]? = some (.cells #[.int .i64 (a : Int), .int .i64 (b : Int)] 23) := cX_v5
    have y6_0 := cell2_0 ld6
    have y6_1 := cell2_1 ld6
    clear ld6
    have P14 : Pg v5 := P.below (by first | exact hw_v5 | (rw [hD]; exact hw_v5))
    go_wp2_with fail
    refine (MU.out _ P14).mono ?_
    rintro e v7 ⟨rfl, hb_v7⟩
    have hs_v7 := hw_v5.size
    have cX_v7 : v7.heap[D]? = some (.cells #[.int .i64 (a : Int), .int .i64 (b : Int)] 23) := (hb_v7.block (D) (Array.getElem?_eq_some_iff.1 (show v5.heap[D]? = some (.cells #[.int .i64 (a : Int), .int .i64 (b : Int)] 23) from cX_v5)).1).trans cX_v5
    have hw_v7 : Below D w v7 := (hw_v5).trans (hb_v7.mono (by first | omega | (simp; omega)))
    clear cX_v5 hb_v7 y6_0 y6_1 hw_v5 hs_v7
    have ld8 : v7.heap[D]? = some (.cells #[.int .i64 (a : Int), .int .i64 (b : Int)] 23) := cX_v7
    have y8_0 := cell2_0 ld8
    have y8_1 := cell2_1 ld8
    clear ld8
    go_wp2_with fail
    refine (FF.out _).mono ?_
    rintro e v9 ⟨rfl, hb_v9⟩
    have hs_v9 := hw_v7.size
    have cX_v9 : v9.heap[D]? = some (.cells #[.int .i64 (a : Int), .int .i64 (b : Int)] 23) := (hb_v9.block (D) (Array.getElem?_eq_some_iff.1 (show v7.heap[D]? = some (.cells #[.int .i64 (a : Int), .int .i64 (b : Int)] 23) from cX_v7)).1).trans cX_v7
    have hw_v9 : Below D w v9 := (hw_v7).trans (hb_v9.mono (by first | omega | (simp; omega)))
    clear cX_v7 hb_v9 y8_0 y8_1 hw_v7 hs_v9
    obtain ⟨EH, hEH⟩ : ∃ E, v9.heap.size = E := ⟨_, rfl⟩
    have ld10 : (v9.alloc (.cells #[.int .i64 (x : Int), .int .i64 (y : Int)] 23)).heap[EH]? = some (.cells #[.int .i64 (x : Int), .int .i64 (y : Int)] 23) := (heap_new (by first | omega | (simp; omega)))
    have y10_0 := cell2_0 ld10
    have y10_1 := cell2_1 ld10
    clear ld10
    have HW := Lib.hid ((hw_v9.alloc (by have := hw_v9.size; first | omega | (simp; omega)) (.cells #[.int .i64 (x : Int), .int .i64 (y : Int)] 23)))
    go_wp2_with fail
    refine (OY.out _).mono ?_
    rintro e wq ⟨rfl, rfl⟩
    go_wp2_with fail
    refine (OX.out _).mono ?_
    rintro e wp ⟨rfl, rfl⟩
    go_wp2
    go_ret
    exact ⟨rfl, by first | exact HW.out | (rw [hD]; exact HW.out)⟩
  · obtain rfl : v = true := by rw [← HV.out]; rfl
    clear HV
    go_enter Tryz.func6, Tryz.ntmps6
    have P15 : Pg (w.alloc (.cells #[.int .i64 (a : Int), .int .i64 (b : Int)] 23)) := P.below (by first | exact ((Below.refl _ w).alloc (by first | omega | (simp; omega)) (.cells #[.int .i64 (a : Int), .int .i64 (b : Int)] 23)) | (rw [hD]; exact ((Below.refl _ w).alloc (by first | omega | (simp; omega)) (.cells #[.int .i64 (a : Int), .int .i64 (b : Int)] 23))))
    go_wp2_with fail
    refine (KN.out _ P15).mono ?_
    rintro e v1 ⟨rfl, hb_v1⟩
    have cX_v1 : v1.heap[D]? = some (.cells #[.int .i64 (a : Int), .int .i64 (b : Int)] 23) := (hb_v1.block (D) (Array.getElem?_eq_some_iff.1 (show (w.alloc (.cells #[.int .i64 (a : Int), .int .i64 (b : Int)] 23)).heap[D]? = some (.cells #[.int .i64 (a : Int), .int .i64 (b : Int)] 23) from (heap_new (by first | omega | (simp; omega))))).1).trans (heap_new (by first | omega | (simp; omega)))
    have hw_v1 : Below D w v1 := (((Below.refl _ w).alloc (by first | omega | (simp; omega)) (.cells #[.int .i64 (a : Int), .int .i64 (b : Int)] 23))).trans (hb_v1.mono (by first | omega | (simp; omega)))
    clear hb_v1
    have ld2 : v1.heap[D]? = some (.cells #[.int .i64 (a : Int), .int .i64 (b : Int)] 23) := cX_v1
    have y2_0 := cell2_0 ld2
    have y2_1 := cell2_1 ld2
    clear ld2
    go_wp2_with fail
    refine (CH.out _).mono ?_
    rintro e v3 ⟨rfl, hb_v3⟩
    have hs_v3 := hw_v1.size
    have cX_v3 : v3.heap[D]? = some (.cells #[.int .i64 (a : Int), .int .i64 (b : Int)] 23) := (hb_v3.block (D) (Array.getElem?_eq_some_iff.1 (show v1.heap[D]? = some (.cells #[.int .i64 (a : Int), .int .i64 (b : Int)] 23) from cX_v1)).1).trans cX_v1
    have hw_v3 : Below D w v3 := (hw_v1).trans (hb_v3.mono (by first | omega | (simp; omega)))
    clear cX_v1 hb_v3 y2_0 y2_1 hw_v1 hs_v3
    have ld4 : v3.heap[D]? = some (.cells #[.int .i64 (a : Int), .int .i64 (b : Int)] 23) := cX_v3
    have y4_0 := cell2_0 ld4
    have y4_1 := cell2_1 ld4
    clear ld4
    have P16 : Pg v3 := P.below (by first | exact hw_v3 | (rw [hD]; exact hw_v3))
    go_wp2_with fail
    refine (CL.out _ P16).mono ?_
    rintro e v5 ⟨rfl, hb_v5⟩
    have hs_v5 := hw_v3.size
    have cX_v5 : v5.heap[D]? = some (.cells #[.int .i64 (a : Int), .int .i64 (b : Int)] 23) := (hb_v5.block (D) (Array.getElem?_eq_some_iff.1 (show v3.heap[D]? = some (.cells #[.int .i64 (a : Int), .int .i64 (b : Int)] 23) from cX_v3)).1).trans cX_v3
    have hw_v5 : Below D w v5 := (hw_v3).trans (hb_v5.mono (by first | omega | (simp; omega)))
    clear cX_v3 hb_v5 y4_0 y4_1 hw_v3 hs_v5
    have ld6 : v5.heap[D]? = some (.cells #[.int .i64 (a : Int), .int .i64 (b : Int)] 23) := cX_v5
    have y6_0 := cell2_0 ld6
    have y6_1 := cell2_1 ld6
    clear ld6
    have P17 : Pg v5 := P.below (by first | exact hw_v5 | (rw [hD]; exact hw_v5))
    go_wp2_with fail
    refine (MU.out _ P17).mono ?_
    rintro e v7 ⟨rfl, hb_v7⟩
    have hs_v7 := hw_v5.size
    have cX_v7 : v7.heap[D]? = some (.cells #[.int .i64 (a : Int), .int .i64 (b : Int)] 23) := (hb_v7.block (D) (Array.getElem?_eq_some_iff.1 (show v5.heap[D]? = some (.cells #[.int .i64 (a : Int), .int .i64 (b : Int)] 23) from cX_v5)).1).trans cX_v5
    have hw_v7 : Below D w v7 := (hw_v5).trans (hb_v7.mono (by first | omega | (simp; omega)))
    clear cX_v5 hb_v7 y6_0 y6_1 hw_v5 hs_v7
    have ld8 : v7.heap[D]? = some (.cells #[.int .i64 (a : Int), .int .i64 (b : Int)] 23) := cX_v7
    have y8_0 := cell2_0 ld8
    have y8_1 := cell2_1 ld8
    clear ld8
    go_wp2_with fail
    refine (FF.out _).mono ?_
    rintro e v9 ⟨rfl, hb_v9⟩
    have hs_v9 := hw_v7.size
    have cX_v9 : v9.heap[D]? = some (.cells #[.int .i64 (a : Int), .int .i64 (b : Int)] 23) := (hb_v9.block (D) (Array.getElem?_eq_some_iff.1 (show v7.heap[D]? = some (.cells #[.int .i64 (a : Int), .int .i64 (b : Int)] 23) from cX_v7)).1).trans cX_v7
    have hw_v9 : Below D w v9 := (hw_v7).trans (hb_v9.mono (by first | omega | (simp; omega)))
    clear cX_v7 hb_v9 y8_0 y8_1 hw_v7 hs_v9
    obtain ⟨EH, hEH⟩ : ∃ E, v9.heap.size = E := ⟨_, rfl⟩
    have ld10 : (v9.alloc (.cells #[.int .i64 (x : Int), .int .i64 (y : Int)] 23)).heap[EH]? = some (.cells #[.int .i64 (x : Int), .int .i64 (y : Int)] 23) := (heap_new (by first | omega | (simp; omega)))
    have y10_0 := cell2_0 ld10
    have y10_1 := cell2_1 ld10
    clear ld10
    have HW := Lib.hid ((hw_v9.alloc (by have := hw_v9.size; first | omega | (simp; omega)) (.cells #[.int .i64 (x : Int), .int .i64 (y : Int)] 23)))
    go_wp2_with fail
    refine (OY.out _).mono ?_
    rintro e wq ⟨rfl, rfl⟩
    go_wp2_with fail
    refine (OX.out _).mono ?_
    rintro e wp ⟨rfl, rfl⟩
    go_wp2
    go_ret
    exact ⟨rfl, by first | exact HW.out | (rw [hD]; exact HW.out)⟩
  · obtain rfl : v = true := by rw [← HV.out]; simp [mutB, n1]
    clear HV
    have m1 : ¬ (p : Int) = 1 := by omega
    have m3 : ¬ (p : Int) = 3 := by omega
    have m5 : ¬ (p : Int) = 5 := by omega
    have m7 : ¬ (p : Int) = 7 := by omega
    go_enter Tryz.func6, Tryz.ntmps6
    have P18 : Pg (w.alloc (.cells #[.int .i64 (a : Int), .int .i64 (b : Int)] 23)) := P.below (by first | exact ((Below.refl _ w).alloc (by first | omega | (simp; omega)) (.cells #[.int .i64 (a : Int), .int .i64 (b : Int)] 23)) | (rw [hD]; exact ((Below.refl _ w).alloc (by first | omega | (simp; omega)) (.cells #[.int .i64 (a : Int), .int .i64 (b : Int)] 23))))
    go_wp2_with fail
    refine (KN.out _ P18).mono ?_
    rintro e v1 ⟨rfl, hb_v1⟩
    have cX_v1 : v1.heap[D]? = some (.cells #[.int .i64 (a : Int), .int .i64 (b : Int)] 23) := (hb_v1.block (D) (Array.getElem?_eq_some_iff.1 (show (w.alloc (.cells #[.int .i64 (a : Int), .int .i64 (b : Int)] 23)).heap[D]? = some (.cells #[.int .i64 (a : Int), .int .i64 (b : Int)] 23) from (heap_new (by first | omega | (simp; omega))))).1).trans (heap_new (by first | omega | (simp; omega)))
    have hw_v1 : Below D w v1 := (((Below.refl _ w).alloc (by first | omega | (simp; omega)) (.cells #[.int .i64 (a : Int), .int .i64 (b : Int)] 23))).trans (hb_v1.mono (by first | omega | (simp; omega)))
    clear hb_v1
    have ld2 : v1.heap[D]? = some (.cells #[.int .i64 (a : Int), .int .i64 (b : Int)] 23) := cX_v1
    have y2_0 := cell2_0 ld2
    have y2_1 := cell2_1 ld2
    clear ld2
    go_wp2_with fail
    refine (CH.out _).mono ?_
    rintro e v3 ⟨rfl, hb_v3⟩
    have hs_v3 := hw_v1.size
    have cX_v3 : v3.heap[D]? = some (.cells #[.int .i64 (a : Int), .int .i64 (b : Int)] 23) := (hb_v3.block (D) (Array.getElem?_eq_some_iff.1 (show v1.heap[D]? = some (.cells #[.int .i64 (a : Int), .int .i64 (b : Int)] 23) from cX_v1)).1).trans cX_v1
    have hw_v3 : Below D w v3 := (hw_v1).trans (hb_v3.mono (by first | omega | (simp; omega)))
    clear cX_v1 hb_v3 y2_0 y2_1 hw_v1 hs_v3
    have ld4 : v3.heap[D]? = some (.cells #[.int .i64 (a : Int), .int .i64 (b : Int)] 23) := cX_v3
    have y4_0 := cell2_0 ld4
    have y4_1 := cell2_1 ld4
    clear ld4
    have P19 : Pg v3 := P.below (by first | exact hw_v3 | (rw [hD]; exact hw_v3))
    go_wp2_with fail
    refine (CL.out _ P19).mono ?_
    rintro e v5 ⟨rfl, hb_v5⟩
    have hs_v5 := hw_v3.size
    have cX_v5 : v5.heap[D]? = some (.cells #[.int .i64 (a : Int), .int .i64 (b : Int)] 23) := (hb_v5.block (D) (Array.getElem?_eq_some_iff.1 (show v3.heap[D]? = some (.cells #[.int .i64 (a : Int), .int .i64 (b : Int)] 23) from cX_v3)).1).trans cX_v3
    have hw_v5 : Below D w v5 := (hw_v3).trans (hb_v5.mono (by first | omega | (simp; omega)))
    clear cX_v3 hb_v5 y4_0 y4_1 hw_v3 hs_v5
    have ld6 : v5.heap[D]? = some (.cells #[.int .i64 (a : Int), .int .i64 (b : Int)] 23) := cX_v5
    have y6_0 := cell2_0 ld6
    have y6_1 := cell2_1 ld6
    clear ld6
    have P20 : Pg v5 := P.below (by first | exact hw_v5 | (rw [hD]; exact hw_v5))
    go_wp2_with fail
    refine (MU.out _ P20).mono ?_
    rintro e v7 ⟨rfl, hb_v7⟩
    have hs_v7 := hw_v5.size
    have cX_v7 : v7.heap[D]? = some (.cells #[.int .i64 (a : Int), .int .i64 (b : Int)] 23) := (hb_v7.block (D) (Array.getElem?_eq_some_iff.1 (show v5.heap[D]? = some (.cells #[.int .i64 (a : Int), .int .i64 (b : Int)] 23) from cX_v5)).1).trans cX_v5
    have hw_v7 : Below D w v7 := (hw_v5).trans (hb_v7.mono (by first | omega | (simp; omega)))
    clear cX_v5 hb_v7 y6_0 y6_1 hw_v5 hs_v7
    have ld8 : v7.heap[D]? = some (.cells #[.int .i64 (a : Int), .int .i64 (b : Int)] 23) := cX_v7
    have y8_0 := cell2_0 ld8
    have y8_1 := cell2_1 ld8
    clear ld8
    go_wp2_with fail
    refine (FF.out _).mono ?_
    rintro e v9 ⟨rfl, hb_v9⟩
    have hs_v9 := hw_v7.size
    have cX_v9 : v9.heap[D]? = some (.cells #[.int .i64 (a : Int), .int .i64 (b : Int)] 23) := (hb_v9.block (D) (Array.getElem?_eq_some_iff.1 (show v7.heap[D]? = some (.cells #[.int .i64 (a : Int), .int .i64 (b : Int)] 23) from cX_v7)).1).trans cX_v7
    have hw_v9 : Below D w v9 := (hw_v7).trans (hb_v9.mono (by first | omega | (simp; omega)))
    clear cX_v7 hb_v9 y8_0 y8_1 hw_v7 hs_v9
    obtain ⟨EH, hEH⟩ : ∃ E, v9.heap.size = E := ⟨_, rfl⟩
    have ld10 : (v9.alloc (.cells #[.int .i64 (x : Int), .int .i64 (y : Int)] 23)).heap[EH]? = some (.cells #[.int .i64 (x : Int), .int .i64 (y : Int)] 23) := (heap_new (by first | omega | (simp; omega)))
    have y10_0 := cell2_0 ld10
    have y10_1 := cell2_1 ld10
    clear ld10
    have HW := Lib.hid ((hw_v9.alloc (by have := hw_v9.size; first | omega | (simp; omega)) (.cells #[.int .i64 (x : Int), .int .i64 (y : Int)] 23)))
    go_wp2_with fail
    refine (OY.out _).mono ?_
    rintro e wq ⟨rfl, rfl⟩
    go_wp2_with fail
    refine (OX.out _).mono ?_
    rintro e wp ⟨rfl, rfl⟩
    go_wp2
    go_ret
    exact ⟨rfl, by first | exact HW.out | (rw [hD]; exact HW.out)⟩
  · obtain rfl : v = true := by rw [← HV.out]; simp [mutB, n0]
    clear HV
    have m0 : ¬ (o : Int) = 1 := by omega
    go_enter Tryz.func6, Tryz.ntmps6
    have P21 : Pg (w.alloc (.cells #[.int .i64 (a : Int), .int .i64 (b : Int)] 23)) := P.below (by first | exact ((Below.refl _ w).alloc (by first | omega | (simp; omega)) (.cells #[.int .i64 (a : Int), .int .i64 (b : Int)] 23)) | (rw [hD]; exact ((Below.refl _ w).alloc (by first | omega | (simp; omega)) (.cells #[.int .i64 (a : Int), .int .i64 (b : Int)] 23))))
    go_wp2_with fail
    refine (KN.out _ P21).mono ?_
    rintro e v1 ⟨rfl, hb_v1⟩
    have cX_v1 : v1.heap[D]? = some (.cells #[.int .i64 (a : Int), .int .i64 (b : Int)] 23) := (hb_v1.block (D) (Array.getElem?_eq_some_iff.1 (show (w.alloc (.cells #[.int .i64 (a : Int), .int .i64 (b : Int)] 23)).heap[D]? = some (.cells #[.int .i64 (a : Int), .int .i64 (b : Int)] 23) from (heap_new (by first | omega | (simp; omega))))).1).trans (heap_new (by first | omega | (simp; omega)))
    have hw_v1 : Below D w v1 := (((Below.refl _ w).alloc (by first | omega | (simp; omega)) (.cells #[.int .i64 (a : Int), .int .i64 (b : Int)] 23))).trans (hb_v1.mono (by first | omega | (simp; omega)))
    clear hb_v1
    have ld2 : v1.heap[D]? = some (.cells #[.int .i64 (a : Int), .int .i64 (b : Int)] 23) := cX_v1
    have y2_0 := cell2_0 ld2
    have y2_1 := cell2_1 ld2
    clear ld2
    go_wp2_with fail
    refine (CH.out _).mono ?_
    rintro e v3 ⟨rfl, hb_v3⟩
    have hs_v3 := hw_v1.size
    have cX_v3 : v3.heap[D]? = some (.cells #[.int .i64 (a : Int), .int .i64 (b : Int)] 23) := (hb_v3.block (D) (Array.getElem?_eq_some_iff.1 (show v1.heap[D]? = some (.cells #[.int .i64 (a : Int), .int .i64 (b : Int)] 23) from cX_v1)).1).trans cX_v1
    have hw_v3 : Below D w v3 := (hw_v1).trans (hb_v3.mono (by first | omega | (simp; omega)))
    clear cX_v1 hb_v3 y2_0 y2_1 hw_v1 hs_v3
    have ld4 : v3.heap[D]? = some (.cells #[.int .i64 (a : Int), .int .i64 (b : Int)] 23) := cX_v3
    have y4_0 := cell2_0 ld4
    have y4_1 := cell2_1 ld4
    clear ld4
    have P22 : Pg v3 := P.below (by first | exact hw_v3 | (rw [hD]; exact hw_v3))
    go_wp2_with fail
    refine (CL.out _ P22).mono ?_
    rintro e v5 ⟨rfl, hb_v5⟩
    have hs_v5 := hw_v3.size
    have cX_v5 : v5.heap[D]? = some (.cells #[.int .i64 (a : Int), .int .i64 (b : Int)] 23) := (hb_v5.block (D) (Array.getElem?_eq_some_iff.1 (show v3.heap[D]? = some (.cells #[.int .i64 (a : Int), .int .i64 (b : Int)] 23) from cX_v3)).1).trans cX_v3
    have hw_v5 : Below D w v5 := (hw_v3).trans (hb_v5.mono (by first | omega | (simp; omega)))
    clear cX_v3 hb_v5 y4_0 y4_1 hw_v3 hs_v5
    have ld6 : v5.heap[D]? = some (.cells #[.int .i64 (a : Int), .int .i64 (b : Int)] 23) := cX_v5
    have y6_0 := cell2_0 ld6
    have y6_1 := cell2_1 ld6
    clear ld6
    have P23 : Pg v5 := P.below (by first | exact hw_v5 | (rw [hD]; exact hw_v5))
    go_wp2_with fail
    refine (MU.out _ P23).mono ?_
    rintro e v7 ⟨rfl, hb_v7⟩
    have hs_v7 := hw_v5.size
    have cX_v7 : v7.heap[D]? = some (.cells #[.int .i64 (a : Int), .int .i64 (b : Int)] 23) := (hb_v7.block (D) (Array.getElem?_eq_some_iff.1 (show v5.heap[D]? = some (.cells #[.int .i64 (a : Int), .int .i64 (b : Int)] 23) from cX_v5)).1).trans cX_v5
    have hw_v7 : Below D w v7 := (hw_v5).trans (hb_v7.mono (by first | omega | (simp; omega)))
    clear cX_v5 hb_v7 y6_0 y6_1 hw_v5 hs_v7
    have ld8 : v7.heap[D]? = some (.cells #[.int .i64 (a : Int), .int .i64 (b : Int)] 23) := cX_v7
    have y8_0 := cell2_0 ld8
    have y8_1 := cell2_1 ld8
    clear ld8
    go_wp2_with fail
    refine (FF.out _).mono ?_
    rintro e v9 ⟨rfl, hb_v9⟩
    have hs_v9 := hw_v7.size
    have cX_v9 : v9.heap[D]? = some (.cells #[.int .i64 (a : Int), .int .i64 (b : Int)] 23) := (hb_v9.block (D) (Array.getElem?_eq_some_iff.1 (show v7.heap[D]? = some (.cells #[.int .i64 (a : Int), .int .i64 (b : Int)] 23) from cX_v7)).1).trans cX_v7
    have hw_v9 : Below D w v9 := (hw_v7).trans (hb_v9.mono (by first | omega | (simp; omega)))
    clear cX_v7 hb_v9 y8_0 y8_1 hw_v7 hs_v9
    obtain ⟨EH, hEH⟩ : ∃ E, v9.heap.size = E := ⟨_, rfl⟩
    have ld10 : (v9.alloc (.cells #[.int .i64 (x : Int), .int .i64 (y : Int)] 23)).heap[EH]? = some (.cells #[.int .i64 (x : Int), .int .i64 (y : Int)] 23) := (heap_new (by first | omega | (simp; omega)))
    have y10_0 := cell2_0 ld10
    have y10_1 := cell2_1 ld10
    clear ld10
    have HW := Lib.hid ((hw_v9.alloc (by have := hw_v9.size; first | omega | (simp; omega)) (.cells #[.int .i64 (x : Int), .int .i64 (y : Int)] 23)))
    go_wp2_with fail
    refine (OY.out _).mono ?_
    rintro e wq ⟨rfl, rfl⟩
    go_wp2
    go_ret
    exact ⟨rfl, by first | exact HW.out | (rw [hD]; exact HW.out)⟩

theorem classes_law (a b : Int) (w : World) (P : Pg w) : Calls Tryz.prog 6 #[.agg #[.int .i64 a, .int .i64 b]] w fun e w' => e = .returned (.bool true) ∧ Below w.heap.size w w' := by
  by_cases h : pk a b = 0
  · obtain ⟨_, k1, k2, k3, k4, _⟩ := pk_ok h
    obtain ⟨n, rfl⟩ : ∃ n : Nat, a = n := ⟨a.toNat, by omega⟩
    obtain ⟨m, rfl⟩ : ∃ n : Nat, b = n := ⟨b.toNat, by omega⟩
    exact classes_ok n m h w P
  · exact classes_bad a b h w P
end Go.Proofs.YtkoljddejjfbiaaGreatDoor
