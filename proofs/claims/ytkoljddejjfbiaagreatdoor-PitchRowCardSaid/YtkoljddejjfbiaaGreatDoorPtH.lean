/- Contracts of pitch's odd, Class, IsMutation, Harmonic. -/
import Derived.Test.YtkoljddejjfbiaaGreatDoorPtG
import Derived.Test.YtkoljddejjfbiaaGreatDoorPtTz
namespace Go.Proofs.YtkoljddejjfbiaaGreatDoor
open Go Go.RowKit Go.Shelf

/-- What pitch's walks ask of memory. -/
structure Pg (W : World) : Prop where
  gi : Gi W
  tz : TabAt 2 Lib.deBruijn64tab W
theorem Pg.below {w w' : World} (h : Pg w) (hb : Below w.heap.size w w') : Pg w' :=
  ⟨h.gi.below hb, fun j hj => (hb.cell (p := ⟨2, j, none⟩) (by have := h.gi.size; simp; omega)).trans (h.tz j hj)⟩
theorem oddp_ctz {n : Nat} (h : 0 < n) (hb : n < 2 ^ 64) : (n : Int) / 2 ^ (Lib.ctz 64 n) = (oddp n : Nat) ∧ Lib.ctz 64 n < 64 := by
  obtain ⟨m, e, hk⟩ := Lib.ctzFrom_spec 64 n h hb
  have ec : Lib.ctz 64 n = Lib.ctzFrom 64 n := by simp [Lib.ctz]; omega
  rw [ec]
  refine ⟨?_, hk⟩
  generalize Lib.ctzFrom 64 n = k at e
  have ho : oddp n = 2 * m + 1 := by rw [e, Nat.mul_comm]; exact oddp_pow _ (by omega) k
  rw [ho]
  have : (n : Int) = (2 : Int) ^ k * ((2 * m + 1 : Nat) : Int) := by rw [e]; simp
  rw [this]
  exact Int.mul_ediv_cancel_left _ (Int.ne_of_gt (Int.pow_pos (by decide)))
theorem tz_any (n : Nat) (hb : n < 18446744073709551616) (w : World) (P : Pg w) :
    Calls Tryz.prog 54 #[.int .u64 n] w fun e w' => e = .returned (.int .i64 (Lib.ctz 64 n)) ∧ w' = w := by
  have T := Lib.hid (fun W h => Any7.bits_TrailingZeros64 Tryz.lays29 n hb W h)
  have HT := Lib.hid (fun (_ : n ≠ 0) => P.tz)
  go_enter Tryz.func54, Tryz.ntmps54
  go_wp2_with fail
  refine (T.out _ HT.out).mono ?_
  rintro e w' ⟨rfl, rfl⟩
  go_wp2
  go_ret
  exact ⟨rfl, rfl⟩
theorem podd_any (n : Nat) (h : 0 < n) (hb : n ≤ 16384) (w : World) (P : Pg w) :
    Calls Tryz.prog 37 #[.int .i64 n] w fun e w' => e = .returned (.int .i64 (oddp n : Nat)) ∧ w' = w := by
  have T := Lib.hid (fun W P => tz_any n (by omega) W P)
  obtain ⟨e1, e2⟩ := oddp_ctz h (by omega)
  have E1 := Lib.hid e1
  generalize Lib.ctz 64 n = k at *
  have hk0 : (0 : Int) ≤ (k : Int) := by omega
  have hk1 : (k : Int) ≤ 64 := by omega
  have wu : IntKind.u64.wrap (n : Int) = (n : Int) := by rw [IntKind.wrap_u64]; omega
  clear e1
  go_enter Tryz.func37, Tryz.ntmps37
  go_wp2_with fail
  refine (T.out _ P).mono ?_
  rintro e w' ⟨rfl, rfl⟩
  go_wp2
  go_ret
  exact ⟨ret_int (by rw [← E1.out]), rfl⟩

/-- The class of a harmonic whose odd part is p, out of feet with the odd numerator o. -/
def clsB (p : Nat) : ByteArray := if p = 1 then ⟨#[117, 110, 105, 115, 111, 110]⟩ else if p = 3 then ⟨#[113, 117, 105, 110, 116]⟩ else if p = 5 then ⟨#[116, 105, 101, 114, 99, 101]⟩ else if p = 7 then ⟨#[115, 101, 112, 116, 105, 101, 109, 101]⟩ else ⟨#[111, 116, 104, 101, 114]⟩
def cls (o p : Nat) : ByteArray := if o = 1 then clsB p else ⟨#[111, 116, 104, 101, 114]⟩
theorem cls_cases (o p : Nat) : (o = 1 ∧ p = 1 ∧ cls o p = ⟨#[117, 110, 105, 115, 111, 110]⟩) ∨ (o = 1 ∧ p = 3 ∧ cls o p = ⟨#[113, 117, 105, 110, 116]⟩) ∨ (o = 1 ∧ p = 5 ∧ cls o p = ⟨#[116, 105, 101, 114, 99, 101]⟩) ∨ (o = 1 ∧ p = 7 ∧ cls o p = ⟨#[115, 101, 112, 116, 105, 101, 109, 101]⟩) ∨ (o = 1 ∧ p ≠ 1 ∧ p ≠ 3 ∧ p ≠ 5 ∧ p ≠ 7 ∧ cls o p = ⟨#[111, 116, 104, 101, 114]⟩) ∨ (o ≠ 1 ∧ cls o p = ⟨#[111, 116, 104, 101, 114]⟩) := by
  unfold cls clsB
  by_cases h : o = 1
  · by_cases h1 : p = 1
    · exact .inl ⟨h, h1, by rw [if_pos h, if_pos h1]⟩
    by_cases h3 : p = 3
    · exact .inr (.inl ⟨h, h3, by rw [if_pos h, if_neg h1, if_pos h3]⟩)
    by_cases h5 : p = 5
    · exact .inr (.inr (.inl ⟨h, h5, by rw [if_pos h, if_neg h1, if_neg h3, if_pos h5]⟩))
    by_cases h7 : p = 7
    · exact .inr (.inr (.inr (.inl ⟨h, h7, by rw [if_pos h, if_neg h1, if_neg h3, if_neg h5, if_pos h7]⟩)))
    · exact .inr (.inr (.inr (.inr (.inl ⟨h, h1, h3, h5, h7, by rw [if_pos h, if_neg h1, if_neg h3, if_neg h5, if_neg h7]⟩))))
  · exact .inr (.inr (.inr (.inr (.inr ⟨h, by rw [if_neg h]⟩))))


theorem pclass_bad (a b z : Int) (hz : pk a b = z) (hn : ¬ z = 0) (w : World) :
    Calls Tryz.prog 17 #[.agg #[.int .i64 a, .int .i64 b]] w fun e w' => e = .returned (.tuple #[.string ⟨#[]⟩, .int .i64 z]) ∧ Below w.heap.size w w' := by
  have CB := Lib.hid (fun W => pcheck_any a b W)
  rw [hz] at CB
  clear hz
  obtain ⟨D, hD⟩ : ∃ D, w.heap.size = D := ⟨_, rfl⟩
  go_enter Tryz.func17, Tryz.ntmps17
  go_wp2_with fail
  refine (CB.out _).mono ?_
  rintro e w1 ⟨rfl, hb1⟩
  have hp0 : w1.heap[D]? = some (.cells #[.int .i64 a, .int .i64 b] 23) := (hb1.block D (by simp [hD])).trans (heap_new hD.symm)
  have hw1 : Below w.heap.size w w1 := ((Below.refl _ w).alloc (Nat.le_refl _) _).trans (hb1.mono (by simp))
  have hs1 := hw1.size
  have c0 := cell2_0 hp0
  have c1 := cell2_1 hp0
  clear hp0 hb1 CB
  go_wp2
  go_ret2
  exact ⟨rfl, hw1⟩


set_option maxHeartbeats 2000000 in
theorem pclass_ok (a b : Nat) (h1 : pk a b = 0) (w : World) (P : Pg w) :
    Calls Tryz.prog 17 #[.agg #[.int .i64 a, .int .i64 b]] w fun e w' => e = .returned (.tuple #[.string (cls (oddp a) (oddp b)), .int .i64 0]) ∧ Below w.heap.size w w' := by
  obtain ⟨_, k1, k2, k3, k4, _⟩ := pk_ok h1
  have CB := Lib.hid (fun W => pcheck_any (a : Int) (b : Int) W)
  rw [h1] at CB
  have OA := Lib.hid (fun W P => podd_any a (by omega) (by omega) W P)
  have OB := Lib.hid (fun W P => podd_any b (by omega) (by omega) W P)
  have cc := cls_cases (oddp a) (oddp b)
  obtain ⟨c, hc⟩ : ∃ c, cls (oddp a) (oddp b) = c := ⟨_, rfl⟩
  rw [hc] at cc ⊢
  generalize oddp a = o at *
  generalize oddp b = p at *
  clear hc h1 k1 k2 k3 k4
  rcases cc with ⟨rfl, rfl, rfl⟩ | ⟨rfl, rfl, rfl⟩ | ⟨rfl, rfl, rfl⟩ | ⟨rfl, rfl, rfl⟩ | ⟨rfl, n1, n3, n5, n7, rfl⟩ | ⟨n0, rfl⟩
  · skip
    obtain ⟨D, hD⟩ : ∃ D, w.heap.size = D := ⟨_, rfl⟩
    go_enter Tryz.func17, Tryz.ntmps17
    go_wp2_with fail
    refine (CB.out _).mono ?_
    rintro e w1 ⟨rfl, hb1⟩
    have hp0 : w1.heap[D]? = some (.cells #[.int .i64 (a : Int), .int .i64 (b : Int)] 23) := (hb1.block D (by simp [hD])).trans (heap_new hD.symm)
    have hw1 : Below w.heap.size w w1 := ((Below.refl _ w).alloc (Nat.le_refl _) _).trans (hb1.mono (by simp))
    have hs1 := hw1.size
    have c0 := cell2_0 hp0
    have c1 := cell2_1 hp0
    clear hp0 hb1 CB
    go_wp2_with fail
    refine (OA.out _ (P.below hw1)).mono ?_
    rintro e w2 ⟨rfl, rfl⟩
    go_wp2_with fail
    refine (OB.out _ (P.below hw1)).mono ?_
    rintro e w3 ⟨rfl, rfl⟩
    go_wp2
    go_ret2
    exact ⟨rfl, hw1⟩
  · skip
    obtain ⟨D, hD⟩ : ∃ D, w.heap.size = D := ⟨_, rfl⟩
    go_enter Tryz.func17, Tryz.ntmps17
    go_wp2_with fail
    refine (CB.out _).mono ?_
    rintro e w1 ⟨rfl, hb1⟩
    have hp0 : w1.heap[D]? = some (.cells #[.int .i64 (a : Int), .int .i64 (b : Int)] 23) := (hb1.block D (by simp [hD])).trans (heap_new hD.symm)
    have hw1 : Below w.heap.size w w1 := ((Below.refl _ w).alloc (Nat.le_refl _) _).trans (hb1.mono (by simp))
    have hs1 := hw1.size
    have c0 := cell2_0 hp0
    have c1 := cell2_1 hp0
    clear hp0 hb1 CB
    go_wp2_with fail
    refine (OA.out _ (P.below hw1)).mono ?_
    rintro e w2 ⟨rfl, rfl⟩
    go_wp2_with fail
    refine (OB.out _ (P.below hw1)).mono ?_
    rintro e w3 ⟨rfl, rfl⟩
    go_wp2
    go_ret2
    exact ⟨rfl, hw1⟩
  · skip
    obtain ⟨D, hD⟩ : ∃ D, w.heap.size = D := ⟨_, rfl⟩
    go_enter Tryz.func17, Tryz.ntmps17
    go_wp2_with fail
    refine (CB.out _).mono ?_
    rintro e w1 ⟨rfl, hb1⟩
    have hp0 : w1.heap[D]? = some (.cells #[.int .i64 (a : Int), .int .i64 (b : Int)] 23) := (hb1.block D (by simp [hD])).trans (heap_new hD.symm)
    have hw1 : Below w.heap.size w w1 := ((Below.refl _ w).alloc (Nat.le_refl _) _).trans (hb1.mono (by simp))
    have hs1 := hw1.size
    have c0 := cell2_0 hp0
    have c1 := cell2_1 hp0
    clear hp0 hb1 CB
    go_wp2_with fail
    refine (OA.out _ (P.below hw1)).mono ?_
    rintro e w2 ⟨rfl, rfl⟩
    go_wp2_with fail
    refine (OB.out _ (P.below hw1)).mono ?_
    rintro e w3 ⟨rfl, rfl⟩
    go_wp2
    go_ret2
    exact ⟨rfl, hw1⟩
  · skip
    obtain ⟨D, hD⟩ : ∃ D, w.heap.size = D := ⟨_, rfl⟩
    go_enter Tryz.func17, Tryz.ntmps17
    go_wp2_with fail
    refine (CB.out _).mono ?_
    rintro e w1 ⟨rfl, hb1⟩
    have hp0 : w1.heap[D]? = some (.cells #[.int .i64 (a : Int), .int .i64 (b : Int)] 23) := (hb1.block D (by simp [hD])).trans (heap_new hD.symm)
    have hw1 : Below w.heap.size w w1 := ((Below.refl _ w).alloc (Nat.le_refl _) _).trans (hb1.mono (by simp))
    have hs1 := hw1.size
    have c0 := cell2_0 hp0
    have c1 := cell2_1 hp0
    clear hp0 hb1 CB
    go_wp2_with fail
    refine (OA.out _ (P.below hw1)).mono ?_
    rintro e w2 ⟨rfl, rfl⟩
    go_wp2_with fail
    refine (OB.out _ (P.below hw1)).mono ?_
    rintro e w3 ⟨rfl, rfl⟩
    go_wp2
    go_ret2
    exact ⟨rfl, hw1⟩
  · have m1 : ¬ (p : Int) = 1 := by omega
    have m3 : ¬ (p : Int) = 3 := by omega
    have m5 : ¬ (p : Int) = 5 := by omega
    have m7 : ¬ (p : Int) = 7 := by omega
    obtain ⟨D, hD⟩ : ∃ D, w.heap.size = D := ⟨_, rfl⟩
    go_enter Tryz.func17, Tryz.ntmps17
    go_wp2_with fail
    refine (CB.out _).mono ?_
    rintro e w1 ⟨rfl, hb1⟩
    have hp0 : w1.heap[D]? = some (.cells #[.int .i64 (a : Int), .int .i64 (b : Int)] 23) := (hb1.block D (by simp [hD])).trans (heap_new hD.symm)
    have hw1 : Below w.heap.size w w1 := ((Below.refl _ w).alloc (Nat.le_refl _) _).trans (hb1.mono (by simp))
    have hs1 := hw1.size
    have c0 := cell2_0 hp0
    have c1 := cell2_1 hp0
    clear hp0 hb1 CB
    go_wp2_with fail
    refine (OA.out _ (P.below hw1)).mono ?_
    rintro e w2 ⟨rfl, rfl⟩
    go_wp2_with fail
    refine (OB.out _ (P.below hw1)).mono ?_
    rintro e w3 ⟨rfl, rfl⟩
    go_wp2
    go_ret2
    exact ⟨rfl, hw1⟩
  · have m0 : ¬ (o : Int) = 1 := by omega
    obtain ⟨D, hD⟩ : ∃ D, w.heap.size = D := ⟨_, rfl⟩
    go_enter Tryz.func17, Tryz.ntmps17
    go_wp2_with fail
    refine (CB.out _).mono ?_
    rintro e w1 ⟨rfl, hb1⟩
    have hp0 : w1.heap[D]? = some (.cells #[.int .i64 (a : Int), .int .i64 (b : Int)] 23) := (hb1.block D (by simp [hD])).trans (heap_new hD.symm)
    have hw1 : Below w.heap.size w w1 := ((Below.refl _ w).alloc (Nat.le_refl _) _).trans (hb1.mono (by simp))
    have hs1 := hw1.size
    have c0 := cell2_0 hp0
    have c1 := cell2_1 hp0
    clear hp0 hb1 CB
    go_wp2_with fail
    refine (OA.out _ (P.below hw1)).mono ?_
    rintro e w2 ⟨rfl, rfl⟩
    go_wp2
    go_ret2
    exact ⟨rfl, hw1⟩


/-- Whether feet are a mutation. -/
def mutB (o p : Nat) : Bool := !decide (o = 1 ∧ p = 1)
theorem pmut_bad (a b z : Int) (hz : pk a b = z) (hn : ¬ z = 0) (w : World) :
    Calls Tryz.prog 18 #[.agg #[.int .i64 a, .int .i64 b]] w fun e w' => e = .returned (.tuple #[.bool false, .int .i64 z]) ∧ Below w.heap.size w w' := by
  have CB := Lib.hid (fun W => pclass_bad a b z hz hn W)
  clear hz
  obtain ⟨D, hD⟩ : ∃ D, w.heap.size = D := ⟨_, rfl⟩
  go_enter Tryz.func18, Tryz.ntmps18
  go_wp2_with fail
  refine (CB.out _).mono ?_
  rintro e w1 ⟨rfl, hb1⟩
  have hp0 : w1.heap[D]? = some (.cells #[.int .i64 a, .int .i64 b] 23) := (hb1.block D (by simp [hD])).trans (heap_new hD.symm)
  have hw1 : Below w.heap.size w w1 := ((Below.refl _ w).alloc (Nat.le_refl _) _).trans (hb1.mono (by simp))
  have hs1 := hw1.size
  have c0 := cell2_0 hp0
  have c1 := cell2_1 hp0
  clear hp0 hb1 CB
  go_wp2
  go_ret2
  exact ⟨rfl, hw1⟩
set_option maxHeartbeats 2000000 in
theorem pmut_ok (a b : Nat) (h1 : pk a b = 0) (w : World) (P : Pg w) :
    Calls Tryz.prog 18 #[.agg #[.int .i64 a, .int .i64 b]] w fun e w' => e = .returned (.tuple #[.bool (mutB (oddp a) (oddp b)), .int .i64 0]) ∧ Below w.heap.size w w' := by
  have CB := Lib.hid (fun W P => pclass_ok a b h1 W P)
  have cc := cls_cases (oddp a) (oddp b)
  obtain ⟨c, hc⟩ : ∃ c, cls (oddp a) (oddp b) = c := ⟨_, rfl⟩
  rw [hc] at cc CB
  obtain ⟨v, hv⟩ : ∃ v, mutB (oddp a) (oddp b) = v := ⟨_, rfl⟩
  rw [hv]
  have HV := Lib.hid hv
  generalize oddp a = o at *
  generalize oddp b = p at *
  clear hc h1 hv
  rcases cc with ⟨rfl, rfl, rfl⟩ | ⟨rfl, rfl, rfl⟩ | ⟨rfl, rfl, rfl⟩ | ⟨rfl, rfl, rfl⟩ | ⟨rfl, n1, n3, n5, n7, rfl⟩ | ⟨n0, rfl⟩
  · obtain rfl : v = false := by rw [← HV.out]; rfl
    clear HV
    obtain ⟨D, hD⟩ : ∃ D, w.heap.size = D := ⟨_, rfl⟩
    go_enter Tryz.func18, Tryz.ntmps18
    go_wp2_with fail
    refine (CB.out _ (P.below ((Below.refl _ w).alloc (Nat.le_refl _) _))).mono ?_
    rintro e w1 ⟨rfl, hb1⟩
    have hp0 : w1.heap[D]? = some (.cells #[.int .i64 (a : Int), .int .i64 (b : Int)] 23) := (hb1.block D (by simp [hD])).trans (heap_new hD.symm)
    have hw1 : Below w.heap.size w w1 := ((Below.refl _ w).alloc (Nat.le_refl _) _).trans (hb1.mono (by simp))
    have hs1 := hw1.size
    have c0 := cell2_0 hp0
    have c1 := cell2_1 hp0
    clear hp0 hb1 CB
    go_wp2
    go_ret2
    exact ⟨rfl, hw1⟩
  · obtain rfl : v = true := by rw [← HV.out]; rfl
    clear HV
    obtain ⟨D, hD⟩ : ∃ D, w.heap.size = D := ⟨_, rfl⟩
    go_enter Tryz.func18, Tryz.ntmps18
    go_wp2_with fail
    refine (CB.out _ (P.below ((Below.refl _ w).alloc (Nat.le_refl _) _))).mono ?_
    rintro e w1 ⟨rfl, hb1⟩
    have hp0 : w1.heap[D]? = some (.cells #[.int .i64 (a : Int), .int .i64 (b : Int)] 23) := (hb1.block D (by simp [hD])).trans (heap_new hD.symm)
    have hw1 : Below w.heap.size w w1 := ((Below.refl _ w).alloc (Nat.le_refl _) _).trans (hb1.mono (by simp))
    have hs1 := hw1.size
    have c0 := cell2_0 hp0
    have c1 := cell2_1 hp0
    clear hp0 hb1 CB
    go_wp2
    go_ret2
    exact ⟨rfl, hw1⟩
  · obtain rfl : v = true := by rw [← HV.out]; rfl
    clear HV
    obtain ⟨D, hD⟩ : ∃ D, w.heap.size = D := ⟨_, rfl⟩
    go_enter Tryz.func18, Tryz.ntmps18
    go_wp2_with fail
    refine (CB.out _ (P.below ((Below.refl _ w).alloc (Nat.le_refl _) _))).mono ?_
    rintro e w1 ⟨rfl, hb1⟩
    have hp0 : w1.heap[D]? = some (.cells #[.int .i64 (a : Int), .int .i64 (b : Int)] 23) := (hb1.block D (by simp [hD])).trans (heap_new hD.symm)
    have hw1 : Below w.heap.size w w1 := ((Below.refl _ w).alloc (Nat.le_refl _) _).trans (hb1.mono (by simp))
    have hs1 := hw1.size
    have c0 := cell2_0 hp0
    have c1 := cell2_1 hp0
    clear hp0 hb1 CB
    go_wp2
    go_ret2
    exact ⟨rfl, hw1⟩
  · obtain rfl : v = true := by rw [← HV.out]; rfl
    clear HV
    obtain ⟨D, hD⟩ : ∃ D, w.heap.size = D := ⟨_, rfl⟩
    go_enter Tryz.func18, Tryz.ntmps18
    go_wp2_with fail
    refine (CB.out _ (P.below ((Below.refl _ w).alloc (Nat.le_refl _) _))).mono ?_
    rintro e w1 ⟨rfl, hb1⟩
    have hp0 : w1.heap[D]? = some (.cells #[.int .i64 (a : Int), .int .i64 (b : Int)] 23) := (hb1.block D (by simp [hD])).trans (heap_new hD.symm)
    have hw1 : Below w.heap.size w w1 := ((Below.refl _ w).alloc (Nat.le_refl _) _).trans (hb1.mono (by simp))
    have hs1 := hw1.size
    have c0 := cell2_0 hp0
    have c1 := cell2_1 hp0
    clear hp0 hb1 CB
    go_wp2
    go_ret2
    exact ⟨rfl, hw1⟩
  · obtain rfl : v = true := by rw [← HV.out]; simp [mutB, n1]
    clear HV
    obtain ⟨D, hD⟩ : ∃ D, w.heap.size = D := ⟨_, rfl⟩
    go_enter Tryz.func18, Tryz.ntmps18
    go_wp2_with fail
    refine (CB.out _ (P.below ((Below.refl _ w).alloc (Nat.le_refl _) _))).mono ?_
    rintro e w1 ⟨rfl, hb1⟩
    have hp0 : w1.heap[D]? = some (.cells #[.int .i64 (a : Int), .int .i64 (b : Int)] 23) := (hb1.block D (by simp [hD])).trans (heap_new hD.symm)
    have hw1 : Below w.heap.size w w1 := ((Below.refl _ w).alloc (Nat.le_refl _) _).trans (hb1.mono (by simp))
    have hs1 := hw1.size
    have c0 := cell2_0 hp0
    have c1 := cell2_1 hp0
    clear hp0 hb1 CB
    go_wp2
    go_ret2
    exact ⟨rfl, hw1⟩
  · obtain rfl : v = true := by rw [← HV.out]; simp [mutB, n0]
    clear HV
    obtain ⟨D, hD⟩ : ∃ D, w.heap.size = D := ⟨_, rfl⟩
    go_enter Tryz.func18, Tryz.ntmps18
    go_wp2_with fail
    refine (CB.out _ (P.below ((Below.refl _ w).alloc (Nat.le_refl _) _))).mono ?_
    rintro e w1 ⟨rfl, hb1⟩
    have hp0 : w1.heap[D]? = some (.cells #[.int .i64 (a : Int), .int .i64 (b : Int)] 23) := (hb1.block D (by simp [hD])).trans (heap_new hD.symm)
    have hw1 : Below w.heap.size w w1 := ((Below.refl _ w).alloc (Nat.le_refl _) _).trans (hb1.mono (by simp))
    have hs1 := hw1.size
    have c0 := cell2_0 hp0
    have c1 := cell2_1 hp0
    clear hp0 hb1 CB
    go_wp2
    go_ret2
    exact ⟨rfl, hw1⟩

end Go.Proofs.YtkoljddejjfbiaaGreatDoor
