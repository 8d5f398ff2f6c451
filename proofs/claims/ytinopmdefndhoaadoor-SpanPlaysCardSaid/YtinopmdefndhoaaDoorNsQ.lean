/- Shift, and the reference's: a set moved. -/
import Derived.Test.YtinopmdefndhoaaDoorSpC
import Derived.Test.YtinopmdefndhoaaDoorNsSh
import Derived.Deep.DeepCutAuto
namespace Go.Proofs.YtinopmdefndhoaaDoor
open Go Go.RowKit Go.Shelf

theorem wrap_shl (a k : Nat) : IntKind.u64.wrap ((a : Int) * 2 ^ k) = (Ns.shl a k : Nat) := by
  unfold Ns.shl
  have e : (a : Int) * 2 ^ k = ((a * 2 ^ k : Nat) : Int) := by simp
  rw [e, IntKind.wrap_u64]
  generalize a * 2 ^ k = z
  omega
theorem shr_cast (a k : Nat) : (a : Int) / 2 ^ k = ((a / 2 ^ k : Nat) : Int) := by simp

set_option maxHeartbeats 1000000 in
theorem down_high (a b k : Nat) (h : 64 ≤ k) (h2 : k < 128) (w : World) :
    Calls Tryd.prog 54 #[.agg #[.int .u64 a, .int .u64 b], .int .i64 k] w fun e w' => e = .returned (.agg #[.int .u64 (Ns.dnLo a b k : Nat), .int .u64 (Ns.dnHi b k : Nat)]) ∧ Below w.heap.size w w' := by
  have e1 : Ns.dnLo a b k = b / 2 ^ (k - 64) := by unfold Ns.dnLo; rw [if_pos h]
  have e2 : Ns.dnHi b k = 0 := by unfold Ns.dnHi; rw [if_pos h]
  rw [e1, e2, ← shr_cast]
  clear e1 e2
  have h1 : (64 : Int) ≤ (k : Int) := by omega
  have h3 : IntKind.i64.wrap ((k : Int) - 64) = (k : Int) - 64 := by rw [IntKind.wrap_i64]; omega
  have h4 : ((k : Int) - 64).toNat = k - 64 := by omega
  go_enter Tryd.func54, Tryd.ntmps54
  go_wp2
  refine bodyPost_ret (v := .agg #[.int .u64 (((b : Nat) : Int) / 2 ^ (k - 64)), .int .u64 (0)]) (by simp [results, Tryd.results54, go_sem]) rfl ⟨rfl, ?_⟩
  repeat (first | exact Below.refl _ _ | (refine Below.setCell ?_ (by simp <;> omega) _) | (refine Below.alloc ?_ (by simp <;> omega) _))

set_option maxHeartbeats 1000000 in
theorem down_low (a b k : Nat) (h : k < 64) (ha : a < 18446744073709551616) (w : World) :
    Calls Tryd.prog 54 #[.agg #[.int .u64 a, .int .u64 b], .int .i64 k] w fun e w' => e = .returned (.agg #[.int .u64 (Ns.dnLo a b k : Nat), .int .u64 (Ns.dnHi b k : Nat)]) ∧ Below w.heap.size w w' := by
  obtain ⟨sh, hsh⟩ : ∃ sh, Ns.shl b (64 - k) = sh := ⟨_, rfl⟩
  have hs2 : sh < 18446744073709551616 := by rw [← hsh]; exact Ns.shl_lt _ _
  obtain ⟨z, hz⟩ : ∃ z, a / 2 ^ k ||| sh = z := ⟨_, rfl⟩
  have e1 : Ns.dnLo a b k = z := by unfold Ns.dnLo; rw [if_neg (by omega), hsh, hz]
  have e2 : Ns.dnHi b k = b / 2 ^ k := by unfold Ns.dnHi; rw [if_neg (by omega)]
  have h7 := wrap_shl b (64 - k)
  have h8 := u64_or_nat (a / 2 ^ k) sh (Ns.shr_lt _ ha) hs2
  rw [hsh] at h7
  rw [hz, ← shr_cast] at h8
  rw [e1, e2, ← shr_cast]
  clear e1 e2 hsh hz
  have h1 : ¬ (64 : Int) ≤ (k : Int) := by omega
  have h3 : IntKind.i64.wrap (64 - (k : Int)) = 64 - (k : Int) := by rw [IntKind.wrap_i64]; omega
  have h4 : (64 - (k : Int)).toNat = 64 - k := by omega
  have h9 : (0 : Int) ≤ 64 - (k : Int) := by omega
  go_enter Tryd.func54, Tryd.ntmps54
  go_wp2
  go_region
  go_wp2
  refine bodyPost_ret (v := .agg #[.int .u64 ((z : Nat)), .int .u64 (((b : Nat) : Int) / 2 ^ k)]) (by simp [results, Tryd.results54, go_sem]) rfl ⟨rfl, ?_⟩
  repeat (first | exact Below.refl _ _ | (refine Below.drew ?_) | (refine Below.setCell ?_ (by simp <;> omega) _) | (refine Below.alloc ?_ (by simp <;> omega) _))

set_option maxHeartbeats 1000000 in
theorem up_high (a b k : Nat) (h : 64 ≤ k) (h2 : k < 128) (w : World) :
    Calls Tryd.prog 55 #[.agg #[.int .u64 a, .int .u64 b], .int .i64 k] w fun e w' => e = .returned (.agg #[.int .u64 (Ns.upLo a k : Nat), .int .u64 (Ns.upHi a b k : Nat)]) ∧ Below w.heap.size w w' := by
  obtain ⟨sh, hsh⟩ : ∃ sh, Ns.shl a (k - 64) = sh := ⟨_, rfl⟩
  have e1 : Ns.upLo a k = 0 := by unfold Ns.upLo; rw [if_pos h]
  have e2 : Ns.upHi a b k = sh := by unfold Ns.upHi; rw [if_pos h, hsh]
  have h5 := wrap_shl a (k - 64)
  rw [hsh] at h5
  rw [e1, e2]
  clear e1 e2 hsh
  have h1 : (64 : Int) ≤ (k : Int) := by omega
  have h3 : IntKind.i64.wrap ((k : Int) - 64) = (k : Int) - 64 := by rw [IntKind.wrap_i64]; omega
  have h4 : ((k : Int) - 64).toNat = k - 64 := by omega
  go_enter Tryd.func55, Tryd.ntmps55
  go_wp2
  refine bodyPost_ret (v := .agg #[.int .u64 (0), .int .u64 ((sh : Nat))]) (by simp [results, Tryd.results55, go_sem]) rfl ⟨rfl, ?_⟩
  repeat (first | exact Below.refl _ _ | (refine Below.setCell ?_ (by simp <;> omega) _) | (refine Below.alloc ?_ (by simp <;> omega) _))

set_option maxHeartbeats 1000000 in
theorem up_low (a b k : Nat) (h : k < 64) (ha : a < 18446744073709551616) (w : World) :
    Calls Tryd.prog 55 #[.agg #[.int .u64 a, .int .u64 b], .int .i64 k] w fun e w' => e = .returned (.agg #[.int .u64 (Ns.upLo a k : Nat), .int .u64 (Ns.upHi a b k : Nat)]) ∧ Below w.heap.size w w' := by
  obtain ⟨sl, hsl⟩ : ∃ sl, Ns.shl a k = sl := ⟨_, rfl⟩
  obtain ⟨sh, hsh⟩ : ∃ sh, Ns.shl b k = sh := ⟨_, rfl⟩
  have hs2 : sh < 18446744073709551616 := by rw [← hsh]; exact Ns.shl_lt _ _
  obtain ⟨z, hz⟩ : ∃ z, sh ||| a / 2 ^ (64 - k) = z := ⟨_, rfl⟩
  have e1 : Ns.upLo a k = sl := by unfold Ns.upLo; rw [if_neg (by omega), hsl]
  have e2 : Ns.upHi a b k = z := by unfold Ns.upHi; rw [if_neg (by omega), hsh, hz]
  have h6 := wrap_shl a k
  have h7 := wrap_shl b k
  have h8 := u64_or_nat sh (a / 2 ^ (64 - k)) hs2 (Ns.shr_lt _ ha)
  rw [hsl] at h6
  rw [hsh] at h7
  rw [hz, ← shr_cast] at h8
  rw [e1, e2]
  clear e1 e2 hsh hz hsl
  have h1 : ¬ (64 : Int) ≤ (k : Int) := by omega
  have h3 : IntKind.i64.wrap (64 - (k : Int)) = 64 - (k : Int) := by rw [IntKind.wrap_i64]; omega
  have h4 : (64 - (k : Int)).toNat = 64 - k := by omega
  have h9 : (0 : Int) ≤ 64 - (k : Int) := by omega
  go_enter Tryd.func55, Tryd.ntmps55
  go_wp2
  go_region
  go_wp2
  refine bodyPost_ret (v := .agg #[.int .u64 ((sl : Nat)), .int .u64 ((z : Nat))]) (by simp [results, Tryd.results55, go_sem]) rfl ⟨rfl, ?_⟩
  repeat (first | exact Below.refl _ _ | (refine Below.drew ?_) | (refine Below.setCell ?_ (by simp <;> omega) _) | (refine Below.alloc ?_ (by simp <;> omega) _))

theorem down_any (a b k : Nat) (h : k < 128) (ha : a < 18446744073709551616) (w : World) :
    Calls Tryd.prog 54 #[.agg #[.int .u64 a, .int .u64 b], .int .i64 k] w fun e w' => e = .returned (.agg #[.int .u64 (Ns.dnLo a b k : Nat), .int .u64 (Ns.dnHi b k : Nat)]) ∧ Below w.heap.size w w' := by
  by_cases h1 : k < 64
  · exact down_low a b k h1 ha w
  · exact down_high a b k (by omega) h w
theorem up_any (a b k : Nat) (h : k < 128) (ha : a < 18446744073709551616) (w : World) :
    Calls Tryd.prog 55 #[.agg #[.int .u64 a, .int .u64 b], .int .i64 k] w fun e w' => e = .returned (.agg #[.int .u64 (Ns.upLo a k : Nat), .int .u64 (Ns.upHi a b k : Nat)]) ∧ Below w.heap.size w w' := by
  by_cases h1 : k < 64
  · exact up_low a b k h1 ha w
  · exact up_high a b k (by omega) h w

set_option maxHeartbeats 1000000 in
theorem shift_out (a b : Nat) (k : Int) (h : k < -127 ∨ 127 < k) (w : World) :
    Calls Tryd.prog 35 #[.agg #[.int .u64 a, .int .u64 b], .int .i64 k] w fun e w' => e = .returned (.agg #[.int .u64 (Ns.shLo a b k : Nat), .int .u64 (Ns.shHi a b k : Nat)]) ∧ Below w.heap.size w w' := by
  have e1 : Ns.shLo a b k = 0 := by unfold Ns.shLo; rw [if_pos h]
  have e2 : Ns.shHi a b k = 0 := by unfold Ns.shHi; rw [if_pos h]
  rw [e1, e2]
  clear e1 e2
  by_cases h1 : k < -127
  · go_enter Tryd.func35, Tryd.ntmps35
    go_wp2
    refine bodyPost_ret (v := .agg #[.int .u64 0, .int .u64 0]) (by simp [results, Tryd.results35, go_sem]) rfl ⟨rfl, ?_⟩
    repeat (first | exact Below.refl _ _ | (refine Below.drew ?_) | (refine Below.setCell ?_ (by simp <;> omega) _) | (refine Below.alloc ?_ (by simp <;> omega) _))
  · have h2 : 127 < k := by omega
    have h3 : -127 ≤ k := by omega
    go_enter Tryd.func35, Tryd.ntmps35
    go_wp2
    refine bodyPost_ret (v := .agg #[.int .u64 0, .int .u64 0]) (by simp [results, Tryd.results35, go_sem]) rfl ⟨rfl, ?_⟩
    repeat (first | exact Below.refl _ _ | (refine Below.drew ?_) | (refine Below.setCell ?_ (by simp <;> omega) _) | (refine Below.alloc ?_ (by simp <;> omega) _))

set_option maxHeartbeats 1000000 in
theorem shift_neg (a b k : Nat) (h0 : 0 < k) (h : k ≤ 127) (ha : a < 18446744073709551616) (w : World) :
    Calls Tryd.prog 35 #[.agg #[.int .u64 a, .int .u64 b], .int .i64 (-(k : Int))] w fun e w' => e = .returned (.agg #[.int .u64 (Ns.dnLo a b k : Nat), .int .u64 (Ns.dnHi b k : Nat)]) ∧ Below w.heap.size w w' := by
  have D := Lib.hid (fun W => down_any a b k (by omega) ha W)
  obtain ⟨x, hx⟩ : ∃ x, Ns.dnLo a b k = x := ⟨_, rfl⟩
  obtain ⟨y, hy⟩ : ∃ y, Ns.dnHi b k = y := ⟨_, rfl⟩
  rw [hx, hy] at D ⊢
  clear hx hy
  have h1 : ¬ -(k : Int) < -127 := by omega
  have h2 : ¬ -(k : Int) > 127 := by omega
  have h3 : -(k : Int) < 0 := by omega
  have h4 : IntKind.i64.wrap (-(-(k : Int))) = (k : Int) := by rw [IntKind.wrap_i64]; omega
  have h5 : IntKind.i64.wrap (k : Int) = (k : Int) := by rw [IntKind.wrap_i64]; omega
  go_enter Tryd.func35, Tryd.ntmps35
  go_wp2_with fail
  refine (D.out _).mono ?_
  rintro e w1 ⟨rfl, hb1⟩
  have hz := hb1.size
  simp at hz
  have hs0 : SetAt ((w.alloc (.cells #[.int .u64 a, .int .u64 b] 26)).alloc (.cells #[.int .u64 0, .int .u64 0] 26)) (w.heap.size + 1) 0 0 := by
    simpa using SetAt.new (w.alloc (.cells #[.int .u64 a, .int .u64 b] 26)) 0 0
  have hs1 := hs0.below hs0.lt hb1
  have g0 := hs1.fst
  have g1 := hs1.snd
  have g2 := hs1.f0
  have g3 := hs1.f1
  go_wp2
  have hq := hs1.put x y
  have q0 := hq.fst
  have q1 := hq.snd
  refine bodyPost_ret (v := .agg #[.int .u64 (x : Nat), .int .u64 (y : Nat)]) (by simp [results, Tryd.results35, go_sem, q0, q1]) rfl ⟨rfl, ?_⟩
  exact (((((Below.refl _ _).alloc (Nat.le_refl _) _).alloc (by simp) _).trans (hb1.mono (by simp; omega))).setCell (p := ⟨w.heap.size + 1, 0, none⟩) (Nat.le_succ _) _).setCell (p := ⟨w.heap.size + 1, 1, none⟩) (Nat.le_succ _) _

set_option maxHeartbeats 1000000 in
theorem shift_pos (a b k : Nat) (h : k ≤ 127) (ha : a < 18446744073709551616) (w : World) :
    Calls Tryd.prog 35 #[.agg #[.int .u64 a, .int .u64 b], .int .i64 k] w fun e w' => e = .returned (.agg #[.int .u64 (Ns.upLo a k : Nat), .int .u64 (Ns.upHi a b k : Nat)]) ∧ Below w.heap.size w w' := by
  have D := Lib.hid (fun W => up_any a b k (by omega) ha W)
  obtain ⟨x, hx⟩ : ∃ x, Ns.upLo a k = x := ⟨_, rfl⟩
  obtain ⟨y, hy⟩ : ∃ y, Ns.upHi a b k = y := ⟨_, rfl⟩
  rw [hx, hy] at D ⊢
  clear hx hy
  have h1 : ¬ (k : Int) < -127 := by omega
  have h2 : ¬ (k : Int) > 127 := by omega
  have h3 : ¬ (k : Int) < 0 := by omega
  go_enter Tryd.func35, Tryd.ntmps35
  go_wp2_with fail
  refine (D.out _).mono ?_
  rintro e w1 ⟨rfl, hb1⟩
  have hz := hb1.size
  simp at hz
  have hs0 : SetAt ((w.alloc (.cells #[.int .u64 a, .int .u64 b] 26)).alloc (.cells #[.int .u64 0, .int .u64 0] 26)) (w.heap.size + 1) 0 0 := by
    simpa using SetAt.new (w.alloc (.cells #[.int .u64 a, .int .u64 b] 26)) 0 0
  have hs1 := hs0.below hs0.lt hb1
  have g0 := hs1.fst
  have g1 := hs1.snd
  have g2 := hs1.f0
  have g3 := hs1.f1
  go_wp2
  have hq := hs1.put x y
  have q0 := hq.fst
  have q1 := hq.snd
  refine bodyPost_ret (v := .agg #[.int .u64 (x : Nat), .int .u64 (y : Nat)]) (by simp [results, Tryd.results35, go_sem, q0, q1]) rfl ⟨rfl, ?_⟩
  exact (((((Below.refl _ _).alloc (Nat.le_refl _) _).alloc (by simp) _).trans (hb1.mono (by simp; omega))).setCell (p := ⟨w.heap.size + 1, 0, none⟩) (Nat.le_succ _) _).setCell (p := ⟨w.heap.size + 1, 1, none⟩) (Nat.le_succ _) _

theorem shift_any (a b : Nat) (k : Int) (ha : a < 18446744073709551616) (w : World) :
    Calls Tryd.prog 35 #[.agg #[.int .u64 a, .int .u64 b], .int .i64 k] w fun e w' => e = .returned (.agg #[.int .u64 (Ns.shLo a b k : Nat), .int .u64 (Ns.shHi a b k : Nat)]) ∧ Below w.heap.size w w' := by
  by_cases h : k < -127 ∨ 127 < k
  · exact shift_out a b k h w
  · have e1 : Ns.shLo a b k = if k < 0 then Ns.dnLo a b (-k).toNat else Ns.upLo a k.toNat := by unfold Ns.shLo; rw [if_neg h]
    have e2 : Ns.shHi a b k = if k < 0 then Ns.dnHi b (-k).toNat else Ns.upHi a b k.toNat := by unfold Ns.shHi; rw [if_neg h]
    rw [e1, e2]
    by_cases h1 : k < 0
    · rw [if_pos h1, if_pos h1]
      obtain ⟨n, rfl⟩ : ∃ n : Nat, k = -(n : Int) := ⟨(-k).toNat, by omega⟩
      rw [show (-(-(n : Int))).toNat = n by omega]
      exact shift_neg a b n (by omega) (by omega) ha w
    · rw [if_neg h1, if_neg h1]
      obtain ⟨n, rfl⟩ : ∃ n : Nat, k = (n : Int) := ⟨k.toNat, by omega⟩
      rw [Int.toNat_natCast]
      exact shift_pos a b n (by omega) ha w
end Go.Proofs.YtinopmdefndhoaaDoor
/- The reference's Shift. -/
namespace Go.Proofs.YtinopmdefndhoaaDoor
open Go Go.RowKit Go.Shelf

end Go.Proofs.YtinopmdefndhoaaDoor
/- NotesetShifts: the law's walk. -/
namespace Go.Proofs.YtinopmdefndhoaaDoor
open Go Go.RowKit Go.Shelf

end Go.Proofs.YtinopmdefndhoaaDoor
/- NotesetLaws: the law's walk. -/
namespace Go.Proofs.YtinopmdefndhoaaDoor
open Go Go.RowKit Go.Shelf

/-- A world of a class. -/
structure Held (R : World → Prop) where
  W : World
  h : R W
/-- A contract of a call that makes memory of its own, met in whatever world of a class. -/
theorem quiet_held {P : Program} {f : FuncId} {args : Array Value} {R : World → Prop} {x : Held R} {v : Value} (hR : ∀ A B, R A → Below A.heap.size A B → R B)
    (h : Calls P f args x.W fun e w' => e = .returned v ∧ Below x.W.heap.size x.W w') : Calls P f args x.W fun e w'' => e = .returned v ∧ ∃ y : Held R, w'' = y.W :=
  h.mono fun _ w' ⟨he, hb⟩ => ⟨he, ⟨w', hR _ _ x.h hb⟩, rfl⟩

theorem pc_add (a b : Nat) : Ns.pc (a ||| b) + Ns.pc (a &&& b) = Ns.pc a + Ns.pc b := by
  unfold Ns.pc
  induction List.range 64 with
  | nil => rfl
  | cons i l ih =>
    simp only [List.map_cons, List.sum_cons]
    have : ((a ||| b).testBit i).toNat + ((a &&& b).testBit i).toNat = (a.testBit i).toNat + (b.testBit i).toNat := by
      rw [Nat.testBit_or, Nat.testBit_and]
      cases a.testBit i <;> cases b.testBit i <;> rfl
    omega
theorem law_or (a b : Nat) (ha : a < 18446744073709551616) (hb : b < 18446744073709551616) : Ns.wo a b ||| (a &&& b) = a := by
  apply Nat.eq_of_testBit_eq
  intro i
  rw [Nat.testBit_or, Ns.wo_testBit a b i ha hb, Nat.testBit_and]
  cases a.testBit i <;> cases b.testBit i <;> rfl
theorem law_and (a b : Nat) (ha : a < 18446744073709551616) (hb : b < 18446744073709551616) : Ns.wo a b &&& (a &&& b) = 0 := by
  apply Nat.eq_of_testBit_eq
  intro i
  rw [Nat.testBit_and, Ns.wo_testBit a b i ha hb, Nat.testBit_and, Nat.zero_testBit]
  cases a.testBit i <;> cases b.testBit i <;> rfl
theorem law_wo (a b : Nat) (ha : a < 18446744073709551616) (hb : b < 18446744073709551616) (h : ∀ i, a.testBit i = true → b.testBit i = true) : Ns.wo a b = 0 := by
  apply Nat.eq_of_testBit_eq
  intro i
  rw [Ns.wo_testBit a b i ha hb, Nat.zero_testBit]
  cases hc : a.testBit i with
  | false => rfl
  | true => rw [h i hc]; rfl

/-- A set lies in a block of its own: its two cells. -/
structure Rn (W : World) (b x y : Nat) : Prop where
  fst : W.cell? ⟨b, 0, none⟩ = some (.int .u64 x)
  snd : W.cell? ⟨b, 1, none⟩ = some (.int .u64 y)
  lt : b < W.heap.size
theorem Rn.below {W W' : World} {b x y : Nat} (h : Rn W b x y) (hb : Below W.heap.size W W') : Rn W' b x y :=
  ⟨(hb.cell (p := ⟨b, 0, none⟩) h.lt).trans h.fst, (hb.cell (p := ⟨b, 1, none⟩) h.lt).trans h.snd, Nat.lt_of_lt_of_le h.lt hb.size⟩
theorem SetAt.rn {W : World} {b x y : Nat} (h : SetAt W b x y) : Rn W b x y := ⟨h.fst, h.snd, h.lt⟩

theorem below_store {w1 W : World} {b o : Nat} {v : Value} (h : Below w1.heap.size w1 W) (hb : w1.heap.size ≤ b) : Below w1.heap.size w1 (W.setCell ⟨b, o, none⟩ v) := h.setCell (p := ⟨b, o, none⟩) hb v
theorem below_alloc {w1 W : World} {o : Obj} (h : Below w1.heap.size w1 W) : Below w1.heap.size w1 (W.alloc o) := h.alloc h.size o

/-- What lies behind the two boxes. -/
structure LawR (p q b5 b6 a b c d x y u v : Nat) (w1 W : World) : Prop where
  s : Rn W p a b
  t : Rn W q c d
  m : Rn W b5 x y
  n : Rn W b6 u v
  b : Below w1.heap.size w1 W
theorem LawR.call {p q b5 b6 a b c d x y u v : Nat} {w1 A B : World} (h : LawR p q b5 b6 a b c d x y u v w1 A) (hb : Below A.heap.size A B) : LawR p q b5 b6 a b c d x y u v w1 B :=
  ⟨h.s.below hb, h.t.below hb, h.m.below hb, h.n.below hb, h.b.trans (hb.mono h.b.size)⟩

end Go.Proofs.YtinopmdefndhoaaDoor
/- The reference's Of, and NotesetOf: the law's walk. -/
namespace Go.Proofs.YtinopmdefndhoaaDoor
open Go Go.RowKit Go.Shelf

set_option maxHeartbeats 4000000 in
theorem rof_ok (B off cap n : Nat) (X : Nat → Int) (w : World) (hn : n ≤ 1099511627776) (hB : B < w.heap.size)
    (hx : ∀ k, k < n → w.cell? ⟨B, off + k, none⟩ = some (.int .i64 (X k))) (hr : ∀ k, k < n → validB (X k) = true) :
    Calls Tryd.prog 26 #[.slice (some ⟨B, off, none⟩) n cap] w fun e w' =>
      e = .returned (.agg #[.int .u64 ((ofN ((List.range n).map fun k => (X k).toNat)).1 : Nat), .int .u64 ((ofN ((List.range n).map fun k => (X k).toNat)).2 : Nat)]) ∧ Below w.heap.size w w' := by
  have HX := Lib.hid hx
  have HR := Lib.hid hr
  clear hx hr
  obtain ⟨S, hS⟩ : ∃ S : Nat → Nat × Nat, S = fun k => ofN ((List.range k).map fun k => (X k).toNat) := ⟨_, rfl⟩
  have hS0 : S 0 = (0, 0) := by rw [hS]; rfl
  have hSs : ∀ k, S (k + 1) = ((S k).1 ||| Ns.sLo (X k).toNat, (S k).2 ||| Ns.sHi (X k).toNat) := fun k => by
    rw [hS]; simp only [List.range_succ, List.map_append, List.map_cons, List.map_nil, ofN_snoc]
  have hSl : ∀ k, k ≤ n → (S k).1 < 18446744073709551616 ∧ (S k).2 < 18446744073709551616 := fun k hk => by
    rw [hS]
    exact ofN_lt _ fun y hy => by
      obtain ⟨z, hz, rfl⟩ := List.mem_map.1 hy
      have := HR.out z (by have := List.mem_range.1 hz; omega)
      simp [validB] at this
      omega
  have HS0 := Lib.hid hS0
  have HSs := Lib.hid hSs
  have HSl := Lib.hid hSl
  rw [show ofN ((List.range n).map fun k => (X k).toNat) = S n by rw [hS]]
  clear hS hS0 hSs hSl
  go_enter Tryd.func26, Tryd.ntmps26
  go_wp2
  go_loopw [4] (fun i wr => ∃ k : Nat, k ≤ n ∧ i = .int .i64 (k : Int) ∧ SetAt wr (w.heap.size + 1) (S k).1 (S k).2 ∧ Below (w.heap.size + 1) (w.alloc (.cells #[.int .u64 0, .int .u64 0] 26)) wr) (fun i _ => n - (intOf i).toNat)
  case atStart =>
    refine ⟨0, Nat.zero_le _, rfl, ?_, (Below.refl (w.heap.size + 1) (w.alloc (.cells #[.int .u64 0, .int .u64 0] 26))).alloc (by first | simp | omega | exact Nat.le_refl _) _⟩
    rw [HS0.out]
    simpa using SetAt.new (w.alloc (.cells #[.int .u64 0, .int .u64 0] 26)) 0 0
  case round =>
    obtain ⟨k, hk, rfl, hs, hw⟩ := hrel
    have hsz := hw.size
    simp at hsz
    have hz : SetAt wr w.heap.size 0 0 := (SetAt.new w 0 0).below (Nat.lt_succ_self _) hw
    have z0 := hz.fst
    have z1 := hz.snd
    have z2 := hz.f0
    have z3 := hz.f1
    simp only [Int.ofNat_zero] at z0 z1
    by_cases h1 : k < n
    · have hx0 : wr.cell? ⟨B, off + k, none⟩ = some (.int .i64 (X k)) := ((hw.cell (p := ⟨B, off + k, none⟩) (show B < w.heap.size + 1 by omega)).trans (((Below.refl w.heap.size w).alloc (Nat.le_refl _) _).cell (p := ⟨B, off + k, none⟩) hB)).trans (HX.out k h1)
      have hv := HR.out k h1
      obtain ⟨x, hxe⟩ : ∃ x : Nat, X k = (x : Int) := ⟨(X k).toNat, by simp [validB] at hv; omega⟩
      have hx128 : x < 128 := by simp [validB] at hv; omega
      have hx127 : (x : Int) ≤ 127 := by omega
      have hss := HSs.out k
      rw [hxe] at hss hx0
      simp only [Int.toNat_natCast] at hss
      have HSS := Lib.hid hss
      have hlt := HSl.out k (by omega)
      have g0 := hs.fst
      have g1 := hs.snd
      have g2 := hs.f0
      have g3 := hs.f1
      have g4 := hs.lt
      have hkn : (k : Int) < (n : Int) := by omega
      clear hv hss hxe
      go_wp2_with fail
      go_region_with ((go_at_call 48; refine (with_any _ _ x hx128 hlt.1 hlt.2 _).mono ?_; rintro e w5 ⟨rfl, hb5⟩; have q0 := (bcell hb5).1 (w.heap.size + 1) 0 g4; have q1 := (bcell hb5).1 (w.heap.size + 1) 1 g4; have q2 := (bcell hb5).2 (w.heap.size + 1) 0 g4; have q3 := (bcell hb5).2 (w.heap.size + 1) 1 g4; have q4 : w.heap.size + 1 < w5.heap.size := Nat.lt_of_lt_of_le g4 hb5.size))
      all_goals
        go_wp2
        have e5 : Below wr.heap.size wr w5 := ((Below.refl _ _).drew).trans hb5
        have hp := (hs.below g4 e5).put ((S k).1 ||| Ns.sLo x) ((S k).2 ||| Ns.sHi x)
        go_roundw
        case rel =>
          exact ⟨k + 1, by omega, by go_num, by rw [HSS.out]; exact hp, ((hw.trans (e5.mono (by omega))).setCell (p := ⟨w.heap.size + 1, 0, none⟩) (Nat.le_refl _) _).setCell (p := ⟨w.heap.size + 1, 1, none⟩) (Nat.le_refl _) _⟩
        case measure => simp [intOf]; omega
    · obtain rfl : k = n := by omega
      have g0 := hs.fst
      have g1 := hs.snd
      go_wp2
      have hq := hz.put (S k).1 (S k).2
      have q0 := hq.fst
      have q1 := hq.snd
      refine bodyPost_ret (v := .agg #[.int .u64 ((S k).1 : Nat), .int .u64 ((S k).2 : Nat)]) (by simp [results, Tryd.results26, go_sem, q0, q1]) rfl ⟨rfl, ?_⟩
      exact ((((Below.refl _ _).alloc (Nat.le_refl _) _).trans (hw.mono (Nat.le_succ _))).setCell (p := ⟨w.heap.size, 0, none⟩) (Nat.le_refl _) _).setCell (p := ⟨w.heap.size, 1, none⟩) (Nat.le_refl _) _

/-- The law at a slice of at most 20 elements. -/
theorem of_split (n : Nat) (X : Nat → Int) : ∃ m, m ≤ n ∧ (∀ k, k < m → validB (X k) = true) ∧ (m < n → validB (X m) = false) := by
  induction n with
  | zero => exact ⟨0, Nat.le_refl _, fun k hk => absurd hk (by omega), fun h => absurd h (by omega)⟩
  | succ n ih =>
    obtain ⟨m, h1, h2, h3⟩ := ih
    by_cases hm : m < n
    · exact ⟨m, by omega, h2, fun _ => h3 hm⟩
    · obtain rfl : m = n := by omega
      cases hv : validB (X m) with
      | false => exact ⟨m, by omega, h2, fun _ => hv⟩
      | true => exact ⟨m + 1, by omega, fun k hk => by
          by_cases e : k = m
          · subst e; exact hv
          · exact h2 k (by omega), fun h => absurd h (by omega)⟩

set_option maxHeartbeats 1000000 in
theorem of_empty (a : Option Addr) (cap : Nat) (w : World) :
    Calls Tryd.prog 33 #[.slice a 0 cap] w fun e w' => e = .returned (.tuple #[.agg #[.int .u64 0, .int .u64 0], .int .i64 0]) ∧ Below w.heap.size w w' := by
  go_enter Tryd.func33, Tryd.ntmps33
  go_wp2
  go_loop [9] (fun i => i = .int .i64 0) (fun _ => 0)
  case atStart => rfl
  case round =>
    obtain rfl := hrel
    go_wp2
    refine bodyPost_ret (v := .tuple #[.agg #[.int .u64 0, .int .u64 0], .int .i64 0]) (by simp [results, Tryd.results33, go_sem]) rfl ⟨rfl, ?_⟩
    repeat (first | exact Below.refl _ _ | (refine Below.drew ?_) | (refine Below.setCell ?_ (by simp <;> omega) _) | (refine Below.alloc ?_ (by simp <;> omega) _))

set_option maxHeartbeats 1000000 in
theorem rof_empty (a : Option Addr) (cap : Nat) (w : World) :
    Calls Tryd.prog 26 #[.slice a 0 cap] w fun e w' => e = .returned (.agg #[.int .u64 0, .int .u64 0]) ∧ Below w.heap.size w w' := by
  go_enter Tryd.func26, Tryd.ntmps26
  go_wp2
  go_loop [4] (fun i => i = .int .i64 0) (fun _ => 0)
  case atStart => rfl
  case round =>
    obtain rfl := hrel
    go_wp2
    refine bodyPost_ret (v := .agg #[.int .u64 0, .int .u64 0]) (by simp [results, Tryd.results26, go_sem]) rfl ⟨rfl, ?_⟩
    repeat (first | exact Below.refl _ _ | (refine Below.drew ?_) | (refine Below.setCell ?_ (by simp <;> omega) _) | (refine Below.alloc ?_ (by simp <;> omega) _))

end Go.Proofs.YtinopmdefndhoaaDoor
