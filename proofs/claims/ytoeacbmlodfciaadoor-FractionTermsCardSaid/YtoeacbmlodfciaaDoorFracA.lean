/- Contracts of the small functions of package fraction and of its reference (magnitudes, divisors, quotients in lowest terms): each returns what FracMath says; numbers lie in the range of their kinds. -/
import Derived.Test.YtoeacbmlodfciaaDoorProg
import Derived.Test.YtoeacbmlodfciaaDoorFracMath
import Derived.WalkKit
import Derived.WalkSpells
import Derived.WalkLawsBesides
import Derived.Outline
import Derived.BigQuiet
import Derived.Deep.QuietTactic
import Derived.RegionTactic
import Derived.ChangeAlike
import Derived.Lib.Hide
import Derived.Handy
namespace Go.Proofs.YtoeacbmlodfciaaDoor
open Go.RowKit

theorem ret_int {k : IntKind} {a b : Int} (h : a = b) : Ending.returned (.int k a) = .returned (.int k b) := by rw [h]

theorem bcell {W w1 : World} (hb : Below W.heap.size W w1) : (∀ b o, b < W.heap.size → w1.cell? ⟨b, o, none⟩ = W.cell? ⟨b, o, none⟩) ∧ (∀ b o, b < W.heap.size → w1.frozen? ⟨b, o, none⟩ = W.frozen? ⟨b, o, none⟩) :=
  ⟨fun b o h => hb.cell (p := ⟨b, o, none⟩) h, fun b o h => hb.frozen (p := ⟨b, o, none⟩) h⟩

/-- a block of two cells, with what they hold; it may be written -/
structure Two (w : World) (b : Nat) (x y : Value) : Prop where
  fst : w.cell? ⟨b, 0, none⟩ = some x
  snd : w.cell? ⟨b, 1, none⟩ = some y
  lt : b < w.heap.size
  free : ∀ o, w.frozen? ⟨b, o, none⟩ = false
theorem Two.new (w : World) (x y : Value) (T : TypeId) : Two (w.alloc (.cells #[x, y] T)) w.heap.size x y := ⟨by simp, by simp, by simp, fun _ => by simp⟩
theorem Two.below {w w1 : World} {b : Nat} {x y : Value} (h : Two w b x y) (hb : Below w.heap.size w w1) : Two w1 b x y :=
  ⟨(hb.cell (p := ⟨b, 0, none⟩) h.lt).trans h.fst, (hb.cell (p := ⟨b, 1, none⟩) h.lt).trans h.snd, Nat.lt_of_lt_of_le h.lt hb.size, fun o => (hb.frozen (p := ⟨b, o, none⟩) h.lt).trans (h.free o)⟩
theorem Two.alloc {w : World} {b : Nat} {x y : Value} (h : Two w b x y) (o : Obj) : Two (w.alloc o) b x y :=
  h.below ((Below.refl _ _).alloc (Nat.le_refl _) o)

/-- a contract that draws some answers, met behind earlier draws -/
theorem quiet_more {P : Program} {f : FuncId} {xs : Array Value} {W : World} {i j : Nat} {v : Value}
    (h : Calls P f xs (W.drewN (i + j)) fun e w' => e = .returned v ∧ ∃ m, w' = (W.drewN (i + j)).drewN m) :
    Calls P f xs (W.drewN (i + j)) fun e w' => e = .returned v ∧ ∃ m, w' = W.drewN (i + m) := by
  refine h.mono fun e w' hh => ⟨hh.1, ?_⟩
  obtain ⟨m, hm⟩ := hh.2
  exact ⟨j + m, by rw [hm, World.drewN_drewN, Nat.add_assoc]⟩
/-- a contract that leaves the world as it was, met behind earlier draws -/
theorem still_more {P : Program} {f : FuncId} {xs : Array Value} {W : World} {i j : Nat} {v : Value}
    (h : Calls P f xs (W.drewN (i + j)) fun e w' => e = .returned v ∧ W.drewN (i + j) = w') :
    Calls P f xs (W.drewN (i + j)) fun e w' => e = .returned v ∧ ∃ m, w' = W.drewN (i + m) :=
  h.mono fun _ _ hh => ⟨hh.1, j, hh.2.symm⟩
/-- the same, met at the first draws -/
theorem still_here {P : Program} {f : FuncId} {xs : Array Value} {W : World} {j : Nat} {v : Value}
    (h : Calls P f xs (W.drewN j) fun e w' => e = .returned v ∧ W.drewN j = w') :
    Calls P f xs (W.drewN j) fun e w' => e = .returned v ∧ ∃ m, w' = W.drewN m :=
  h.mono fun _ _ hh => ⟨hh.1, j, hh.2.symm⟩

theorem magnitude_any (n : Int) (w : World) (h1 : -9223372036854775808 ≤ n) (h2 : n ≤ 9223372036854775807) :
    Calls Tryd.prog 51 #[.int .i64 n] w fun e w' => e = .returned (.int .u64 (n.natAbs : Int)) ∧ w = w' := by
  by_cases h : n < 0
  · go_enter Tryd.func51, Tryd.ntmps51
    go_wp2
    go_ret
    exact ⟨ret_int (by simp only [IntKind.wrap_u64]; omega), rfl⟩
  · go_enter Tryd.func51, Tryd.ntmps51
    go_wp2
    go_ret
    exact ⟨ret_int (by omega), rfl⟩

theorem divisor_any (a b : Nat) (w : World) (ha : a ≤ 18446744073709551615) (hb : b ≤ 18446744073709551615) :
    Calls Tryd.prog 52 #[.int .u64 (a : Int), .int .u64 (b : Int)] w fun e w' => e = .returned (.int .u64 (Nat.gcd a b : Nat)) ∧ ∃ n, w' = w.drewN n := by
  go_enter Tryd.func52, Tryd.ntmps52
  go_wp2
  go_loopw [0, 1] (fun x y wr => ∃ a' b' : Nat, a' ≤ 18446744073709551615 ∧ b' ≤ 18446744073709551615 ∧ Nat.gcd a' b' = Nat.gcd a b ∧ x = .int .u64 (a' : Int) ∧ y = .int .u64 (b' : Int) ∧ ∃ n, wr = w.drewN n) (fun _ y _ => (intOf y).toNat)
  case atStart => exact ⟨a, b, ha, hb, rfl, rfl, rfl, 0, rfl⟩
  case round =>
    obtain ⟨a', b', ha', hb', hg, rfl, rfl, n, rfl⟩ := hrel
    have HG := Lib.hid hg
    clear hg
    by_cases h : 0 < b'
    · go_wp2
      go_quiet (fail)
      go_wp2
      have e1 : ((a' : Int) % (b' : Int)) = ((a' % b' : Nat) : Int) := by omega
      have e2 : a' % b' < b' := Nat.mod_lt _ h
      rw [e1]
      exact ⟨⟨b', a' % b', hb', by omega, by rw [← HG.out, Nat.gcd_comm a' b', Nat.gcd_rec b' a', Nat.gcd_comm], rfl, rfl, _, World.drewN_drewN _ _ _⟩, by simp only [intOf]; omega⟩
    · go_wp2
      go_ret
      obtain rfl : b' = 0 := by omega
      exact ⟨ret_int (by rw [← HG.out, Nat.gcd_zero_right]), n, rfl⟩


theorem lowest_over (n d : Int) (w : World) (h1 : -9223372036854775808 ≤ n) (h2 : n ≤ 9223372036854775807) (h3 : -9223372036854775808 ≤ d) (h4 : d ≤ 9223372036854775807) (hd : d ≠ 0) (ho : FracMath.overB n d = true) :
    Calls Tryd.prog 33 #[.int .i64 n, .int .i64 d] w fun e w' => e = .returned (.tuple #[.agg #[.int .i64 0, .int .i64 0], .int .i64 4]) ∧ Below w.heap.size w w' := by
  have hg1 : 1 ≤ Nat.gcd n.natAbs d.natAbs := FracMath.gg_pos hd
  have HD := Lib.hid hd
  clear hd
  obtain ⟨b1, b2, b3, b4⟩ := FracMath.quot_bounds n d h1 h2 h3 h4 hg1
  by_cases c1 : 1000000 < (n.natAbs : Int) / (Nat.gcd n.natAbs d.natAbs : Nat)
  · clear ho
    go_enter Tryd.func33, Tryd.ntmps33
    go_wp2_with (first | (go_at_call 51; refine (magnitude_any _ _ (by omega) (by omega)).mono ?_; rintro e w' ⟨rfl, rfl⟩) | (go_at_call 52; refine (divisor_any _ _ _ (by omega) (by omega)).mono ?_; rintro e w' ⟨rfl, nn, rfl⟩) | go_quiet (fail))
    exact bodyPost_ret (v := .tuple #[.agg #[.int .i64 0, .int .i64 0], .int .i64 4]) (by simp [results, Tryd.results33, go_sem]) rfl ⟨rfl, (((below_drewN ((Below.refl _ _).alloc (Nat.le_refl _) _) _).setCell (by simp) _).setCell (by simp) _)⟩
  · have c2 : 1000000 < (d.natAbs : Int) / (Nat.gcd n.natAbs d.natAbs : Nat) := FracMath.over_right ho c1
    clear ho
    go_enter Tryd.func33, Tryd.ntmps33
    go_wp2_with (first | (go_at_call 51; refine (magnitude_any _ _ (by omega) (by omega)).mono ?_; rintro e w' ⟨rfl, rfl⟩) | (go_at_call 52; refine (divisor_any _ _ _ (by omega) (by omega)).mono ?_; rintro e w' ⟨rfl, nn, rfl⟩) | go_quiet (fail))
    exact bodyPost_ret (v := .tuple #[.agg #[.int .i64 0, .int .i64 0], .int .i64 4]) (by simp [results, Tryd.results33, go_sem]) rfl ⟨rfl, (((below_drewN ((Below.refl _ _).alloc (Nat.le_refl _) _) _).setCell (by simp) _).setCell (by simp) _)⟩

theorem lowest_ok (n d : Int) (w : World) (h1 : -9223372036854775808 ≤ n) (h2 : n ≤ 9223372036854775807) (h3 : -9223372036854775808 ≤ d) (h4 : d ≤ 9223372036854775807) (hd : d ≠ 0) (ho : FracMath.overB n d = false) :
    Calls Tryd.prog 33 #[.int .i64 n, .int .i64 d] w fun e w' => e = .returned (.tuple #[.agg #[.int .i64 (FracMath.qn n d), .int .i64 (FracMath.qd n d)], .int .i64 0]) ∧ Below w.heap.size w w' := by
  have hg1 : 1 ≤ Nat.gcd n.natAbs d.natAbs := FracMath.gg_pos hd
  have HD := Lib.hid hd
  clear hd
  obtain ⟨b1, b2, b3, b4⟩ := FracMath.quot_bounds n d h1 h2 h3 h4 hg1
  obtain ⟨c1, c2⟩ := FracMath.not_over ho
  clear ho
  by_cases hn : n < 0
  all_goals by_cases hd : d < 0
  · have hx : (decide (n < 0) != decide (d < 0)) = false := by simp [hn, hd]
    have HX := Lib.hid hx
    clear hx
    go_enter Tryd.func33, Tryd.ntmps33
    go_wp2_with (first | (go_at_call 51; refine (magnitude_any _ _ (by omega) (by omega)).mono ?_; rintro e w' ⟨rfl, rfl⟩) | (go_at_call 52; refine (divisor_any _ _ _ (by omega) (by omega)).mono ?_; rintro e w' ⟨rfl, nn, rfl⟩) | go_quiet (fail))
    rw [FracMath.qn_same HX.out, FracMath.qd_cast]
    exact bodyPost_ret (v := .tuple #[.agg #[.int .i64 _, .int .i64 _], .int .i64 0]) (by simp [results, Tryd.results33, go_sem]) rfl ⟨rfl, (((below_drewN ((Below.refl _ _).alloc (Nat.le_refl _) _) _).setCell (by simp) _).setCell (by simp) _)⟩
  · have hx : (decide (n < 0) != decide (d < 0)) = true := by simp [hn, hd]
    have HX := Lib.hid hx
    clear hx
    have k2 : decide (d < 0) = false := by simpa using hd
    go_enter Tryd.func33, Tryd.ntmps33
    go_wp2_with (first | (go_at_call 51; refine (magnitude_any _ _ (by omega) (by omega)).mono ?_; rintro e w' ⟨rfl, rfl⟩) | (go_at_call 52; refine (divisor_any _ _ _ (by omega) (by omega)).mono ?_; rintro e w' ⟨rfl, nn, rfl⟩) | go_quiet (fail))
    rw [FracMath.qn_other HX.out, FracMath.qd_cast]
    exact bodyPost_ret (v := .tuple #[.agg #[.int .i64 _, .int .i64 _], .int .i64 0]) (by simp [results, Tryd.results33, go_sem]) rfl ⟨rfl, (((below_drewN ((Below.refl _ _).alloc (Nat.le_refl _) _) _).setCell (by simp) _).setCell (by simp) _)⟩
  · have hx : (decide (n < 0) != decide (d < 0)) = true := by simp [hn, hd]
    have HX := Lib.hid hx
    clear hx
    have k1 : decide (n < 0) = false := by simpa using hn
    go_enter Tryd.func33, Tryd.ntmps33
    go_wp2_with (first | (go_at_call 51; refine (magnitude_any _ _ (by omega) (by omega)).mono ?_; rintro e w' ⟨rfl, rfl⟩) | (go_at_call 52; refine (divisor_any _ _ _ (by omega) (by omega)).mono ?_; rintro e w' ⟨rfl, nn, rfl⟩) | go_quiet (fail))
    rw [FracMath.qn_other HX.out, FracMath.qd_cast]
    exact bodyPost_ret (v := .tuple #[.agg #[.int .i64 _, .int .i64 _], .int .i64 0]) (by simp [results, Tryd.results33, go_sem]) rfl ⟨rfl, (((below_drewN ((Below.refl _ _).alloc (Nat.le_refl _) _) _).setCell (by simp) _).setCell (by simp) _)⟩
  · have hx : (decide (n < 0) != decide (d < 0)) = false := by simp [hn, hd]
    have HX := Lib.hid hx
    clear hx
    have k1 : decide (n < 0) = false := by simpa using hn
    have k2 : decide (d < 0) = false := by simpa using hd
    go_enter Tryd.func33, Tryd.ntmps33
    go_wp2_with (first | (go_at_call 51; refine (magnitude_any _ _ (by omega) (by omega)).mono ?_; rintro e w' ⟨rfl, rfl⟩) | (go_at_call 52; refine (divisor_any _ _ _ (by omega) (by omega)).mono ?_; rintro e w' ⟨rfl, nn, rfl⟩) | go_quiet (fail))
    rw [FracMath.qn_same HX.out, FracMath.qd_cast]
    exact bodyPost_ret (v := .tuple #[.agg #[.int .i64 _, .int .i64 _], .int .i64 0]) (by simp [results, Tryd.results33, go_sem]) rfl ⟨rfl, (((below_drewN ((Below.refl _ _).alloc (Nat.le_refl _) _) _).setCell (by simp) _).setCell (by simp) _)⟩

theorem lowest_any (n d : Int) (w : World) (h1 : -9223372036854775808 ≤ n) (h2 : n ≤ 9223372036854775807) (h3 : -9223372036854775808 ≤ d) (h4 : d ≤ 9223372036854775807) (hd : d ≠ 0) :
    Calls Tryd.prog 33 #[.int .i64 n, .int .i64 d] w fun e w' => e = .returned (.tuple #[.agg #[.int .i64 (FracMath.mk n d).1, .int .i64 (FracMath.mk n d).2.1], .int .i64 (FracMath.mk n d).2.2]) ∧ Below w.heap.size w w' := by
  cases ho : FracMath.overB n d
  · rw [FracMath.mk_ok hd ho]; exact lowest_ok n d w h1 h2 h3 h4 hd ho
  · rw [FracMath.mk_over hd ho]; exact lowest_over n d w h1 h2 h3 h4 hd ho

set_option maxHeartbeats 400000 in
theorem make_any (n d : Int) (w : World) (h1 : -9223372036854775808 ≤ n) (h2 : n ≤ 9223372036854775807) (h3 : -9223372036854775808 ≤ d) (h4 : d ≤ 9223372036854775807) :
    Calls Tryd.prog 30 #[.int .i64 n, .int .i64 d] w fun e w' => e = .returned (.tuple #[.agg #[.int .i64 (FracMath.mk n d).1, .int .i64 (FracMath.mk n d).2.1], .int .i64 (FracMath.mk n d).2.2]) ∧ Below w.heap.size w w' := by
  by_cases hd : d = 0
  · subst hd
    rw [FracMath.mk_zero]
    go_enter Tryd.func30, Tryd.ntmps30
    go_wp2
    exact bodyPost_ret (v := .tuple #[.agg #[.int .i64 0, .int .i64 0], .int .i64 17]) (by simp [results, Tryd.results30, go_sem]) rfl ⟨rfl, by go_grown⟩
  · have ht : (d == 0) = false := by simp [hd]
    generalize hm : FracMath.mk n d = m
    have HM := Lib.hid hm
    clear hm
    have c := fun W => lowest_any n d W h1 h2 h3 h4 hd
    rw [HM.out] at c
    have C := Lib.hid c
    clear c hd
    go_enter Tryd.func30, Tryd.ntmps30
    go_wp2_with (go_at_call 33; refine (C.out _).mono ?_; rintro e w1 ⟨rfl, hb⟩; obtain ⟨hc, hf⟩ := bcell hb; have hz : w.heap.size < w1.heap.size := by (have := hb.size; simp at this; omega))
    refine bodyPost_ret (v := .tuple #[.agg #[.int .i64 m.1, .int .i64 m.2.1], .int .i64 m.2.2]) (by simp [results, Tryd.results30, go_sem, hc]) rfl ⟨rfl, ?_⟩
    exact ((((Below.refl _ _).alloc (Nat.le_refl _) _).trans (hb.mono (by simp))).setCell (by simp) _).setCell (by simp) _
end Go.Proofs.YtoeacbmlodfciaaDoor
