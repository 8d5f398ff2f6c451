/- Contract of Simplest over right fractions: ErrOrder where they are not in order, else the simplest number that FracMath.simp reckons. -/
import Derived.Test.YtoeacbmlodfciaaDoorFracN
namespace Go.Proofs.YtoeacbmlodfciaaDoor
open Go.RowKit

set_option maxHeartbeats 1000000 in
theorem simplest_order (a b c d : Int) (w : World) (h1 : FracMath.rightB a b = true) (h2 : FracMath.rightB c d = true) (ho : c * b < a * d) :
    Calls Tryd.prog 18 #[.agg #[.int .i64 a, .int .i64 b], .agg #[.int .i64 c, .int .i64 d]] w fun e w' => e = .returned (.tuple #[.agg #[.int .i64 0, .int .i64 0], .int .i64 6]) ∧ Below w.heap.size w w' := by
  have c0 := fun W => compare_right a b c d W h1 h2
  rw [FracMath.cmpI_gt ho] at c0
  have C := Lib.hid c0
  clear c0 ho h1 h2
  go_enter Tryd.func18, Tryd.ntmps18
  go_wp2_with fail
  refine (C.out _).mono ?_
  rintro e w1 ⟨rfl, hb1⟩
  obtain ⟨a0, a1, al, _⟩ := (((Two.new w (.int .i64 a) (.int .i64 b) 27).alloc _).alloc _).below hb1
  obtain ⟨c0, c1, cl, _⟩ := ((Two.new (w.alloc _) (.int .i64 c) (.int .i64 d) 27).alloc _).below hb1
  have R1 := (Two.new ((w.alloc _).alloc _) (.int .i64 0) (.int .i64 0) 27).below hb1
  have HR1 := Lib.hid R1
  obtain ⟨r0, r1, rl, rf⟩ := R1
  simp at c0 c1 cl r0 r1 rl rf
  have hz1 := hb1.size
  simp at hz1
  go_wp2
  exact bodyPost_ret (v := .tuple #[.agg #[.int .i64 0, .int .i64 0], .int .i64 6]) (by simp [results, Tryd.results18, go_sem, r0, r1]) rfl ⟨rfl, (((((((Below.refl _ _).alloc (Nat.le_refl _) _).alloc (by go_size) _).alloc (by go_size) _).trans (hb1.mono (by go_size))).setCell (by go_size) _).setCell (by go_size) _)⟩

set_option maxHeartbeats 1000000 in
theorem simplest_pos (a b c d : Int) (w : World) (h1 : FracMath.rightB a b = true) (h2 : FracMath.rightB c d = true) (ho : a * d ≤ c * b) (hp : 1 ≤ a) :
    Calls Tryd.prog 18 #[.agg #[.int .i64 a, .int .i64 b], .agg #[.int .i64 c, .int .i64 d]] w fun e w' => e = .returned (.tuple #[.agg #[.int .i64 (FracMath.bet (b + d).toNat a b c d).1, .int .i64 (FracMath.bet (b + d).toNat a b c d).2], .int .i64 0]) ∧ Below w.heap.size w w' := by
  obtain ⟨k1, k2, k3, k4, _⟩ := FracMath.right_of h1
  obtain ⟨l1, l2, l3, l4, _⟩ := FracMath.right_of h2
  have cv : FracMath.cmpI (a * d) (c * b) ≤ 0 := FracMath.cmpI_le ho
  have c0 := fun W => compare_right a b c d W h1 h2
  generalize FracMath.cmpI (a * d) (c * b) = v at cv c0
  have C := Lib.hid c0
  have hc : 1 ≤ c := FracMath.pos_of ho hp k3 l3
  have best := FracMath.bet_best (b + d).toNat a b c d hp k3 hc l3 (by omega) ho
  have bd := FracMath.best_bd hp k3 hc l3 ho best
  have m := fun W => lowest_any (FracMath.bet (b + d).toNat a b c d).1 (FracMath.bet (b + d).toNat a b c d).2 W (by omega) (by omega) (by omega) (by omega) (by omega)
  rw [FracMath.mk_coprime (by omega) (by omega) (by omega) (by omega) (FracMath.best_gg best)] at m
  have M := Lib.hid m
  have I := Lib.hid fun W => between_any (b + d).toNat a b c d W hp k2 k3 k4 hc l2 l3 l4 (by omega) ho
  clear c0 h1 h2 m best ho
  generalize FracMath.bet (b + d).toNat a b c d = r at M I bd ⊢
  obtain ⟨q1, q2, q3, q4⟩ := bd
  go_enter Tryd.func18, Tryd.ntmps18
  go_wp2_with fail
  refine (C.out _).mono ?_
  rintro e w1 ⟨rfl, hb1⟩
  obtain ⟨a0, a1, al, _⟩ := (((Two.new w (.int .i64 a) (.int .i64 b) 27).alloc _).alloc _).below hb1
  obtain ⟨c0, c1, cl, _⟩ := ((Two.new (w.alloc _) (.int .i64 c) (.int .i64 d) 27).alloc _).below hb1
  have R1 := (Two.new ((w.alloc _).alloc _) (.int .i64 0) (.int .i64 0) 27).below hb1
  have HR1 := Lib.hid R1
  obtain ⟨r0, r1, rl, rf⟩ := R1
  simp at c0 c1 cl r0 r1 rl rf
  have hz1 := hb1.size
  simp at hz1
  go_wp2_with fail
  refine (I.out _).mono ?_
  rintro e w' ⟨rfl, rfl⟩
  go_wp2_with fail
  refine (M.out _).mono ?_
  rintro e w2 ⟨rfl, hb2⟩
  obtain ⟨s0, s1, sl, sf⟩ := HR1.out.below hb2
  simp at s0 s1 sl sf
  go_wp2
  exact bodyPost_ret (v := .tuple #[.agg #[.int .i64 r.1, .int .i64 r.2], .int .i64 0]) (by simp [results, Tryd.results18, go_sem, s0, s1]) rfl ⟨rfl, ((((((((Below.refl _ _).alloc (Nat.le_refl _) _).alloc (by go_size) _).alloc (by go_size) _).trans (hb1.mono (by go_size))).trans (hb2.mono (by omega))).setCell (by go_size) _).setCell (by go_size) _)⟩

set_option maxHeartbeats 1000000 in
theorem simplest_neg (a b c d : Int) (w : World) (h1 : FracMath.rightB a b = true) (h2 : FracMath.rightB c d = true) (ho : a * d ≤ c * b) (hn : c < 0) :
    Calls Tryd.prog 18 #[.agg #[.int .i64 a, .int .i64 b], .agg #[.int .i64 c, .int .i64 d]] w fun e w' => e = .returned (.tuple #[.agg #[.int .i64 (-(FracMath.bet (d + b).toNat (-c) d (-a) b).1), .int .i64 (FracMath.bet (d + b).toNat (-c) d (-a) b).2], .int .i64 0]) ∧ Below w.heap.size w w' := by
  obtain ⟨k1, k2, k3, k4, _⟩ := FracMath.right_of h1
  obtain ⟨l1, l2, l3, l4, _⟩ := FracMath.right_of h2
  have cv : FracMath.cmpI (a * d) (c * b) ≤ 0 := FracMath.cmpI_le ho
  have c0 := fun W => compare_right a b c d W h1 h2
  generalize FracMath.cmpI (a * d) (c * b) = v at cv c0
  have C := Lib.hid c0
  have ho' : -c * b ≤ -a * d := by rw [Int.neg_mul, Int.neg_mul]; omega
  have ha : 1 ≤ -a := FracMath.pos_of ho' (by omega) l3 k3
  have best := FracMath.bet_best (d + b).toNat (-c) d (-a) b (by omega) l3 ha k3 (by omega) ho'
  have bd := FracMath.best_bd (by omega) l3 ha k3 ho' best
  have m := fun W => lowest_any (-(FracMath.bet (d + b).toNat (-c) d (-a) b).1) (FracMath.bet (d + b).toNat (-c) d (-a) b).2 W (by omega) (by omega) (by omega) (by omega) (by omega)
  rw [FracMath.mk_coprime (by omega) (by omega) (by omega) (by omega) (by rw [FracMath.gg_neg]; exact FracMath.best_gg best)] at m
  have M := Lib.hid m
  have I := Lib.hid fun W => between_any (d + b).toNat (-c) d (-a) b W (by omega) (by omega) l3 l4 ha (by omega) k3 k4 (by omega) ho'
  clear c0 h1 h2 m best ho ho'
  generalize FracMath.bet (d + b).toNat (-c) d (-a) b = r at M I bd ⊢
  obtain ⟨q1, q2, q3, q4⟩ := bd
  go_enter Tryd.func18, Tryd.ntmps18
  go_wp2_with fail
  refine (C.out _).mono ?_
  rintro e w1 ⟨rfl, hb1⟩
  obtain ⟨a0, a1, al, _⟩ := (((Two.new w (.int .i64 a) (.int .i64 b) 27).alloc _).alloc _).below hb1
  obtain ⟨c0, c1, cl, _⟩ := ((Two.new (w.alloc _) (.int .i64 c) (.int .i64 d) 27).alloc _).below hb1
  have R1 := (Two.new ((w.alloc _).alloc _) (.int .i64 0) (.int .i64 0) 27).below hb1
  have HR1 := Lib.hid R1
  obtain ⟨r0, r1, rl, rf⟩ := R1
  simp at c0 c1 cl r0 r1 rl rf
  have hz1 := hb1.size
  simp at hz1
  go_wp2_with fail
  refine (I.out _).mono ?_
  rintro e w' ⟨rfl, rfl⟩
  go_wp2_with fail
  refine (M.out _).mono ?_
  rintro e w2 ⟨rfl, hb2⟩
  obtain ⟨s0, s1, sl, sf⟩ := HR1.out.below hb2
  simp at s0 s1 sl sf
  go_wp2
  exact bodyPost_ret (v := .tuple #[.agg #[.int .i64 (-r.1), .int .i64 r.2], .int .i64 0]) (by simp [results, Tryd.results18, go_sem, s0, s1]) rfl ⟨rfl, ((((((((Below.refl _ _).alloc (Nat.le_refl _) _).alloc (by go_size) _).alloc (by go_size) _).trans (hb1.mono (by go_size))).trans (hb2.mono (by omega))).setCell (by go_size) _).setCell (by go_size) _)⟩

set_option maxHeartbeats 1000000 in
theorem simplest_zero (a b c d : Int) (w : World) (h1 : FracMath.rightB a b = true) (h2 : FracMath.rightB c d = true) (ho : a * d ≤ c * b) (hp : a ≤ 0) (hn : 0 ≤ c) :
    Calls Tryd.prog 18 #[.agg #[.int .i64 a, .int .i64 b], .agg #[.int .i64 c, .int .i64 d]] w fun e w' => e = .returned (.tuple #[.agg #[.int .i64 0, .int .i64 1], .int .i64 0]) ∧ Below w.heap.size w w' := by
  have cv : FracMath.cmpI (a * d) (c * b) ≤ 0 := FracMath.cmpI_le ho
  have c0 := fun W => compare_right a b c d W h1 h2
  generalize FracMath.cmpI (a * d) (c * b) = v at cv c0
  have C := Lib.hid c0
  have m := fun W => whole_any 0 W (by decide) (by decide)
  rw [show FracMath.mk 0 1 = (0, 1, 0) from by decide +kernel] at m
  have M := Lib.hid m
  clear c0 h1 h2 m ho
  go_enter Tryd.func18, Tryd.ntmps18
  go_wp2_with fail
  refine (C.out _).mono ?_
  rintro e w1 ⟨rfl, hb1⟩
  obtain ⟨a0, a1, al, _⟩ := (((Two.new w (.int .i64 a) (.int .i64 b) 27).alloc _).alloc _).below hb1
  obtain ⟨c0, c1, cl, _⟩ := ((Two.new (w.alloc _) (.int .i64 c) (.int .i64 d) 27).alloc _).below hb1
  have R1 := (Two.new ((w.alloc _).alloc _) (.int .i64 0) (.int .i64 0) 27).below hb1
  have HR1 := Lib.hid R1
  obtain ⟨r0, r1, rl, rf⟩ := R1
  simp at c0 c1 cl r0 r1 rl rf
  have hz1 := hb1.size
  simp at hz1
  go_wp2_with fail
  refine (M.out _).mono ?_
  rintro e w2 ⟨rfl, hb2⟩
  obtain ⟨s0, s1, sl, sf⟩ := HR1.out.below hb2
  simp at s0 s1 sl sf
  go_wp2
  exact bodyPost_ret (v := .tuple #[.agg #[.int .i64 0, .int .i64 1], .int .i64 0]) (by simp [results, Tryd.results18, go_sem, s0, s1]) rfl ⟨rfl, ((((((((Below.refl _ _).alloc (Nat.le_refl _) _).alloc (by go_size) _).alloc (by go_size) _).trans (hb1.mono (by go_size))).trans (hb2.mono (by omega))).setCell (by go_size) _).setCell (by go_size) _)⟩
end Go.Proofs.YtoeacbmlodfciaaDoor
