/- Contract of the reference's Simplest: trying denominators from 1 on it comes to the simplest number that FracMath.bet reckons. -/
import Derived.Test.YtlfnhknnfajknabDoorFracO
import Derived.Test.YtlfnhknnfajknabDoorFracBetB
namespace Go.Proofs.YtlfnhknnfajknabDoor
open Go.RowKit

theorem ref_floor_wide (n d : Int) (w : World) (h1 : -4000000000000 ≤ n) (h2 : n ≤ 4000000000000) (h3 : 1 ≤ d) (h4 : d ≤ 4000000) :
    Calls Tryd.prog 64 #[.int .i64 n, .int .i64 d] w fun e w' => e = .returned (.int .i64 (n / d)) ∧ w = w' := by
  have hz : (d == 0) = false := by simp; omega
  have hb := FracMath.tdiv_bd n d
  have hf := Lib.hid (FracMath.floor2 n d (by omega))
  obtain ⟨p1, p2, p3⟩ := FracMath.tdiv_mul_bd n d (by omega)
  by_cases hn : 0 ≤ n
  · rw [Int.tdiv_eq_ediv_of_nonneg hn] at hb p1 p2
    have p4 := FracMath.ediv_mul_le' n d (by omega)
    clear p3
    go_enter Tryd.func64, Tryd.ntmps64
    go_wp2
    go_ret
    exact ⟨rfl, rfl⟩
  · by_cases h : n < n.tdiv d * d
    · have HE := Lib.hid (show n / d = n.tdiv d - 1 by rw [← hf.out, if_pos h])
      go_enter Tryd.func64, Tryd.ntmps64
      go_wp2
      go_ret
      exact ⟨ret_int HE.out.symm, rfl⟩
    · have HE := Lib.hid (show n / d = n.tdiv d by rw [← hf.out, if_neg h])
      go_enter Tryd.func64, Tryd.ntmps64
      go_wp2
      go_ret
      exact ⟨ret_int HE.out.symm, rfl⟩

set_option maxHeartbeats 2000000 in
theorem ref_simplest_at (a b c d t X Y : Int) (w : World) (ha : -1000000 ≤ a) (ha' : a ≤ 1000000) (hb : 1 ≤ b) (hb' : b ≤ 1000000) (hc : -1000000 ≤ c) (hc' : c ≤ 1000000) (hd : 1 ≤ d) (hd' : d ≤ 1000000)
    (ht : 1 ≤ t) (htb : t ≤ b) (hno : ∀ k, 1 ≤ k → k < t → c * k / d < FracMath.ceil (a * k) b)
    (hyes : FracMath.ceil (a * t) b ≤ c * t / d)
    (hans : (1 ≤ FracMath.ceil (a * t) b ∧ X = FracMath.ceil (a * t) b ∧ Y = t) ∨ (FracMath.ceil (a * t) b ≤ 0 ∧ c * t / d < 0 ∧ X = c * t / d ∧ Y = t) ∨ (FracMath.ceil (a * t) b ≤ 0 ∧ 0 ≤ c * t / d ∧ X = 0 ∧ Y = 1)) :
    Calls Tryd.prog 32 #[.agg #[.int .i64 a, .int .i64 b], .agg #[.int .i64 c, .int .i64 d]] w fun e w' => e = .returned (.agg #[.int .i64 X, .int .i64 Y]) ∧ Below w.heap.size w w' := by
  have HN := Lib.hid hno
  have HY := Lib.hid hyes
  have HA := Lib.hid hans
  clear hno hyes hans
  go_enter Tryd.func32, Tryd.ntmps32
  go_wp2
  go_loopw [5] (fun i wr => ∃ k : Int, 1 ≤ k ∧ k ≤ t ∧ i = .int .i64 k ∧ ∃ n, wr = (((w.alloc (.cells #[.int .i64 a, .int .i64 b] 28)).alloc (.cells #[.int .i64 c, .int .i64 d] 28)).alloc (.cells #[.int .i64 0, .int .i64 0] 28)).drewN n) (fun i _ => (1000001 - intOf i).toNat)
  case atStart => exact ⟨1, by omega, by omega, rfl, 0, rfl⟩
  case round =>
    obtain ⟨k, hk1, hk2, rfl, n, rfl⟩ := hrel
    have fa := FracMath.prod_bd (x := a) (y := k) ⟨by omega, by omega⟩ ⟨by omega, by omega⟩
    have fc := FracMath.prod_bd (x := c) (y := k) ⟨by omega, by omega⟩ ⟨by omega, by omega⟩
    have ga := FracMath.ediv_bd (-(a * k)) b hb
    have gc := FracMath.ediv_bd (c * k) d hd
    have z1 : IntKind.i64.wrap (a * k) = a * k := IntWalk.i64_in _ (by omega)
    have z2 : IntKind.i64.wrap (-(a * k)) = -(a * k) := IntWalk.i64_in _ (by omega)
    have z3 : IntKind.i64.wrap (c * k) = c * k := IntWalk.i64_in _ (by omega)
    have z4 : IntKind.i64.wrap (-(-(a * k) / b)) = -(-(a * k) / b) := IntWalk.i64_in _ (by omega)
    have hkb : k ≤ b := by omega
    by_cases hkt : k < t
    · have hlt : c * k / d < -(-(a * k) / b) := HN.out k hk1 hkt
      go_wp2
      go_quiet ((go_at_call 64; exact still_more (ref_floor_wide _ _ _ (by omega) (by omega) (by omega) (by omega))))
      go_wp2
      exact ⟨⟨k + 1, by omega, by omega, rfl, _, rfl⟩, by simp only [intOf]; omega⟩
    · obtain rfl : k = t := by omega
      have hy : -(-(a * k) / b) ≤ c * k / d := HY.out
      rcases HA.out with ⟨p1, p2, p3⟩ | ⟨p1, p0, p2, p3⟩ | ⟨p1, p0, p2, p3⟩
      · have p3' := p3.symm
        subst p2 p3'
        have p4 : 1 ≤ -(-(a * k) / b) := p1
        clear p1 HA HN HY
        go_wp2
        go_quiet ((go_at_call 64; exact still_more (ref_floor_wide _ _ _ (by omega) (by omega) (by omega) (by omega))))
        go_wp2
        exact bodyPost_ret (v := .agg #[.int .i64 (-(-(a * k) / b)), .int .i64 k]) (by simp [results, Tryd.results32, go_sem]) rfl ⟨rfl, (((below_drewN ((((Below.refl _ _).alloc (Nat.le_refl _) _).alloc (by go_size) _).alloc (by go_size) _) _).setCell (by go_size) _).setCell (by go_size) _)⟩
      · have p3' := p3.symm
        subst p2 p3'
        have p4 : -(-(a * k) / b) ≤ 0 := p1
        clear p1 HA HN HY
        go_wp2
        go_quiet ((go_at_call 64; exact still_more (ref_floor_wide _ _ _ (by omega) (by omega) (by omega) (by omega))))
        go_wp2
        exact bodyPost_ret (v := .agg #[.int .i64 (c * k / d), .int .i64 k]) (by simp [results, Tryd.results32, go_sem]) rfl ⟨rfl, (((below_drewN ((((Below.refl _ _).alloc (Nat.le_refl _) _).alloc (by go_size) _).alloc (by go_size) _) _).setCell (by go_size) _).setCell (by go_size) _)⟩
      · subst p2 p3
        have p4 : -(-(a * k) / b) ≤ 0 := p1
        clear p1 HA HN HY
        go_wp2
        go_quiet ((go_at_call 64; exact still_more (ref_floor_wide _ _ _ (by omega) (by omega) (by omega) (by omega))))
        go_wp2
        exact bodyPost_ret (v := .agg #[.int .i64 (0), .int .i64 1]) (by simp [results, Tryd.results32, go_sem]) rfl ⟨rfl, (((below_drewN ((((Below.refl _ _).alloc (Nat.le_refl _) _).alloc (by go_size) _).alloc (by go_size) _) _).setCell (by go_size) _).setCell (by go_size) _)⟩

theorem ref_simplest_pos (a b c d : Int) (w : World) (h1 : FracMath.rightB a b = true) (h2 : FracMath.rightB c d = true) (ho : a * d ≤ c * b) (hp : 1 ≤ a) :
    Calls Tryd.prog 32 #[.agg #[.int .i64 a, .int .i64 b], .agg #[.int .i64 c, .int .i64 d]] w fun e w' => e = .returned (.agg #[.int .i64 (FracMath.bet (b + d).toNat a b c d).1, .int .i64 (FracMath.bet (b + d).toNat a b c d).2]) ∧ Below w.heap.size w w' := by
  obtain ⟨k1, k2, k3, k4, _⟩ := FracMath.right_of h1
  obtain ⟨l1, l2, l3, l4, _⟩ := FracMath.right_of h2
  have hc : 1 ≤ c := FracMath.pos_of ho hp k3 l3
  have best := FracMath.bet_best (b + d).toNat a b c d hp k3 hc l3 (by omega) ho
  have bd := FracMath.best_bd hp k3 hc l3 ho best
  obtain ⟨n1, n2, n3, n4⟩ := FracMath.at_pos k3 l3 best
  exact ref_simplest_at a b c d _ _ _ w k1 k2 k3 k4 l1 l2 l3 l4 bd.2.2.1 bd.2.2.2 n1 n2 (.inl ⟨n3, n4, rfl⟩)
theorem ref_simplest_neg (a b c d : Int) (w : World) (h1 : FracMath.rightB a b = true) (h2 : FracMath.rightB c d = true) (ho : a * d ≤ c * b) (hn : c < 0) :
    Calls Tryd.prog 32 #[.agg #[.int .i64 a, .int .i64 b], .agg #[.int .i64 c, .int .i64 d]] w fun e w' => e = .returned (.agg #[.int .i64 (-(FracMath.bet (d + b).toNat (-c) d (-a) b).1), .int .i64 (FracMath.bet (d + b).toNat (-c) d (-a) b).2]) ∧ Below w.heap.size w w' := by
  obtain ⟨k1, k2, k3, k4, _⟩ := FracMath.right_of h1
  obtain ⟨l1, l2, l3, l4, _⟩ := FracMath.right_of h2
  have ho' : -c * b ≤ -a * d := by rw [Int.neg_mul, Int.neg_mul]; omega
  have ha : 1 ≤ -a := FracMath.pos_of ho' (by omega) l3 k3
  have best := FracMath.bet_best (d + b).toNat (-c) d (-a) b (by omega) l3 ha k3 (by omega) ho'
  obtain ⟨n0, n1, n2, n3, n4, n5⟩ := FracMath.at_neg k3 l3 ho best
  exact ref_simplest_at a b c d _ _ _ w k1 k2 k3 k4 l1 l2 l3 l4 best.2.1 n0 n1 n2 (.inr (.inl ⟨n3, n4, n5, rfl⟩))
theorem ref_simplest_zero (a b c d : Int) (w : World) (h1 : FracMath.rightB a b = true) (h2 : FracMath.rightB c d = true) (hp : a ≤ 0) (hn : 0 ≤ c) :
    Calls Tryd.prog 32 #[.agg #[.int .i64 a, .int .i64 b], .agg #[.int .i64 c, .int .i64 d]] w fun e w' => e = .returned (.agg #[.int .i64 0, .int .i64 1]) ∧ Below w.heap.size w w' := by
  obtain ⟨k1, k2, k3, k4, _⟩ := FracMath.right_of h1
  obtain ⟨l1, l2, l3, l4, _⟩ := FracMath.right_of h2
  obtain ⟨n3, n4⟩ := FracMath.at_zero k3 l3 hp hn
  exact ref_simplest_at a b c d 1 0 1 w k1 k2 k3 k4 l1 l2 l3 l4 (by omega) (by omega) (fun k _ _ => by omega) (by omega) (.inr (.inr ⟨n3, n4, rfl, rfl⟩))

/-- Simplest from a right fraction to itself -/
theorem simplest_self (a b : Int) (w : World) (h1 : FracMath.rightB a b = true) :
    Calls Tryd.prog 31 #[.agg #[.int .i64 a, .int .i64 b], .agg #[.int .i64 a, .int .i64 b]] w fun e w' => e = .returned (.tuple #[.agg #[.int .i64 a, .int .i64 b], .int .i64 0]) ∧ Below w.heap.size w w' := by
  obtain ⟨k1, k2, k3, k4, k5⟩ := FracMath.right_of h1
  by_cases hp : 1 ≤ a
  · have best := FracMath.bet_best (b + b).toNat a b a b hp k3 hp k3 (by omega) (Int.le_refl _)
    obtain ⟨e1, e2⟩ := FracMath.best_self hp k3 k5 best
    have := simplest_pos a b a b w h1 h1 (Int.le_refl _) hp
    rw [e1, e2] at this; exact this
  by_cases hn : a < 0
  · have best := FracMath.bet_best (b + b).toNat (-a) b (-a) b (by omega) k3 (by omega) k3 (by omega) (Int.le_refl _)
    obtain ⟨e1, e2⟩ := FracMath.best_self (by omega) k3 (by rw [FracMath.gg_neg]; exact k5) best
    have := simplest_neg a b a b w h1 h1 (Int.le_refl _) hn
    rw [e1, e2, Int.neg_neg] at this; exact this
  · obtain rfl : a = 0 := by omega
    obtain rfl : b = 1 := by
      have : FracMath.gg 0 b = b.natAbs := Nat.gcd_zero_left _
      omega
    exact simplest_zero 0 1 0 1 w h1 h1 (Int.le_refl _) (by omega) (by omega)
end Go.Proofs.YtlfnhknnfajknabDoor
