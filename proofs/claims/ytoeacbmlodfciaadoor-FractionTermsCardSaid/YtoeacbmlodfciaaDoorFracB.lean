/- Contracts of Whole, Check and of the reference's magnitude, divisor, Right and Make over fractions: each returns what FracMath says; numbers lie in the range of their kinds. -/
import Derived.Test.YtoeacbmlodfciaaDoorFracA
namespace Go.Proofs.YtoeacbmlodfciaaDoor
open Go.RowKit

theorem ref_magnitude_any (n : Int) (w : World) (h1 : -9223372036854775808 ≤ n) (h2 : n ≤ 9223372036854775807) :
    Calls Tryd.prog 55 #[.int .i64 n] w fun e w' => e = .returned (.int .i64 (-(n.natAbs : Int))) ∧ w = w' := by
  by_cases h : 0 < n
  all_goals
    go_enter Tryd.func55, Tryd.ntmps55
    go_wp2
    go_ret
    exact ⟨ret_int (by omega), rfl⟩

set_option maxHeartbeats 400000 in
theorem ref_divisor_any (n d : Int) (w : World) (h1 : -9223372036854775808 ≤ n) (h2 : n ≤ 9223372036854775807) (h3 : -9223372036854775808 ≤ d) (h4 : d ≤ 9223372036854775807) :
    Calls Tryd.prog 39 #[.int .i64 n, .int .i64 d] w fun e w' => e = .returned (.int .i64 (wrap64 (FracMath.gg n d : Nat))) ∧ ∃ n, w' = w.drewN n := by
  go_enter Tryd.func39, Tryd.ntmps39
  go_wp2_with (go_at_call 55; refine (ref_magnitude_any _ _ (by omega) (by omega)).mono ?_; rintro e w' ⟨rfl, rfl⟩)
  go_loopw [0, 1] (fun x y wr => ∃ a' b' : Nat, a' ≤ 9223372036854775808 ∧ b' ≤ 9223372036854775808 ∧ Nat.gcd a' b' = FracMath.gg n d ∧ x = .int .i64 (-(a' : Int)) ∧ y = .int .i64 (-(b' : Int)) ∧ ∃ n, wr = w.drewN n) (fun _ y _ => (-(intOf y)).toNat)
  case atStart => exact ⟨n.natAbs, d.natAbs, by omega, by omega, rfl, rfl, rfl, 0, rfl⟩
  case round =>
    obtain ⟨a', b', ha', hb', hg, rfl, rfl, nn, rfl⟩ := hrel
    have HG := Lib.hid hg
    clear hg
    by_cases h : 0 < b'
    · have ht : ((-(b' : Int)) == 0) = false := by simp; omega
      have ht' : ((-(b' : Int)) != 0) = true := by simp; omega
      go_wp2
      go_quiet (fail)
      go_wp2
      have e1 : ((a' : Int) % (b' : Int)) = ((a' % b' : Nat) : Int) := by omega
      have e2 : a' % b' < b' := Nat.mod_lt _ h
      rw [e1]
      exact ⟨⟨b', a' % b', hb', by omega, by rw [← HG.out, Nat.gcd_comm a' b', Nat.gcd_rec b' a', Nat.gcd_comm], rfl, rfl, _, World.drewN_drewN _ _ _⟩, by simp only [intOf]; omega⟩
    · obtain rfl : b' = 0 := by omega
      go_wp2
      go_ret
      rw [Nat.gcd_zero_right] at HG
      exact ⟨ret_int (by rw [← HG.out]), nn, rfl⟩

/-- Right: the four bounds first, then the divisor. -/
theorem ref_right_in (n d : Int) (w : World) (h1 : -1000000 ≤ n) (h2 : n ≤ 1000000) (h3 : 1 ≤ d) (h4 : d ≤ 1000000) :
    Calls Tryd.prog 21 #[.agg #[.int .i64 n, .int .i64 d]] w fun e w' => e = .returned (.bool (FracMath.rightB n d)) ∧ Below w.heap.size w w' := by
  have hr : FracMath.rightB n d = decide ((FracMath.gg n d : Int) = 1) := FracMath.right_in h1 h2 h3 h4
  have hg : FracMath.gg n d ≤ 1000000 := by have := FracMath.gg_le (n := n) (d := d) (by omega); omega
  have hw : wrap64 (FracMath.gg n d : Nat) = (FracMath.gg n d : Nat) := by unfold wrap64; omega
  have c := fun W => ref_divisor_any n d W (by omega) (by omega) (by omega) (by omega)
  rw [hw] at c
  rw [hr]
  clear hr hw
  generalize FracMath.gg n d = g at hg c ⊢
  have C := Lib.hid c
  clear c
  by_cases ht : g = 1
  · subst ht
    go_enter Tryd.func21, Tryd.ntmps21
    go_wp2_with (first | (go_at_call 39; refine (C.out _).mono ?_; rintro e w' ⟨rfl, nn, rfl⟩) | go_quiet (fail))
    go_ret
    exact ⟨rfl, below_drewN (by go_grown) _⟩
  · have ht' : ((g : Int) == 1) = false := by simp; omega
    have hd : decide ((g : Int) = 1) = false := by simp; omega
    rw [hd]
    clear ht hd
    go_enter Tryd.func21, Tryd.ntmps21
    go_wp2_with (first | (go_at_call 39; refine (C.out _).mono ?_; rintro e w' ⟨rfl, nn, rfl⟩) | go_quiet (fail))
    go_ret
    exact ⟨rfl, below_drewN (by go_grown) _⟩

theorem ref_right_out (n d : Int) (w : World) (h : ¬ (-1000000 ≤ n ∧ n ≤ 1000000 ∧ 1 ≤ d ∧ d ≤ 1000000)) :
    Calls Tryd.prog 21 #[.agg #[.int .i64 n, .int .i64 d]] w fun e w' => e = .returned (.bool (FracMath.rightB n d)) ∧ Below w.heap.size w w' := by
  rw [FracMath.right_out h]
  by_cases h1 : d < 1
  · clear h
    go_enter Tryd.func21, Tryd.ntmps21
    go_wp2
    go_ret
    exact ⟨rfl, by go_grown⟩
  by_cases h2 : 1000000 < d
  · clear h
    go_enter Tryd.func21, Tryd.ntmps21
    go_wp2
    go_ret
    exact ⟨rfl, by go_grown⟩
  by_cases h3 : 1000000 < n
  · clear h
    go_enter Tryd.func21, Tryd.ntmps21
    go_wp2
    go_ret
    exact ⟨rfl, by go_grown⟩
  have h4 : n < -1000000 := by omega
  clear h
  go_enter Tryd.func21, Tryd.ntmps21
  go_wp2
  go_ret
  exact ⟨rfl, by go_grown⟩

theorem ref_right_any (n d : Int) (w : World) :
    Calls Tryd.prog 21 #[.agg #[.int .i64 n, .int .i64 d]] w fun e w' => e = .returned (.bool (FracMath.rightB n d)) ∧ Below w.heap.size w w' := by
  by_cases h : -1000000 ≤ n ∧ n ≤ 1000000 ∧ 1 ≤ d ∧ d ≤ 1000000
  · exact ref_right_in n d w h.1 h.2.1 h.2.2.1 h.2.2.2
  · exact ref_right_out n d w h

/-- Check's answer. -/
def chk (n d : Int) : Int := if FracMath.rightB n d then 0 else 2
theorem chk_yes {n d : Int} (h : FracMath.rightB n d = true) : chk n d = 0 := by unfold chk; rw [h, if_pos rfl]
theorem chk_no {n d : Int} (h : FracMath.rightB n d = false) : chk n d = 2 := by unfold chk; rw [h, if_neg (by decide)]

theorem check_in (n d : Int) (w : World) (h1 : -1000000 ≤ n) (h2 : n ≤ 1000000) (h3 : 1 ≤ d) (h4 : d ≤ 1000000) :
    Calls Tryd.prog 34 #[.agg #[.int .i64 n, .int .i64 d]] w fun e w' => e = .returned (.int .i64 (chk n d)) ∧ Below w.heap.size w w' := by
  have hr : FracMath.rightB n d = decide ((FracMath.gg n d : Int) = 1) := FracMath.right_in h1 h2 h3 h4
  have c := fun W => divisor_any n.natAbs d.natAbs W (by omega) (by omega)
  rw [show Nat.gcd n.natAbs d.natAbs = FracMath.gg n d from rfl] at c
  generalize FracMath.gg n d = g at hr c
  have C := Lib.hid c
  clear c
  by_cases ht : g = 1
  · subst ht
    rw [chk_yes (by rw [hr]; rfl)]
    clear hr
    go_enter Tryd.func34, Tryd.ntmps34
    go_wp2_with (go_quiet (first | (go_at_call 51; exact still_here (magnitude_any _ _ (by omega) (by omega))) | (go_at_call 52; exact Calls.quiet_of (C.out _))))
    go_wp2
    go_ret
    exact ⟨rfl, below_drewN (by go_grown) _⟩
  · have ht' : ((g : Int) != 1) = true := by simp; omega
    have hd : decide ((g : Int) = 1) = false := by simp; omega
    rw [hd] at hr
    rw [chk_no hr]
    clear ht hd hr
    go_enter Tryd.func34, Tryd.ntmps34
    go_wp2_with (go_quiet (first | (go_at_call 51; exact still_here (magnitude_any _ _ (by omega) (by omega))) | (go_at_call 52; exact Calls.quiet_of (C.out _))))
    go_wp2
    go_ret
    exact ⟨rfl, below_drewN (by go_grown) _⟩

theorem check_out (n d : Int) (w : World) (h : ¬ (-1000000 ≤ n ∧ n ≤ 1000000 ∧ 1 ≤ d ∧ d ≤ 1000000)) :
    Calls Tryd.prog 34 #[.agg #[.int .i64 n, .int .i64 d]] w fun e w' => e = .returned (.int .i64 (chk n d)) ∧ Below w.heap.size w w' := by
  rw [chk_no (FracMath.right_out h)]
  by_cases h1 : d < 1
  · clear h
    go_enter Tryd.func34, Tryd.ntmps34
    go_wp2
    go_ret
    exact ⟨rfl, by go_grown⟩
  by_cases h2 : 1000000 < d
  · clear h
    go_enter Tryd.func34, Tryd.ntmps34
    go_wp2
    go_ret
    exact ⟨rfl, by go_grown⟩
  by_cases h3 : n < -1000000
  · clear h
    go_enter Tryd.func34, Tryd.ntmps34
    go_wp2
    go_ret
    exact ⟨rfl, by go_grown⟩
  have h4 : 1000000 < n := by omega
  clear h
  go_enter Tryd.func34, Tryd.ntmps34
  go_wp2
  go_ret
  exact ⟨rfl, by go_grown⟩

theorem check_any (n d : Int) (w : World) :
    Calls Tryd.prog 34 #[.agg #[.int .i64 n, .int .i64 d]] w fun e w' => e = .returned (.int .i64 (chk n d)) ∧ Below w.heap.size w w' := by
  by_cases h : -1000000 ≤ n ∧ n ≤ 1000000 ∧ 1 ≤ d ∧ d ≤ 1000000
  · exact check_in n d w h.1 h.2.1 h.2.2.1 h.2.2.2
  · exact check_out n d w h

set_option maxHeartbeats 400000 in
theorem whole_any (n : Int) (w : World) (h1 : -9223372036854775808 ≤ n) (h2 : n ≤ 9223372036854775807) :
    Calls Tryd.prog 16 #[.int .i64 n] w fun e w' => e = .returned (.tuple #[.agg #[.int .i64 (FracMath.mk n 1).1, .int .i64 (FracMath.mk n 1).2.1], .int .i64 (FracMath.mk n 1).2.2]) ∧ Below w.heap.size w w' := by
  have c := fun W => lowest_any n 1 W h1 h2 (by decide) (by decide) (by decide)
  generalize hm : FracMath.mk n 1 = m at c ⊢
  clear hm
  have C := Lib.hid c
  clear c
  go_enter Tryd.func16, Tryd.ntmps16
  go_wp2_with (go_at_call 33; refine (C.out _).mono ?_; rintro e w1 ⟨rfl, hb⟩; obtain ⟨hc, hf⟩ := bcell hb; have hz : w.heap.size < w1.heap.size := by (have := hb.size; simp at this; omega))
  refine bodyPost_ret (v := .tuple #[.agg #[.int .i64 m.1, .int .i64 m.2.1], .int .i64 m.2.2]) (by simp [results, Tryd.results16, go_sem, hc]) rfl ⟨rfl, ?_⟩
  exact ((((Below.refl _ _).alloc (Nat.le_refl _) _).trans (hb.mono (by simp))).setCell (by simp) _).setCell (by simp) _
end Go.Proofs.YtoeacbmlodfciaaDoor
