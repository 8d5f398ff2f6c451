/- Contracts of the small functions of package fraction and of its reference (magnitudes, divisors, quotients in lowest terms): each returns what FracMath says; numbers lie in the range of their kinds. -/
import Derived.Test.YthdoadkdofgenaaGreatDoorProg
import Derived.Test.YthdoadkdofgenaaGreatDoorImB
import Derived.Test.YthdoadkdofgenaaGreatDoorImN
import Derived.WalkKit
import Derived.WalkSpells
import Derived.WalkLawsBesides
import Derived.Outline
import Derived.BigQuiet
import Derived.Deep.QuietTactic
import Derived.RegionTactic
import Derived.ChangeAlike
import Derived.Lib.Hide
import Derived.Handy
import Derived.Test.YthdoadkdofgenaaGreatDoorImM
namespace Go.Proofs.YthdoadkdofgenaaGreatDoor
open Go.RowKit

theorem bcell {W w1 : World} (hb : Below W.heap.size W w1) : (∀ b o, b < W.heap.size → w1.cell? ⟨b, o, none⟩ = W.cell? ⟨b, o, none⟩) ∧ (∀ b o, b < W.heap.size → w1.frozen? ⟨b, o, none⟩ = W.frozen? ⟨b, o, none⟩) :=
  ⟨fun b o h => hb.cell (p := ⟨b, o, none⟩) h, fun b o h => hb.frozen (p := ⟨b, o, none⟩) h⟩

theorem magnitude_any (n : Int) (w : World) (h1 : -9223372036854775808 ≤ n) (h2 : n ≤ 9223372036854775807) :
    Calls Tryz.prog 67 #[.int .i64 n] w fun e w' => e = .returned (.int .u64 (n.natAbs : Int)) ∧ w = w' := by
  by_cases h : n < 0
  · go_enter Tryz.func67, Tryz.ntmps67
    go_wp2
    go_ret
    exact ⟨ret_int (by simp only [IntKind.wrap_u64]; omega), rfl⟩
  · go_enter Tryz.func67, Tryz.ntmps67
    go_wp2
    go_ret
    exact ⟨ret_int (by omega), rfl⟩

theorem divisor_any (a b : Nat) (w : World) (ha : a ≤ 18446744073709551615) (hb : b ≤ 18446744073709551615) :
    Calls Tryz.prog 66 #[.int .u64 (a : Int), .int .u64 (b : Int)] w fun e w' => e = .returned (.int .u64 (Nat.gcd a b : Nat)) ∧ ∃ n, w' = w.drewN n := by
  go_enter Tryz.func66, Tryz.ntmps66
  go_wp2
  go_loopw [0, 1] (fun x y wr => ∃ a' b' : Nat, a' ≤ 18446744073709551615 ∧ b' ≤ 18446744073709551615 ∧ Nat.gcd a' b' = Nat.gcd a b ∧ x = .int .u64 (a' : Int) ∧ y = .int .u64 (b' : Int) ∧ ∃ n, wr = w.drewN n) (fun _ y _ => (intOf y).toNat)
  case atStart => exact ⟨a, b, ha, hb, rfl, rfl, rfl, 0, rfl⟩
  case round =>
    obtain ⟨a', b', ha', hb', hg, rfl, rfl, n, rfl⟩ := hrel
    have HG := Lib.hid hg
    clear hg
    by_cases h : 0 < b'
    · go_wp2
      go_quiet (fail)
      go_wp2
      have e1 : ((a' : Int) % (b' : Int)) = ((a' % b' : Nat) : Int) := by omega
      have e2 : a' % b' < b' := Nat.mod_lt _ h
      rw [e1]
      exact ⟨⟨b', a' % b', hb', by omega, by rw [← HG.out, Nat.gcd_comm a' b', Nat.gcd_rec b' a', Nat.gcd_comm], rfl, rfl, _, World.drewN_drewN _ _ _⟩, by simp only [intOf]; omega⟩
    · go_wp2
      go_ret
      obtain rfl : b' = 0 := by omega
      exact ⟨ret_int (by rw [← HG.out, Nat.gcd_zero_right]), n, rfl⟩


theorem lowest_over (n d : Int) (w : World) (h1 : -9223372036854775808 ≤ n) (h2 : n ≤ 9223372036854775807) (h3 : -9223372036854775808 ≤ d) (h4 : d ≤ 9223372036854775807) (hd : d ≠ 0) (ho : FracMath.overB n d = true) :
    Calls Tryz.prog 92 #[.int .i64 n, .int .i64 d] w fun e w' => e = .returned (.tuple #[.agg #[.int .i64 0, .int .i64 0], .int .i64 4]) ∧ Below w.heap.size w w' := by
  have hg1 : 1 ≤ Nat.gcd n.natAbs d.natAbs := FracMath.gg_pos hd
  have HD := Lib.hid hd
  clear hd
  obtain ⟨b1, b2, b3, b4⟩ := FracMath.quot_bounds n d h1 h2 h3 h4 hg1
  by_cases c1 : 1000000 < (n.natAbs : Int) / (Nat.gcd n.natAbs d.natAbs : Nat)
  · clear ho
    go_enter Tryz.func92, Tryz.ntmps92
    go_wp2_with (first | (go_at_call 67; refine (magnitude_any _ _ (by omega) (by omega)).mono ?_; rintro e w' ⟨rfl, rfl⟩) | (go_at_call 66; refine (divisor_any _ _ _ (by omega) (by omega)).mono ?_; rintro e w' ⟨rfl, nn, rfl⟩) | go_quiet (fail))
    exact bodyPost_ret (v := .tuple #[.agg #[.int .i64 0, .int .i64 0], .int .i64 4]) (by simp [results, Tryz.results92, go_sem]) rfl ⟨rfl, (((below_drewN ((Below.refl _ _).alloc (Nat.le_refl _) _) _).setCell (by simp) _).setCell (by simp) _)⟩
  · have c2 : 1000000 < (d.natAbs : Int) / (Nat.gcd n.natAbs d.natAbs : Nat) := FracMath.over_right ho c1
    clear ho
    go_enter Tryz.func92, Tryz.ntmps92
    go_wp2_with (first | (go_at_call 67; refine (magnitude_any _ _ (by omega) (by omega)).mono ?_; rintro e w' ⟨rfl, rfl⟩) | (go_at_call 66; refine (divisor_any _ _ _ (by omega) (by omega)).mono ?_; rintro e w' ⟨rfl, nn, rfl⟩) | go_quiet (fail))
    exact bodyPost_ret (v := .tuple #[.agg #[.int .i64 0, .int .i64 0], .int .i64 4]) (by simp [results, Tryz.results92, go_sem]) rfl ⟨rfl, (((below_drewN ((Below.refl _ _).alloc (Nat.le_refl _) _) _).setCell (by simp) _).setCell (by simp) _)⟩

theorem lowest_ok (n d : Int) (w : World) (h1 : -9223372036854775808 ≤ n) (h2 : n ≤ 9223372036854775807) (h3 : -9223372036854775808 ≤ d) (h4 : d ≤ 9223372036854775807) (hd : d ≠ 0) (ho : FracMath.overB n d = false) :
    Calls Tryz.prog 92 #[.int .i64 n, .int .i64 d] w fun e w' => e = .returned (.tuple #[.agg #[.int .i64 (FracMath.qn n d), .int .i64 (FracMath.qd n d)], .int .i64 0]) ∧ Below w.heap.size w w' := by
  have hg1 : 1 ≤ Nat.gcd n.natAbs d.natAbs := FracMath.gg_pos hd
  have HD := Lib.hid hd
  clear hd
  obtain ⟨b1, b2, b3, b4⟩ := FracMath.quot_bounds n d h1 h2 h3 h4 hg1
  obtain ⟨c1, c2⟩ := FracMath.not_over ho
  clear ho
  by_cases hn : n < 0
  all_goals by_cases hd : d < 0
  · have hx : (decide (n < 0) != decide (d < 0)) = false := by simp [hn, hd]
    have HX := Lib.hid hx
    clear hx
    go_enter Tryz.func92, Tryz.ntmps92
    go_wp2_with (first | (go_at_call 67; refine (magnitude_any _ _ (by omega) (by omega)).mono ?_; rintro e w' ⟨rfl, rfl⟩) | (go_at_call 66; refine (divisor_any _ _ _ (by omega) (by omega)).mono ?_; rintro e w' ⟨rfl, nn, rfl⟩) | go_quiet (fail))
    rw [FracMath.qn_same HX.out, FracMath.qd_cast]
    exact bodyPost_ret (v := .tuple #[.agg #[.int .i64 _, .int .i64 _], .int .i64 0]) (by simp [results, Tryz.results92, go_sem]) rfl ⟨rfl, (((below_drewN ((Below.refl _ _).alloc (Nat.le_refl _) _) _).setCell (by simp) _).setCell (by simp) _)⟩
  · have hx : (decide (n < 0) != decide (d < 0)) = true := by simp [hn, hd]
    have HX := Lib.hid hx
    clear hx
    have k2 : decide (d < 0) = false := by simpa using hd
    go_enter Tryz.func92, Tryz.ntmps92
    go_wp2_with (first | (go_at_call 67; refine (magnitude_any _ _ (by omega) (by omega)).mono ?_; rintro e w' ⟨rfl, rfl⟩) | (go_at_call 66; refine (divisor_any _ _ _ (by omega) (by omega)).mono ?_; rintro e w' ⟨rfl, nn, rfl⟩) | go_quiet (fail))
    rw [FracMath.qn_other HX.out, FracMath.qd_cast]
    exact bodyPost_ret (v := .tuple #[.agg #[.int .i64 _, .int .i64 _], .int .i64 0]) (by simp [results, Tryz.results92, go_sem]) rfl ⟨rfl, (((below_drewN ((Below.refl _ _).alloc (Nat.le_refl _) _) _).setCell (by simp) _).setCell (by simp) _)⟩
  · have hx : (decide (n < 0) != decide (d < 0)) = true := by simp [hn, hd]
    have HX := Lib.hid hx
    clear hx
    have k1 : decide (n < 0) = false := by simpa using hn
    go_enter Tryz.func92, Tryz.ntmps92
    go_wp2_with (first | (go_at_call 67; refine (magnitude_any _ _ (by omega) (by omega)).mono ?_; rintro e w' ⟨rfl, rfl⟩) | (go_at_call 66; refine (divisor_any _ _ _ (by omega) (by omega)).mono ?_; rintro e w' ⟨rfl, nn, rfl⟩) | go_quiet (fail))
    rw [FracMath.qn_other HX.out, FracMath.qd_cast]
    exact bodyPost_ret (v := .tuple #[.agg #[.int .i64 _, .int .i64 _], .int .i64 0]) (by simp [results, Tryz.results92, go_sem]) rfl ⟨rfl, (((below_drewN ((Below.refl _ _).alloc (Nat.le_refl _) _) _).setCell (by simp) _).setCell (by simp) _)⟩
  · have hx : (decide (n < 0) != decide (d < 0)) = false := by simp [hn, hd]
    have HX := Lib.hid hx
    clear hx
    have k1 : decide (n < 0) = false := by simpa using hn
    have k2 : decide (d < 0) = false := by simpa using hd
    go_enter Tryz.func92, Tryz.ntmps92
    go_wp2_with (first | (go_at_call 67; refine (magnitude_any _ _ (by omega) (by omega)).mono ?_; rintro e w' ⟨rfl, rfl⟩) | (go_at_call 66; refine (divisor_any _ _ _ (by omega) (by omega)).mono ?_; rintro e w' ⟨rfl, nn, rfl⟩) | go_quiet (fail))
    rw [FracMath.qn_same HX.out, FracMath.qd_cast]
    exact bodyPost_ret (v := .tuple #[.agg #[.int .i64 _, .int .i64 _], .int .i64 0]) (by simp [results, Tryz.results92, go_sem]) rfl ⟨rfl, (((below_drewN ((Below.refl _ _).alloc (Nat.le_refl _) _) _).setCell (by simp) _).setCell (by simp) _)⟩

theorem lowest_any (n d : Int) (w : World) (h1 : -9223372036854775808 ≤ n) (h2 : n ≤ 9223372036854775807) (h3 : -9223372036854775808 ≤ d) (h4 : d ≤ 9223372036854775807) (hd : d ≠ 0) :
    Calls Tryz.prog 92 #[.int .i64 n, .int .i64 d] w fun e w' => e = .returned (.tuple #[.agg #[.int .i64 (FracMath.mk n d).1, .int .i64 (FracMath.mk n d).2.1], .int .i64 (FracMath.mk n d).2.2]) ∧ Below w.heap.size w w' := by
  cases ho : FracMath.overB n d
  · rw [FracMath.mk_ok hd ho]; exact lowest_ok n d w h1 h2 h3 h4 hd ho
  · rw [FracMath.mk_over hd ho]; exact lowest_over n d w h1 h2 h3 h4 hd ho

set_option maxHeartbeats 400000 in
theorem make_any (n d : Int) (w : World) (h1 : -9223372036854775808 ≤ n) (h2 : n ≤ 9223372036854775807) (h3 : -9223372036854775808 ≤ d) (h4 : d ≤ 9223372036854775807) :
    Calls Tryz.prog 69 #[.int .i64 n, .int .i64 d] w fun e w' => e = .returned (.tuple #[.agg #[.int .i64 (FracMath.mk n d).1, .int .i64 (FracMath.mk n d).2.1], .int .i64 (FracMath.mk n d).2.2]) ∧ Below w.heap.size w w' := by
  by_cases hd : d = 0
  · subst hd
    rw [FracMath.mk_zero]
    go_enter Tryz.func69, Tryz.ntmps69
    go_wp2
    exact bodyPost_ret (v := .tuple #[.agg #[.int .i64 0, .int .i64 0], .int .i64 17]) (by simp [results, Tryz.results69, go_sem]) rfl ⟨rfl, by go_grown⟩
  · have ht : (d == 0) = false := by simp [hd]
    generalize hm : FracMath.mk n d = m
    have HM := Lib.hid hm
    clear hm
    have c := fun W => lowest_any n d W h1 h2 h3 h4 hd
    rw [HM.out] at c
    have C := Lib.hid c
    clear c hd
    go_enter Tryz.func69, Tryz.ntmps69
    go_wp2_with (go_at_call 92; refine (C.out _).mono ?_; rintro e w1 ⟨rfl, hb⟩; obtain ⟨hc, hf⟩ := bcell hb; have hz : w.heap.size < w1.heap.size := by (have := hb.size; simp at this; omega))
    refine bodyPost_ret (v := .tuple #[.agg #[.int .i64 m.1, .int .i64 m.2.1], .int .i64 m.2.2]) (by simp [results, Tryz.results69, go_sem, hc]) rfl ⟨rfl, ?_⟩
    exact ((((Below.refl _ _).alloc (Nat.le_refl _) _).trans (hb.mono (by simp))).setCell (by simp) _).setCell (by simp) _
end Go.Proofs.YthdoadkdofgenaaGreatDoor
/- A region that draws its order and stores: its operations keep a relation between worlds; what has come up stays right along it. -/
namespace Go.Proofs.YthdoadkdofgenaaGreatDoor
open Go Go.RowKit Go.Shelf

section
variable {P : Program} {ops : Array Oper} {Q : Exit → Act → World → Prop} {md : Region.Mode} {F : (Nat → Value) → Act}

theorem SlotStep.rel {n : Nat} {R : World → Prop} {Inv : Nat → Value → World → Prop} {i : Nat} {o : Oper} (St : World → World → Prop)
    (hR : ∀ A B : World, St A B → R A → R B) (hI : ∀ (j : Nat) (v : Value) (A B : World), R A → St A B → Inv j v A → Inv j v B)
    (h : ∀ (ys : Nat → Value) (w : World), R w → (∀ j, waitsB md o j = true → j < n → Inv j (ys j) w) →
      ∀ K : Act → World → Prop, (∀ v w', St w w' → Inv i v w' → K (F (upd ys i v)) w') →
        if Region.wanted o (yielded ops (F ys).tmps) = true then Oper.wp P o (F ys) w K Q else K ((F ys).put o.dst undef) w) :
    SlotStep P md ops Q F (BelowI n R Inv) i o := by
  intro L ys w _ ha ⟨hr, hi⟩ K hK
  refine h ys w hr (fun j hw hj => hi j hj (waits_at ha hw)) K (fun v w' hb hv => hK v w' ⟨hR _ _ hb hr, fun j hj hL => ?_⟩)
  by_cases hji : j = i
  · subst hji; rw [upd_same]; exact hv
  · rw [upd_ne _ _ hji]
    rw [upd_ne _ _ hji] at hL
    exact hI j _ _ _ hr hb (hi j hj hL)
theorem below_start {n : Nat} {R : World → Prop} {Inv : Nat → Value → World → Prop} {ys : Nat → Value} {w : World} (hr : R w) : BelowI n R Inv (fun i => decide (n ≤ i)) ys w :=
  ⟨hr, fun j hj hL => by have := of_decide_eq_true hL; omega⟩
end
end Go.Proofs.YthdoadkdofgenaaGreatDoor
/- Contracts of divisor, multiple. -/
namespace Go.Proofs.YthdoadkdofgenaaGreatDoor
open Go Go.RowKit Go.Shelf

theorem cell4_0 {W : World} {b : Nat} {c0 c1 c2 c3 : Value} {T : TypeId} (h : W.heap[b]? = some (.cells #[c0, c1, c2, c3] T)) : W.cell? ⟨b, 0, none⟩ = some c0 := by simp [World.cell?, h]
theorem free4_0 {W : World} {b : Nat} {c0 c1 c2 c3 : Value} {T : TypeId} (h : W.heap[b]? = some (.cells #[c0, c1, c2, c3] T)) : W.frozen? ⟨b, 0, none⟩ = false := by simp [World.frozen?, h]
theorem set4_0 {W : World} {b : Nat} {c0 c1 c2 c3 x : Value} {T : TypeId} (h : W.heap[b]? = some (.cells #[c0, c1, c2, c3] T)) : (W.setCell ⟨b, 0, none⟩ x).heap[b]? = some (.cells #[x, c1, c2, c3] T) := by
  simp only [World.setCell, Array.getElem?_modify, if_true, h, Option.map_some]
  rfl
theorem cell4_1 {W : World} {b : Nat} {c0 c1 c2 c3 : Value} {T : TypeId} (h : W.heap[b]? = some (.cells #[c0, c1, c2, c3] T)) : W.cell? ⟨b, 1, none⟩ = some c1 := by simp [World.cell?, h]
theorem free4_1 {W : World} {b : Nat} {c0 c1 c2 c3 : Value} {T : TypeId} (h : W.heap[b]? = some (.cells #[c0, c1, c2, c3] T)) : W.frozen? ⟨b, 1, none⟩ = false := by simp [World.frozen?, h]
theorem set4_1 {W : World} {b : Nat} {c0 c1 c2 c3 x : Value} {T : TypeId} (h : W.heap[b]? = some (.cells #[c0, c1, c2, c3] T)) : (W.setCell ⟨b, 1, none⟩ x).heap[b]? = some (.cells #[c0, x, c2, c3] T) := by
  simp only [World.setCell, Array.getElem?_modify, if_true, h, Option.map_some]
  rfl
theorem cell4_2 {W : World} {b : Nat} {c0 c1 c2 c3 : Value} {T : TypeId} (h : W.heap[b]? = some (.cells #[c0, c1, c2, c3] T)) : W.cell? ⟨b, 2, none⟩ = some c2 := by simp [World.cell?, h]
theorem free4_2 {W : World} {b : Nat} {c0 c1 c2 c3 : Value} {T : TypeId} (h : W.heap[b]? = some (.cells #[c0, c1, c2, c3] T)) : W.frozen? ⟨b, 2, none⟩ = false := by simp [World.frozen?, h]
theorem set4_2 {W : World} {b : Nat} {c0 c1 c2 c3 x : Value} {T : TypeId} (h : W.heap[b]? = some (.cells #[c0, c1, c2, c3] T)) : (W.setCell ⟨b, 2, none⟩ x).heap[b]? = some (.cells #[c0, c1, x, c3] T) := by
  simp only [World.setCell, Array.getElem?_modify, if_true, h, Option.map_some]
  rfl
theorem cell4_3 {W : World} {b : Nat} {c0 c1 c2 c3 : Value} {T : TypeId} (h : W.heap[b]? = some (.cells #[c0, c1, c2, c3] T)) : W.cell? ⟨b, 3, none⟩ = some c3 := by simp [World.cell?, h]
theorem free4_3 {W : World} {b : Nat} {c0 c1 c2 c3 : Value} {T : TypeId} (h : W.heap[b]? = some (.cells #[c0, c1, c2, c3] T)) : W.frozen? ⟨b, 3, none⟩ = false := by simp [World.frozen?, h]
theorem set4_3 {W : World} {b : Nat} {c0 c1 c2 c3 x : Value} {T : TypeId} (h : W.heap[b]? = some (.cells #[c0, c1, c2, c3] T)) : (W.setCell ⟨b, 3, none⟩ x).heap[b]? = some (.cells #[c0, c1, c2, x] T) := by
  simp only [World.setCell, Array.getElem?_modify, if_true, h, Option.map_some]
  rfl
theorem cell6_0 {W : World} {b : Nat} {c0 c1 c2 c3 c4 c5 : Value} {T : TypeId} (h : W.heap[b]? = some (.cells #[c0, c1, c2, c3, c4, c5] T)) : W.cell? ⟨b, 0, none⟩ = some c0 := by simp [World.cell?, h]
theorem free6_0 {W : World} {b : Nat} {c0 c1 c2 c3 c4 c5 : Value} {T : TypeId} (h : W.heap[b]? = some (.cells #[c0, c1, c2, c3, c4, c5] T)) : W.frozen? ⟨b, 0, none⟩ = false := by simp [World.frozen?, h]
theorem set6_0 {W : World} {b : Nat} {c0 c1 c2 c3 c4 c5 x : Value} {T : TypeId} (h : W.heap[b]? = some (.cells #[c0, c1, c2, c3, c4, c5] T)) : (W.setCell ⟨b, 0, none⟩ x).heap[b]? = some (.cells #[x, c1, c2, c3, c4, c5] T) := by
  simp only [World.setCell, Array.getElem?_modify, if_true, h, Option.map_some]
  rfl
theorem cell6_1 {W : World} {b : Nat} {c0 c1 c2 c3 c4 c5 : Value} {T : TypeId} (h : W.heap[b]? = some (.cells #[c0, c1, c2, c3, c4, c5] T)) : W.cell? ⟨b, 1, none⟩ = some c1 := by simp [World.cell?, h]
theorem free6_1 {W : World} {b : Nat} {c0 c1 c2 c3 c4 c5 : Value} {T : TypeId} (h : W.heap[b]? = some (.cells #[c0, c1, c2, c3, c4, c5] T)) : W.frozen? ⟨b, 1, none⟩ = false := by simp [World.frozen?, h]
theorem set6_1 {W : World} {b : Nat} {c0 c1 c2 c3 c4 c5 x : Value} {T : TypeId} (h : W.heap[b]? = some (.cells #[c0, c1, c2, c3, c4, c5] T)) : (W.setCell ⟨b, 1, none⟩ x).heap[b]? = some (.cells #[c0, x, c2, c3, c4, c5] T) := by
  simp only [World.setCell, Array.getElem?_modify, if_true, h, Option.map_some]
  rfl
theorem cell6_2 {W : World} {b : Nat} {c0 c1 c2 c3 c4 c5 : Value} {T : TypeId} (h : W.heap[b]? = some (.cells #[c0, c1, c2, c3, c4, c5] T)) : W.cell? ⟨b, 2, none⟩ = some c2 := by simp [World.cell?, h]
theorem free6_2 {W : World} {b : Nat} {c0 c1 c2 c3 c4 c5 : Value} {T : TypeId} (h : W.heap[b]? = some (.cells #[c0, c1, c2, c3, c4, c5] T)) : W.frozen? ⟨b, 2, none⟩ = false := by simp [World.frozen?, h]
theorem set6_2 {W : World} {b : Nat} {c0 c1 c2 c3 c4 c5 x : Value} {T : TypeId} (h : W.heap[b]? = some (.cells #[c0, c1, c2, c3, c4, c5] T)) : (W.setCell ⟨b, 2, none⟩ x).heap[b]? = some (.cells #[c0, c1, x, c3, c4, c5] T) := by
  simp only [World.setCell, Array.getElem?_modify, if_true, h, Option.map_some]
  rfl
theorem cell6_3 {W : World} {b : Nat} {c0 c1 c2 c3 c4 c5 : Value} {T : TypeId} (h : W.heap[b]? = some (.cells #[c0, c1, c2, c3, c4, c5] T)) : W.cell? ⟨b, 3, none⟩ = some c3 := by simp [World.cell?, h]
theorem free6_3 {W : World} {b : Nat} {c0 c1 c2 c3 c4 c5 : Value} {T : TypeId} (h : W.heap[b]? = some (.cells #[c0, c1, c2, c3, c4, c5] T)) : W.frozen? ⟨b, 3, none⟩ = false := by simp [World.frozen?, h]
theorem set6_3 {W : World} {b : Nat} {c0 c1 c2 c3 c4 c5 x : Value} {T : TypeId} (h : W.heap[b]? = some (.cells #[c0, c1, c2, c3, c4, c5] T)) : (W.setCell ⟨b, 3, none⟩ x).heap[b]? = some (.cells #[c0, c1, c2, x, c4, c5] T) := by
  simp only [World.setCell, Array.getElem?_modify, if_true, h, Option.map_some]
  rfl
theorem cell6_4 {W : World} {b : Nat} {c0 c1 c2 c3 c4 c5 : Value} {T : TypeId} (h : W.heap[b]? = some (.cells #[c0, c1, c2, c3, c4, c5] T)) : W.cell? ⟨b, 4, none⟩ = some c4 := by simp [World.cell?, h]
theorem free6_4 {W : World} {b : Nat} {c0 c1 c2 c3 c4 c5 : Value} {T : TypeId} (h : W.heap[b]? = some (.cells #[c0, c1, c2, c3, c4, c5] T)) : W.frozen? ⟨b, 4, none⟩ = false := by simp [World.frozen?, h]
theorem set6_4 {W : World} {b : Nat} {c0 c1 c2 c3 c4 c5 x : Value} {T : TypeId} (h : W.heap[b]? = some (.cells #[c0, c1, c2, c3, c4, c5] T)) : (W.setCell ⟨b, 4, none⟩ x).heap[b]? = some (.cells #[c0, c1, c2, c3, x, c5] T) := by
  simp only [World.setCell, Array.getElem?_modify, if_true, h, Option.map_some]
  rfl
theorem cell6_5 {W : World} {b : Nat} {c0 c1 c2 c3 c4 c5 : Value} {T : TypeId} (h : W.heap[b]? = some (.cells #[c0, c1, c2, c3, c4, c5] T)) : W.cell? ⟨b, 5, none⟩ = some c5 := by simp [World.cell?, h]
theorem free6_5 {W : World} {b : Nat} {c0 c1 c2 c3 c4 c5 : Value} {T : TypeId} (h : W.heap[b]? = some (.cells #[c0, c1, c2, c3, c4, c5] T)) : W.frozen? ⟨b, 5, none⟩ = false := by simp [World.frozen?, h]
theorem set6_5 {W : World} {b : Nat} {c0 c1 c2 c3 c4 c5 x : Value} {T : TypeId} (h : W.heap[b]? = some (.cells #[c0, c1, c2, c3, c4, c5] T)) : (W.setCell ⟨b, 5, none⟩ x).heap[b]? = some (.cells #[c0, c1, c2, c3, c4, x] T) := by
  simp only [World.setCell, Array.getElem?_modify, if_true, h, Option.map_some]
  rfl
theorem cell2_0 {W : World} {b : Nat} {c0 c1 : Value} {T : TypeId} (h : W.heap[b]? = some (.cells #[c0, c1] T)) : W.cell? ⟨b, 0, none⟩ = some c0 := by simp [World.cell?, h]
theorem free2_0 {W : World} {b : Nat} {c0 c1 : Value} {T : TypeId} (h : W.heap[b]? = some (.cells #[c0, c1] T)) : W.frozen? ⟨b, 0, none⟩ = false := by simp [World.frozen?, h]
theorem set2_0 {W : World} {b : Nat} {c0 c1 x : Value} {T : TypeId} (h : W.heap[b]? = some (.cells #[c0, c1] T)) : (W.setCell ⟨b, 0, none⟩ x).heap[b]? = some (.cells #[x, c1] T) := by
  simp only [World.setCell, Array.getElem?_modify, if_true, h, Option.map_some]
  rfl
theorem cell2_1 {W : World} {b : Nat} {c0 c1 : Value} {T : TypeId} (h : W.heap[b]? = some (.cells #[c0, c1] T)) : W.cell? ⟨b, 1, none⟩ = some c1 := by simp [World.cell?, h]
theorem free2_1 {W : World} {b : Nat} {c0 c1 : Value} {T : TypeId} (h : W.heap[b]? = some (.cells #[c0, c1] T)) : W.frozen? ⟨b, 1, none⟩ = false := by simp [World.frozen?, h]
theorem set2_1 {W : World} {b : Nat} {c0 c1 x : Value} {T : TypeId} (h : W.heap[b]? = some (.cells #[c0, c1] T)) : (W.setCell ⟨b, 1, none⟩ x).heap[b]? = some (.cells #[c0, x] T) := by
  simp only [World.setCell, Array.getElem?_modify, if_true, h, Option.map_some]
  rfl
theorem heap_new {X : World} {o : Obj} {k : Nat} (hk : k = X.heap.size) : (X.alloc o).heap[k]? = some o := by subst hk; exact World.alloc_heap_new X o
theorem heap_old {X : World} {o o' : Obj} {k : Nat} (h : X.heap[k]? = some o') : (X.alloc o).heap[k]? = some o' := (Below.heap_alloc _ _ _ (Array.getElem?_eq_some_iff.1 h).1).trans h
theorem set_other {W : World} {b k o : Nat} {x : Value} (h : k ≠ b) : (W.setCell ⟨b, o, none⟩ x).heap[k]? = W.heap[k]? := Below.heap_setCell _ _ _ _ (by simpa using h)
theorem drew_below' (w : World) (m : Nat) : Below w.heap.size w (w.drewN m) := ⟨rfl, rfl, rfl, Nat.le_refl _, fun _ _ => rfl⟩
theorem wrap_in {q : Int} (h1 : -9223372036854775808 ≤ q) (h2 : q ≤ 9223372036854775807) : IntKind.i64.wrap q = q := by
  have hb : IntKind.i64.bits = 64 := rfl
  have hs : IntKind.i64.signed = true := rfl
  unfold IntKind.wrap
  rw [hb, hs]
  simp only [Bool.true_and, decide_eq_true_eq]
  split <;> omega
theorem gcd_tmod' (a b : Int) : Int.gcd (b.tmod a) a = Int.gcd a b := by
  have h : b.tmod a = b - b.tdiv a * a := by have := Int.mul_tdiv_add_tmod b a; rw [Int.mul_comm] at this; omega
  rw [h]
  apply Nat.dvd_antisymm
  · refine Int.dvd_gcd (Int.gcd_dvd_right ..) ?_
    have h1 := Int.gcd_dvd_left (a := b - b.tdiv a * a) (b := a)
    have h2 := Int.dvd_mul_of_dvd_right (b := b.tdiv a) (Int.gcd_dvd_right (a := b - b.tdiv a * a) (b := a))
    have h3 := Int.dvd_add h1 h2
    rwa [show b - b.tdiv a * a + b.tdiv a * a = b by omega] at h3
  · refine Int.dvd_gcd ?_ (Int.gcd_dvd_left ..)
    have h1 := Int.gcd_dvd_right (a := a) (b := b)
    have h2 := Int.dvd_mul_of_dvd_right (b := b.tdiv a) (Int.gcd_dvd_left (a := a) (b := b))
    exact Int.dvd_sub h1 h2
theorem gcd_le {n m : Int} (hm : 0 < m) : (Int.gcd n m : Int) ≤ m := Int.le_of_dvd hm (Int.gcd_dvd_right ..)

set_option maxHeartbeats 1000000 in
theorem ivdivisor_any (n m : Int) (w : World) (h1 : -9223372036854775808 ≤ n) (h2 : n ≤ 9223372036854775807) (h3 : 0 < m) (h4 : m ≤ 9223372036854775807) :
    Calls Tryz.prog 91 #[.int .i64 n, .int .i64 m] w fun e w' => e = .returned (.int .i64 (Int.gcd n m : Nat)) ∧ ∃ n, w' = w.drewN n := by
  have hgl := gcd_le (n := n) h3
  obtain ⟨g, hg⟩ : ∃ g, Int.gcd n m = g := ⟨_, rfl⟩
  rw [hg] at hgl ⊢
  go_enter Tryz.func91, Tryz.ntmps91
  go_wp2_with fail
  go_loopw [0, 1] (fun x y wr => ∃ a b : Int, -9223372036854775808 ≤ a ∧ a ≤ 9223372036854775807 ∧ -9223372036854775808 ≤ b ∧ b ≤ 9223372036854775807 ∧ Int.gcd a b = g ∧ x = .int .i64 a ∧ y = .int .i64 b ∧ ∃ n, wr = w.drewN n) (fun x _ _ => (intOf x).natAbs)
  case atStart => exact ⟨n, m, h1, h2, by omega, h4, hg, rfl, rfl, 0, rfl⟩
  case round =>
    obtain ⟨a, b, ha1, ha2, hb1, hb2, hgc, rfl, rfl, nn, rfl⟩ := hrel
    have HG := Lib.hid hgc
    clear hgc
    by_cases h : a = 0
    · subst h
      have hb : (b.natAbs : Int) = g := by rw [← HG.out]; simp
      have hmx : max b (-b) = (g : Int) := by omega
      have hbn : -9223372036854775808 < b := by omega
      go_wp2
      all_goals
        go_ret
        exact ⟨ret_int (by omega), nn, rfl⟩
    · have ht : ((a : Int) == 0) = false := by rw [beq_eq_false_iff_ne]; exact h
      have ht' : ((a : Int) != 0) = true := by simp [bne, ht]
      have hG := gcd_tmod' a b
      rw [HG.out] at hG
      have hr1 : (b.tmod a).natAbs < a.natAbs := by rw [Int.natAbs_tmod]; exact Nat.mod_lt _ (by omega)
      obtain ⟨r, hr⟩ : ∃ r, b.tmod a = r := ⟨_, rfl⟩
      rw [hr] at hG hr1
      go_wp2
      exact ⟨⟨r, a, by omega, by omega, ha1, ha2, hG, rfl, rfl, nn, rfl⟩, hr1⟩
set_option maxHeartbeats 1000000 in
theorem ivmultiple_any (d e : Nat) (w : World) (h1 : 0 < d) (h2 : 0 < e) (h3 : d * e ≤ 9223372036854775807) (hd : d ≤ 9223372036854775807) (he : e ≤ 9223372036854775807) :
    Calls Tryz.prog 64 #[.int .i64 d, .int .i64 e] w fun x w' => x = .returned (.int .i64 (Nat.lcm d e : Nat)) ∧ ∃ n, w' = w.drewN n := by
  have DV := Lib.hid (fun W => ivdivisor_any (d : Int) (e : Int) W (by omega) (by omega) (by omega) (by omega))
  have hg0 : 0 < Nat.gcd d e := Nat.gcd_pos_of_pos_left _ h1
  have hL : d / Nat.gcd d e * e = Nat.lcm d e := by
    unfold Nat.lcm
    obtain ⟨k, hk⟩ := Nat.gcd_dvd_left d e
    have e1 : d / Nat.gcd d e = k := by conv => lhs; lhs; rw [hk]
                                        exact Nat.mul_div_cancel_left _ hg0
    rw [e1]
    conv => rhs; lhs; lhs; rw [hk]
    rw [Nat.mul_assoc, Nat.mul_div_cancel_left _ hg0]
  have hgle : Nat.gcd d e ≤ d := Nat.le_of_dvd h1 (Nat.gcd_dvd_left ..)
  have hql : d / Nat.gcd d e ≤ d := Nat.div_le_self _ _
  have hLl : Nat.lcm d e ≤ d * e := by unfold Nat.lcm; exact Nat.div_le_self _ _
  have hLb : Nat.lcm d e ≤ 9223372036854775807 := by omega
  have hq : ((d : Int)).tdiv ((Nat.gcd d e : Nat) : Int) = ((d / Nat.gcd d e : Nat) : Int) := by simp
  have hp : ((d / Nat.gcd d e : Nat) : Int) * (e : Int) = ((Nat.lcm d e : Nat) : Int) := by rw [← Int.natCast_mul, hL]
  have eg : Int.gcd (d : Int) (e : Int) = Nat.gcd d e := rfl
  rw [eg] at DV
  clear eg hL h3 hLl
  generalize Nat.gcd d e = g at *
  generalize hqq : d / g = q at *
  generalize Nat.lcm d e = L at *
  have hgi : ¬ ((g : Int) = 0) := by omega
  go_enter Tryz.func64, Tryz.ntmps64
  go_wp2_with fail
  refine (DV.out _).mono ?_
  rintro x w1 ⟨rfl, k, rfl⟩
  go_wp2
  go_ret
  exact ⟨ret_int rfl, k, rfl⟩
theorem ix_int0 (a b c : Int) (W : World) : Sem.run Tryz.prog (Instr.index 27 (.agg #[.int .i64 a, .int .i64 b, .int .i64 c]) (.int .i64 0)) W = .ok (.int .i64 a) W := by kernel_rfl
theorem ix_int1 (a b c : Int) (W : World) : Sem.run Tryz.prog (Instr.index 27 (.agg #[.int .i64 a, .int .i64 b, .int .i64 c]) (.int .i64 1)) W = .ok (.int .i64 b) W := by kernel_rfl
theorem ix_int2 (a b c : Int) (W : World) : Sem.run Tryz.prog (Instr.index 27 (.agg #[.int .i64 a, .int .i64 b, .int .i64 c]) (.int .i64 2)) W = .ok (.int .i64 c) W := by kernel_rfl
theorem ix_frac0 (a b c d e f : Int) (W : World) : Sem.run Tryz.prog (Instr.index 56 (.agg #[.int .i64 a, .int .i64 b, .int .i64 c, .int .i64 d, .int .i64 e, .int .i64 f]) (.int .i64 0)) W = .ok (.agg #[.int .i64 a, .int .i64 b]) W := by kernel_rfl
theorem ix_frac1 (a b c d e f : Int) (W : World) : Sem.run Tryz.prog (Instr.index 56 (.agg #[.int .i64 a, .int .i64 b, .int .i64 c, .int .i64 d, .int .i64 e, .int .i64 f]) (.int .i64 1)) W = .ok (.agg #[.int .i64 c, .int .i64 d]) W := by kernel_rfl
theorem ix_frac2 (a b c d e f : Int) (W : World) : Sem.run Tryz.prog (Instr.index 56 (.agg #[.int .i64 a, .int .i64 b, .int .i64 c, .int .i64 d, .int .i64 e, .int .i64 f]) (.int .i64 2)) W = .ok (.agg #[.int .i64 e, .int .i64 f]) W := by kernel_rfl
end Go.Proofs.YthdoadkdofgenaaGreatDoor
/- Contracts of right, lowest. -/
namespace Go.Proofs.YthdoadkdofgenaaGreatDoor
open Go Go.RowKit Go.Shelf

set_option maxRecDepth 10000 in
set_option maxHeartbeats 2000000 in
theorem ivright_any (a b c d : Int) (w : World) :
    Calls Tryz.prog 65 #[.agg #[.int .i64 a, .int .i64 b, .int .i64 c, .int .i64 d]] w fun e w' => e = .returned (.bool (Iv.inB a b c d)) ∧ Below w.heap.size w w' := by
  have hin : Iv.inB a b c d = decide (-6000 ≤ a ∧ a ≤ 6000 ∧ -6000 ≤ b ∧ b ≤ 6000 ∧ -6000 ≤ c ∧ c ≤ 6000 ∧ d ≤ 240) := rfl
  obtain ⟨R, hR⟩ : ∃ R, Iv.inB a b c d = R := ⟨_, rfl⟩
  rw [hR] at hin ⊢
  have HIN := Lib.hid hin
  have X0 := fun W => ix_int0 a b c W
  have X1 := fun W => ix_int1 a b c W
  have X2 := fun W => ix_int2 a b c W
  clear hR hin
  obtain ⟨D, hD⟩ : ∃ D, w.heap.size = D := ⟨_, rfl⟩
  go_enter Tryz.func65, Tryz.ntmps65
  go_wp2_with fail
  go_loopw [7] (fun i wr => (i = .int .i64 0 ∨ (i = .int .i64 1 ∧ -6000 ≤ a ∧ a ≤ 6000) ∨ (i = .int .i64 2 ∧ -6000 ≤ a ∧ a ≤ 6000 ∧ -6000 ≤ b ∧ b ≤ 6000) ∨ (i = .int .i64 3 ∧ -6000 ≤ a ∧ a ≤ 6000 ∧ -6000 ≤ b ∧ b ≤ 6000 ∧ -6000 ≤ c ∧ c ≤ 6000)) ∧ wr = w.alloc (.cells #[.int .i64 a, .int .i64 b, .int .i64 c, .int .i64 d] 73)) (fun i _ => 3 - (intOf i).toNat)
  case atStart => exact ⟨.inl rfl, rfl⟩
  case round =>
    obtain ⟨hk, rfl⟩ := hrel
    rcases hk with rfl | ⟨rfl, h0, h1⟩ | ⟨rfl, h0, h1, h2, h3⟩ | ⟨rfl, h0, h1, h2, h3, h4, h5⟩
    · by_cases c1 : a < -6000
      · have hr : R = false := by rw [HIN.out]; simp; omega
        subst hr
        go_wp2
        go_ret
        exact ⟨rfl, by go_grown⟩
      · by_cases c2 : 6000 < a
        · have hr : R = false := by rw [HIN.out]; simp; omega
          subst hr
          go_wp2
          go_ret
          exact ⟨rfl, by go_grown⟩
        · go_wp2
          exact ⟨⟨.inr (.inl ⟨rfl, by omega, by omega⟩), trivial⟩, by decide⟩
    · by_cases c1 : b < -6000
      · have hr : R = false := by rw [HIN.out]; simp; omega
        subst hr
        go_wp2
        go_ret
        exact ⟨rfl, by go_grown⟩
      · by_cases c2 : 6000 < b
        · have hr : R = false := by rw [HIN.out]; simp; omega
          subst hr
          go_wp2
          go_ret
          exact ⟨rfl, by go_grown⟩
        · go_wp2
          exact ⟨⟨.inr (.inr (.inl ⟨rfl, h0, h1, by omega, by omega⟩)), trivial⟩, by decide⟩
    · by_cases c1 : c < -6000
      · have hr : R = false := by rw [HIN.out]; simp; omega
        subst hr
        go_wp2
        go_ret
        exact ⟨rfl, by go_grown⟩
      · by_cases c2 : 6000 < c
        · have hr : R = false := by rw [HIN.out]; simp; omega
          subst hr
          go_wp2
          go_ret
          exact ⟨rfl, by go_grown⟩
        · go_wp2
          exact ⟨⟨.inr (.inr (.inr ⟨rfl, h0, h1, h2, h3, by omega, by omega⟩)), trivial⟩, by decide⟩
    · have hr : R = decide (d ≤ 240) := by rw [HIN.out]; congr 1; apply propext; omega
      subst hr
      clear HIN
      go_wp2
      go_ret
      exact ⟨rfl, by go_grown⟩

theorem tdiv_bd {x : Int} {g : Nat} {B : Int} (h1 : -B ≤ x) (h2 : x ≤ B) : -B ≤ x.tdiv g ∧ x.tdiv g ≤ B := by
  have : (x.tdiv (g : Int)).natAbs ≤ x.natAbs := by rw [Int.natAbs_tdiv]; exact Nat.div_le_self _ _
  omega
set_option maxRecDepth 10000 in
set_option maxHeartbeats 4000000 in
theorem ivlowest_any (a b c d : Int) (w : World) (ha1 : -9223372036854775807 ≤ a) (ha2 : a ≤ 9223372036854775807) (hb1 : -9223372036854775807 ≤ b) (hb2 : b ≤ 9223372036854775807) (hc1 : -9223372036854775807 ≤ c) (hc2 : c ≤ 9223372036854775807) (hd1 : 0 < d) (hd2 : d ≤ 9223372036854775807) :
    Calls Tryz.prog 68 #[.agg #[.int .i64 a, .int .i64 b, .int .i64 c, .int .i64 d]] w fun e w' => e = .returned (.agg #[.int .i64 (a.tdiv (Iv.g4 a b c d)), .int .i64 (b.tdiv (Iv.g4 a b c d)), .int .i64 (c.tdiv (Iv.g4 a b c d)), .int .i64 (d.tdiv (Iv.g4 a b c d))]) ∧ Below w.heap.size w w' := by
  have X0 := fun W => ix_int0 a b c W
  have X1 := fun W => ix_int1 a b c W
  have X2 := fun W => ix_int2 a b c W
  obtain ⟨g1, e1⟩ : ∃ g1 : Nat, Int.gcd a d = g1 := ⟨_, rfl⟩
  obtain ⟨g2, e2⟩ : ∃ g2 : Nat, Int.gcd b g1 = g2 := ⟨_, rfl⟩
  obtain ⟨g3, e3⟩ : ∃ g3 : Nat, Int.gcd c g2 = g3 := ⟨_, rfl⟩
  have eg : Iv.g4 a b c d = g3 := by rw [← e3, ← e2, ← e1]; rfl
  have l1 : (g1 : Int) ≤ d := by rw [← e1]; exact gcd_le hd1
  have p1 : 0 < g1 := by rw [← e1]; exact Int.gcd_pos_of_ne_zero_right _ (by omega)
  have l2 : (g2 : Int) ≤ g1 := by rw [← e2]; exact gcd_le (by omega)
  have p2 : 0 < g2 := by rw [← e2]; exact Int.gcd_pos_of_ne_zero_right _ (by omega)
  have l3 : (g3 : Int) ≤ g2 := by rw [← e3]; exact gcd_le (by omega)
  have p3 : 0 < g3 := by rw [← e3]; exact Int.gcd_pos_of_ne_zero_right _ (by omega)
  rw [eg]
  have C0 := Lib.hid (fun W => ivdivisor_any a d W (by omega) (by omega) (by omega) (by omega))
  have C1 := Lib.hid (fun W => ivdivisor_any b g1 W (by omega) (by omega) (by omega) (by omega))
  have C2 := Lib.hid (fun W => ivdivisor_any c g2 W (by omega) (by omega) (by omega) (by omega))
  rw [e1] at C0
  rw [e2] at C1
  rw [e3] at C2
  have ta := tdiv_bd (g := g3) ha1 ha2
  have tb := tdiv_bd (g := g3) hb1 hb2
  have tc := tdiv_bd (g := g3) hc1 hc2
  have td := tdiv_bd (g := g3) (x := d) (B := 9223372036854775807) (by omega) hd2
  have hgz : ¬ ((g3 : Int) = 0) := by omega
  clear e1 e2 e3 eg
  obtain ⟨qa, hqa⟩ : ∃ q, a.tdiv (g3 : Int) = q := ⟨_, rfl⟩
  obtain ⟨qb, hqb⟩ : ∃ q, b.tdiv (g3 : Int) = q := ⟨_, rfl⟩
  obtain ⟨qc, hqc⟩ : ∃ q, c.tdiv (g3 : Int) = q := ⟨_, rfl⟩
  obtain ⟨qd, hqd⟩ : ∃ q, d.tdiv (g3 : Int) = q := ⟨_, rfl⟩
  rw [hqa] at ta ⊢
  rw [hqb] at tb ⊢
  rw [hqc] at tc ⊢
  rw [hqd] at td ⊢
  obtain ⟨D, hD⟩ : ∃ D, w.heap.size = D := ⟨_, rfl⟩
  go_enter Tryz.func68, Tryz.ntmps68
  go_wp2_with fail
  obtain ⟨V, hV⟩ : ∃ V, ((w.alloc (.cells #[.int .i64 a, .int .i64 b, .int .i64 c, .int .i64 d] 73)).alloc (.cells #[.int .i64 0, .int .i64 0, .int .i64 0, .int .i64 0] 73)) = V := ⟨_, rfl⟩
  have hwV : Below D w V := by rw [← hV]; exact ((Below.refl _ w).alloc (by omega) _).alloc (by simp; omega) _
  have h0V : V.heap[D]? = some (.cells #[.int .i64 a, .int .i64 b, .int .i64 c, .int .i64 d] 73) := by rw [← hV]; exact heap_old (heap_new hD.symm)
  have h1V : V.heap[D + 1]? = some (.cells #[.int .i64 0, .int .i64 0, .int .i64 0, .int .i64 0] 73) := by rw [← hV]; exact heap_new (by simp [hD])
  rw [hV]
  clear hV
  go_loopw [3, 11] (fun m i wr => ((i = .int .i64 0 ∧ m = .int .i64 d) ∨ (i = .int .i64 1 ∧ m = .int .i64 g1) ∨ (i = .int .i64 2 ∧ m = .int .i64 g2) ∨ (i = .int .i64 3 ∧ m = .int .i64 g3)) ∧ ∃ n, wr = V.drewN n) (fun _ i _ => 3 - (intOf i).toNat)
  case atStart => exact ⟨.inl ⟨rfl, rfl⟩, 0, rfl⟩
  case round =>
    obtain ⟨hk, n, rfl⟩ := hrel
    rcases hk with ⟨rfl, rfl⟩ | ⟨rfl, rfl⟩ | ⟨rfl, rfl⟩ | ⟨rfl, rfl⟩
    · go_wp2_with fail
      refine (C0.out _).mono ?_
      rintro e w1 ⟨rfl, k, rfl⟩
      go_wp2
      exact ⟨⟨.inr (.inl ⟨rfl, rfl⟩), n + k, rfl⟩, by decide⟩
    · go_wp2_with fail
      refine (C1.out _).mono ?_
      rintro e w1 ⟨rfl, k, rfl⟩
      go_wp2
      exact ⟨⟨.inr (.inr (.inl ⟨rfl, rfl⟩)), n + k, rfl⟩, by decide⟩
    · go_wp2_with fail
      refine (C2.out _).mono ?_
      rintro e w1 ⟨rfl, k, rfl⟩
      go_wp2
      exact ⟨⟨.inr (.inr (.inr ⟨rfl, rfl⟩)), n + k, rfl⟩, by decide⟩
    · have h0 : (V.drewN n).heap[D]? = some (.cells #[.int .i64 a, .int .i64 b, .int .i64 c, .int .i64 d] 73) := h0V
      have c3 := cell4_3 h0
      have f3 := free4_3 h0
      have hD1 : D < (V.drewN n).heap.size := (Array.getElem?_eq_some_iff.1 h0).1
      go_wp2_with fail
      obtain ⟨U, hU⟩ : ∃ U, ((V.drewN n).setCell ⟨D, 3, none⟩ (.int .i64 qd)) = U := ⟨_, rfl⟩
      have hwU : Below D w U := by rw [← hU]; exact (hwV.trans ((drew_below' V n).mono (by have := hwV.size; omega))).setCell (by simp) _
      have h0U : U.heap[D]? = some (.cells #[.int .i64 a, .int .i64 b, .int .i64 c, .int .i64 qd] 73) := by rw [← hU]; exact set4_3 h0
      have h1U : U.heap[D + 1]? = some (.cells #[.int .i64 0, .int .i64 0, .int .i64 0, .int .i64 0] 73) := by rw [← hU]; exact (set_other (by omega)).trans h1V
      rw [hU]
      clear hU h0 c3 f3 hwV h0V h1V C0 C1 C2 X0 X1 X2 hD1
      go_loopw [23] (fun i wr => ((i = .int .i64 0 ∧ wr.heap[D]? = some (.cells #[.int .i64 a, .int .i64 b, .int .i64 c, .int .i64 qd] 73)) ∨ (i = .int .i64 1 ∧ wr.heap[D]? = some (.cells #[.int .i64 qa, .int .i64 b, .int .i64 c, .int .i64 qd] 73)) ∨ (i = .int .i64 2 ∧ wr.heap[D]? = some (.cells #[.int .i64 qa, .int .i64 qb, .int .i64 c, .int .i64 qd] 73)) ∨ (i = .int .i64 3 ∧ wr.heap[D]? = some (.cells #[.int .i64 qa, .int .i64 qb, .int .i64 qc, .int .i64 qd] 73))) ∧ Below D w wr ∧ wr.heap[D + 1]? = some (.cells #[.int .i64 0, .int .i64 0, .int .i64 0, .int .i64 0] 73)) (fun i _ => 3 - (intOf i).toNat)
      case atStart => exact ⟨.inl ⟨rfl, h0U⟩, hwU, h1U⟩
      case round =>
        obtain ⟨hk, hw, h1⟩ := hrel
        rcases hk with ⟨rfl, h0⟩ | ⟨rfl, h0⟩ | ⟨rfl, h0⟩ | ⟨rfl, h0⟩
        · have c0 := cell4_0 h0
          have f0 := free4_0 h0
          have H0 := Lib.hid (set4_0 (x := .int .i64 qa) h0)
          have H1 := Lib.hid ((set_other (b := D) (o := 0) (x := .int .i64 qa) (show D + 1 ≠ D by omega)).trans h1)
          have HW := Lib.hid (hw.setCell (p := ⟨D, 0, none⟩) (by simp) (.int .i64 qa))
          clear h0 h1 hw
          go_wp2
          exact ⟨⟨.inr (.inl ⟨rfl, H0.out⟩), HW.out, H1.out⟩, by decide⟩
        · have c0 := cell4_1 h0
          have f0 := free4_1 h0
          have H0 := Lib.hid (set4_1 (x := .int .i64 qb) h0)
          have H1 := Lib.hid ((set_other (b := D) (o := 1) (x := .int .i64 qb) (show D + 1 ≠ D by omega)).trans h1)
          have HW := Lib.hid (hw.setCell (p := ⟨D, 1, none⟩) (by simp) (.int .i64 qb))
          clear h0 h1 hw
          go_wp2
          exact ⟨⟨.inr (.inr (.inl ⟨rfl, H0.out⟩)), HW.out, H1.out⟩, by decide⟩
        · have c0 := cell4_2 h0
          have f0 := free4_2 h0
          have H0 := Lib.hid (set4_2 (x := .int .i64 qc) h0)
          have H1 := Lib.hid ((set_other (b := D) (o := 2) (x := .int .i64 qc) (show D + 1 ≠ D by omega)).trans h1)
          have HW := Lib.hid (hw.setCell (p := ⟨D, 2, none⟩) (by simp) (.int .i64 qc))
          clear h0 h1 hw
          go_wp2
          exact ⟨⟨.inr (.inr (.inr ⟨rfl, H0.out⟩)), HW.out, H1.out⟩, by decide⟩
        · have c0 := cell4_0 h0
          have c1 := cell4_1 h0
          have c2 := cell4_2 h0
          have c3 := cell4_3 h0
          have r0 := cell4_0 h1
          have r1 := cell4_1 h1
          have r2 := cell4_2 h1
          have r3 := cell4_3 h1
          have f0 := free4_0 h1
          have f1 := free4_1 h1
          have f2 := free4_2 h1
          have f3 := free4_3 h1
          have HW := Lib.hid ((((hw.setCell (p := ⟨D + 1, 0, none⟩) (by simp) (.int .i64 qa)).setCell (p := ⟨D + 1, 1, none⟩) (by simp) (.int .i64 qb)).setCell (p := ⟨D + 1, 2, none⟩) (by simp) (.int .i64 qc)).setCell (p := ⟨D + 1, 3, none⟩) (by simp) (.int .i64 qd))
          have hE := set4_3 (x := .int .i64 qd) (set4_2 (x := .int .i64 qc) (set4_1 (x := .int .i64 qb) (set4_0 (x := .int .i64 qa) h1)))
          have z0 := cell4_0 hE
          have z1 := cell4_1 hE
          have z2 := cell4_2 hE
          have z3 := cell4_3 hE
          clear h0 h1 hw hE
          go_wp2
          refine bodyPost_ret (v := .agg #[.int .i64 qa, .int .i64 qb, .int .i64 qc, .int .i64 qd]) (by simp [results, Tryz.results68, go_sem, z0, z1, z2, z3]) rfl ⟨rfl, by rw [hD]; exact HW.out⟩
end Go.Proofs.YthdoadkdofgenaaGreatDoor
