/- Contracts of the small functions of package fraction and of its reference (magnitudes, divisors, quotients in lowest terms): each returns what FracMath says; numbers lie in the range of their kinds. -/
import Derived.Test.YtbkbncapgljfaaaGreatDoorProg
import Derived.Test.YtbkbncapgljfaaaGreatDoorImB
import Derived.Test.YtbkbncapgljfaaaGreatDoorImN
import Derived.WalkKit
import Derived.WalkSpells
import Derived.WalkLawsBesides
import Derived.Outline
import Derived.BigQuiet
import Derived.Deep.QuietTactic
import Derived.RegionTactic
import Derived.ChangeAlike
import Derived.Lib.Hide
import Derived.Handy
import Derived.Test.YtbkbncapgljfaaaGreatDoorImM
import Derived.Lib.ItoaNum
namespace Go.Proofs.YtbkbncapgljfaaaGreatDoor
open Go.RowKit

theorem bcell {W w1 : World} (hb : Below W.heap.size W w1) : (∀ b o, b < W.heap.size → w1.cell? ⟨b, o, none⟩ = W.cell? ⟨b, o, none⟩) ∧ (∀ b o, b < W.heap.size → w1.frozen? ⟨b, o, none⟩ = W.frozen? ⟨b, o, none⟩) :=
  ⟨fun b o h => hb.cell (p := ⟨b, o, none⟩) h, fun b o h => hb.frozen (p := ⟨b, o, none⟩) h⟩

theorem magnitude_any (n : Int) (w : World) (h1 : -9223372036854775808 ≤ n) (h2 : n ≤ 9223372036854775807) :
    Calls Tryz.prog 55 #[.int .i64 n] w fun e w' => e = .returned (.int .u64 (n.natAbs : Int)) ∧ w = w' := by
  by_cases h : n < 0
  · go_enter Tryz.func55, Tryz.ntmps55
    go_wp2
    go_ret
    exact ⟨ret_int (by simp only [IntKind.wrap_u64]; omega), rfl⟩
  · go_enter Tryz.func55, Tryz.ntmps55
    go_wp2
    go_ret
    exact ⟨ret_int (by omega), rfl⟩

theorem divisor_any (a b : Nat) (w : World) (ha : a ≤ 18446744073709551615) (hb : b ≤ 18446744073709551615) :
    Calls Tryz.prog 54 #[.int .u64 (a : Int), .int .u64 (b : Int)] w fun e w' => e = .returned (.int .u64 (Nat.gcd a b : Nat)) ∧ ∃ n, w' = w.drewN n := by
  go_enter Tryz.func54, Tryz.ntmps54
  go_wp2
  go_loopw [0, 1] (fun x y wr => ∃ a' b' : Nat, a' ≤ 18446744073709551615 ∧ b' ≤ 18446744073709551615 ∧ Nat.gcd a' b' = Nat.gcd a b ∧ x = .int .u64 (a' : Int) ∧ y = .int .u64 (b' : Int) ∧ ∃ n, wr = w.drewN n) (fun _ y _ => (intOf y).toNat)
  case atStart => exact ⟨a, b, ha, hb, rfl, rfl, rfl, 0, rfl⟩
  case round =>
    obtain ⟨a', b', ha', hb', hg, rfl, rfl, n, rfl⟩ := hrel
    have HG := Lib.hid hg
    clear hg
    by_cases h : 0 < b'
    · go_wp2
      go_quiet (fail)
      go_wp2
      have e1 : ((a' : Int) % (b' : Int)) = ((a' % b' : Nat) : Int) := by omega
      have e2 : a' % b' < b' := Nat.mod_lt _ h
      rw [e1]
      exact ⟨⟨b', a' % b', hb', by omega, by rw [← HG.out, Nat.gcd_comm a' b', Nat.gcd_rec b' a', Nat.gcd_comm], rfl, rfl, _, World.drewN_drewN _ _ _⟩, by simp only [intOf]; omega⟩
    · go_wp2
      go_ret
      obtain rfl : b' = 0 := by omega
      exact ⟨ret_int (by rw [← HG.out, Nat.gcd_zero_right]), n, rfl⟩


end Go.Proofs.YtbkbncapgljfaaaGreatDoor
/- A region that draws its order and stores: its operations keep a relation between worlds; what has come up stays right along it. -/
namespace Go.Proofs.YtbkbncapgljfaaaGreatDoor
open Go Go.RowKit Go.Shelf

section
variable {P : Program} {ops : Array Oper} {Q : Exit → Act → World → Prop} {md : Region.Mode} {F : (Nat → Value) → Act}

theorem SlotStep.rel {n : Nat} {R : World → Prop} {Inv : Nat → Value → World → Prop} {i : Nat} {o : Oper} (St : World → World → Prop)
    (hR : ∀ A B : World, St A B → R A → R B) (hI : ∀ (j : Nat) (v : Value) (A B : World), R A → St A B → Inv j v A → Inv j v B)
    (h : ∀ (ys : Nat → Value) (w : World), R w → (∀ j, waitsB md o j = true → j < n → Inv j (ys j) w) →
      ∀ K : Act → World → Prop, (∀ v w', St w w' → Inv i v w' → K (F (upd ys i v)) w') →
        if Region.wanted o (yielded ops (F ys).tmps) = true then Oper.wp P o (F ys) w K Q else K ((F ys).put o.dst undef) w) :
    SlotStep P md ops Q F (BelowI n R Inv) i o := by
  intro L ys w _ ha ⟨hr, hi⟩ K hK
  refine h ys w hr (fun j hw hj => hi j hj (waits_at ha hw)) K (fun v w' hb hv => hK v w' ⟨hR _ _ hb hr, fun j hj hL => ?_⟩)
  by_cases hji : j = i
  · subst hji; rw [upd_same]; exact hv
  · rw [upd_ne _ _ hji]
    rw [upd_ne _ _ hji] at hL
    exact hI j _ _ _ hr hb (hi j hj hL)
theorem below_start {n : Nat} {R : World → Prop} {Inv : Nat → Value → World → Prop} {ys : Nat → Value} {w : World} (hr : R w) : BelowI n R Inv (fun i => decide (n ≤ i)) ys w :=
  ⟨hr, fun j hj hL => by have := of_decide_eq_true hL; omega⟩
end
end Go.Proofs.YtbkbncapgljfaaaGreatDoor
/- Contracts of divisor, multiple. -/
namespace Go.Proofs.YtbkbncapgljfaaaGreatDoor
open Go Go.RowKit Go.Shelf

theorem cell4_0 {W : World} {b : Nat} {c0 c1 c2 c3 : Value} {T : TypeId} (h : W.heap[b]? = some (.cells #[c0, c1, c2, c3] T)) : W.cell? ⟨b, 0, none⟩ = some c0 := by simp [World.cell?, h]
theorem free4_0 {W : World} {b : Nat} {c0 c1 c2 c3 : Value} {T : TypeId} (h : W.heap[b]? = some (.cells #[c0, c1, c2, c3] T)) : W.frozen? ⟨b, 0, none⟩ = false := by simp [World.frozen?, h]
theorem set4_0 {W : World} {b : Nat} {c0 c1 c2 c3 x : Value} {T : TypeId} (h : W.heap[b]? = some (.cells #[c0, c1, c2, c3] T)) : (W.setCell ⟨b, 0, none⟩ x).heap[b]? = some (.cells #[x, c1, c2, c3] T) := by
  simp only [World.setCell, Array.getElem?_modify, if_true, h, Option.map_some]
  rfl
theorem cell4_1 {W : World} {b : Nat} {c0 c1 c2 c3 : Value} {T : TypeId} (h : W.heap[b]? = some (.cells #[c0, c1, c2, c3] T)) : W.cell? ⟨b, 1, none⟩ = some c1 := by simp [World.cell?, h]
theorem free4_1 {W : World} {b : Nat} {c0 c1 c2 c3 : Value} {T : TypeId} (h : W.heap[b]? = some (.cells #[c0, c1, c2, c3] T)) : W.frozen? ⟨b, 1, none⟩ = false := by simp [World.frozen?, h]
theorem set4_1 {W : World} {b : Nat} {c0 c1 c2 c3 x : Value} {T : TypeId} (h : W.heap[b]? = some (.cells #[c0, c1, c2, c3] T)) : (W.setCell ⟨b, 1, none⟩ x).heap[b]? = some (.cells #[c0, x, c2, c3] T) := by
  simp only [World.setCell, Array.getElem?_modify, if_true, h, Option.map_some]
  rfl
theorem cell4_2 {W : World} {b : Nat} {c0 c1 c2 c3 : Value} {T : TypeId} (h : W.heap[b]? = some (.cells #[c0, c1, c2, c3] T)) : W.cell? ⟨b, 2, none⟩ = some c2 := by simp [World.cell?, h]
theorem free4_2 {W : World} {b : Nat} {c0 c1 c2 c3 : Value} {T : TypeId} (h : W.heap[b]? = some (.cells #[c0, c1, c2, c3] T)) : W.frozen? ⟨b, 2, none⟩ = false := by simp [World.frozen?, h]
theorem set4_2 {W : World} {b : Nat} {c0 c1 c2 c3 x : Value} {T : TypeId} (h : W.heap[b]? = some (.cells #[c0, c1, c2, c3] T)) : (W.setCell ⟨b, 2, none⟩ x).heap[b]? = some (.cells #[c0, c1, x, c3] T) := by
  simp only [World.setCell, Array.getElem?_modify, if_true, h, Option.map_some]
  rfl
theorem cell4_3 {W : World} {b : Nat} {c0 c1 c2 c3 : Value} {T : TypeId} (h : W.heap[b]? = some (.cells #[c0, c1, c2, c3] T)) : W.cell? ⟨b, 3, none⟩ = some c3 := by simp [World.cell?, h]
theorem free4_3 {W : World} {b : Nat} {c0 c1 c2 c3 : Value} {T : TypeId} (h : W.heap[b]? = some (.cells #[c0, c1, c2, c3] T)) : W.frozen? ⟨b, 3, none⟩ = false := by simp [World.frozen?, h]
theorem set4_3 {W : World} {b : Nat} {c0 c1 c2 c3 x : Value} {T : TypeId} (h : W.heap[b]? = some (.cells #[c0, c1, c2, c3] T)) : (W.setCell ⟨b, 3, none⟩ x).heap[b]? = some (.cells #[c0, c1, c2, x] T) := by
  simp only [World.setCell, Array.getElem?_modify, if_true, h, Option.map_some]
  rfl
theorem cell6_0 {W : World} {b : Nat} {c0 c1 c2 c3 c4 c5 : Value} {T : TypeId} (h : W.heap[b]? = some (.cells #[c0, c1, c2, c3, c4, c5] T)) : W.cell? ⟨b, 0, none⟩ = some c0 := by simp [World.cell?, h]
theorem free6_0 {W : World} {b : Nat} {c0 c1 c2 c3 c4 c5 : Value} {T : TypeId} (h : W.heap[b]? = some (.cells #[c0, c1, c2, c3, c4, c5] T)) : W.frozen? ⟨b, 0, none⟩ = false := by simp [World.frozen?, h]
theorem set6_0 {W : World} {b : Nat} {c0 c1 c2 c3 c4 c5 x : Value} {T : TypeId} (h : W.heap[b]? = some (.cells #[c0, c1, c2, c3, c4, c5] T)) : (W.setCell ⟨b, 0, none⟩ x).heap[b]? = some (.cells #[x, c1, c2, c3, c4, c5] T) := by
  simp only [World.setCell, Array.getElem?_modify, if_true, h, Option.map_some]
  rfl
theorem cell6_1 {W : World} {b : Nat} {c0 c1 c2 c3 c4 c5 : Value} {T : TypeId} (h : W.heap[b]? = some (.cells #[c0, c1, c2, c3, c4, c5] T)) : W.cell? ⟨b, 1, none⟩ = some c1 := by simp [World.cell?, h]
theorem free6_1 {W : World} {b : Nat} {c0 c1 c2 c3 c4 c5 : Value} {T : TypeId} (h : W.heap[b]? = some (.cells #[c0, c1, c2, c3, c4, c5] T)) : W.frozen? ⟨b, 1, none⟩ = false := by simp [World.frozen?, h]
theorem set6_1 {W : World} {b : Nat} {c0 c1 c2 c3 c4 c5 x : Value} {T : TypeId} (h : W.heap[b]? = some (.cells #[c0, c1, c2, c3, c4, c5] T)) : (W.setCell ⟨b, 1, none⟩ x).heap[b]? = some (.cells #[c0, x, c2, c3, c4, c5] T) := by
  simp only [World.setCell, Array.getElem?_modify, if_true, h, Option.map_some]
  rfl
theorem cell6_2 {W : World} {b : Nat} {c0 c1 c2 c3 c4 c5 : Value} {T : TypeId} (h : W.heap[b]? = some (.cells #[c0, c1, c2, c3, c4, c5] T)) : W.cell? ⟨b, 2, none⟩ = some c2 := by simp [World.cell?, h]
theorem free6_2 {W : World} {b : Nat} {c0 c1 c2 c3 c4 c5 : Value} {T : TypeId} (h : W.heap[b]? = some (.cells #[c0, c1, c2, c3, c4, c5] T)) : W.frozen? ⟨b, 2, none⟩ = false := by simp [World.frozen?, h]
theorem set6_2 {W : World} {b : Nat} {c0 c1 c2 c3 c4 c5 x : Value} {T : TypeId} (h : W.heap[b]? = some (.cells #[c0, c1, c2, c3, c4, c5] T)) : (W.setCell ⟨b, 2, none⟩ x).heap[b]? = some (.cells #[c0, c1, x, c3, c4, c5] T) := by
  simp only [World.setCell, Array.getElem?_modify, if_true, h, Option.map_some]
  rfl
theorem cell6_3 {W : World} {b : Nat} {c0 c1 c2 c3 c4 c5 : Value} {T : TypeId} (h : W.heap[b]? = some (.cells #[c0, c1, c2, c3, c4, c5] T)) : W.cell? ⟨b, 3, none⟩ = some c3 := by simp [World.cell?, h]
theorem free6_3 {W : World} {b : Nat} {c0 c1 c2 c3 c4 c5 : Value} {T : TypeId} (h : W.heap[b]? = some (.cells #[c0, c1, c2, c3, c4, c5] T)) : W.frozen? ⟨b, 3, none⟩ = false := by simp [World.frozen?, h]
theorem set6_3 {W : World} {b : Nat} {c0 c1 c2 c3 c4 c5 x : Value} {T : TypeId} (h : W.heap[b]? = some (.cells #[c0, c1, c2, c3, c4, c5] T)) : (W.setCell ⟨b, 3, none⟩ x).heap[b]? = some (.cells #[c0, c1, c2, x, c4, c5] T) := by
  simp only [World.setCell, Array.getElem?_modify, if_true, h, Option.map_some]
  rfl
theorem cell6_4 {W : World} {b : Nat} {c0 c1 c2 c3 c4 c5 : Value} {T : TypeId} (h : W.heap[b]? = some (.cells #[c0, c1, c2, c3, c4, c5] T)) : W.cell? ⟨b, 4, none⟩ = some c4 := by simp [World.cell?, h]
theorem free6_4 {W : World} {b : Nat} {c0 c1 c2 c3 c4 c5 : Value} {T : TypeId} (h : W.heap[b]? = some (.cells #[c0, c1, c2, c3, c4, c5] T)) : W.frozen? ⟨b, 4, none⟩ = false := by simp [World.frozen?, h]
theorem set6_4 {W : World} {b : Nat} {c0 c1 c2 c3 c4 c5 x : Value} {T : TypeId} (h : W.heap[b]? = some (.cells #[c0, c1, c2, c3, c4, c5] T)) : (W.setCell ⟨b, 4, none⟩ x).heap[b]? = some (.cells #[c0, c1, c2, c3, x, c5] T) := by
  simp only [World.setCell, Array.getElem?_modify, if_true, h, Option.map_some]
  rfl
theorem cell6_5 {W : World} {b : Nat} {c0 c1 c2 c3 c4 c5 : Value} {T : TypeId} (h : W.heap[b]? = some (.cells #[c0, c1, c2, c3, c4, c5] T)) : W.cell? ⟨b, 5, none⟩ = some c5 := by simp [World.cell?, h]
theorem free6_5 {W : World} {b : Nat} {c0 c1 c2 c3 c4 c5 : Value} {T : TypeId} (h : W.heap[b]? = some (.cells #[c0, c1, c2, c3, c4, c5] T)) : W.frozen? ⟨b, 5, none⟩ = false := by simp [World.frozen?, h]
theorem set6_5 {W : World} {b : Nat} {c0 c1 c2 c3 c4 c5 x : Value} {T : TypeId} (h : W.heap[b]? = some (.cells #[c0, c1, c2, c3, c4, c5] T)) : (W.setCell ⟨b, 5, none⟩ x).heap[b]? = some (.cells #[c0, c1, c2, c3, c4, x] T) := by
  simp only [World.setCell, Array.getElem?_modify, if_true, h, Option.map_some]
  rfl
theorem cell2_0 {W : World} {b : Nat} {c0 c1 : Value} {T : TypeId} (h : W.heap[b]? = some (.cells #[c0, c1] T)) : W.cell? ⟨b, 0, none⟩ = some c0 := by simp [World.cell?, h]
theorem free2_0 {W : World} {b : Nat} {c0 c1 : Value} {T : TypeId} (h : W.heap[b]? = some (.cells #[c0, c1] T)) : W.frozen? ⟨b, 0, none⟩ = false := by simp [World.frozen?, h]
theorem set2_0 {W : World} {b : Nat} {c0 c1 x : Value} {T : TypeId} (h : W.heap[b]? = some (.cells #[c0, c1] T)) : (W.setCell ⟨b, 0, none⟩ x).heap[b]? = some (.cells #[x, c1] T) := by
  simp only [World.setCell, Array.getElem?_modify, if_true, h, Option.map_some]
  rfl
theorem cell2_1 {W : World} {b : Nat} {c0 c1 : Value} {T : TypeId} (h : W.heap[b]? = some (.cells #[c0, c1] T)) : W.cell? ⟨b, 1, none⟩ = some c1 := by simp [World.cell?, h]
theorem free2_1 {W : World} {b : Nat} {c0 c1 : Value} {T : TypeId} (h : W.heap[b]? = some (.cells #[c0, c1] T)) : W.frozen? ⟨b, 1, none⟩ = false := by simp [World.frozen?, h]
theorem set2_1 {W : World} {b : Nat} {c0 c1 x : Value} {T : TypeId} (h : W.heap[b]? = some (.cells #[c0, c1] T)) : (W.setCell ⟨b, 1, none⟩ x).heap[b]? = some (.cells #[c0, x] T) := by
  simp only [World.setCell, Array.getElem?_modify, if_true, h, Option.map_some]
  rfl
theorem heap_new {X : World} {o : Obj} {k : Nat} (hk : k = X.heap.size) : (X.alloc o).heap[k]? = some o := by subst hk; exact World.alloc_heap_new X o
theorem heap_old {X : World} {o o' : Obj} {k : Nat} (h : X.heap[k]? = some o') : (X.alloc o).heap[k]? = some o' := (Below.heap_alloc _ _ _ (Array.getElem?_eq_some_iff.1 h).1).trans h
theorem set_other {W : World} {b k o : Nat} {x : Value} (h : k ≠ b) : (W.setCell ⟨b, o, none⟩ x).heap[k]? = W.heap[k]? := Below.heap_setCell _ _ _ _ (by simpa using h)
theorem drew_below' (w : World) (m : Nat) : Below w.heap.size w (w.drewN m) := ⟨rfl, rfl, rfl, Nat.le_refl _, fun _ _ => rfl⟩
theorem wrap_in {q : Int} (h1 : -9223372036854775808 ≤ q) (h2 : q ≤ 9223372036854775807) : IntKind.i64.wrap q = q := by
  have hb : IntKind.i64.bits = 64 := rfl
  have hs : IntKind.i64.signed = true := rfl
  unfold IntKind.wrap
  rw [hb, hs]
  simp only [Bool.true_and, decide_eq_true_eq]
  split <;> omega
theorem gcd_tmod' (a b : Int) : Int.gcd (b.tmod a) a = Int.gcd a b := by
  have h : b.tmod a = b - b.tdiv a * a := by have := Int.mul_tdiv_add_tmod b a; rw [Int.mul_comm] at this; omega
  rw [h]
  apply Nat.dvd_antisymm
  · refine Int.dvd_gcd (Int.gcd_dvd_right ..) ?_
    have h1 := Int.gcd_dvd_left (a := b - b.tdiv a * a) (b := a)
    have h2 := Int.dvd_mul_of_dvd_right (b := b.tdiv a) (Int.gcd_dvd_right (a := b - b.tdiv a * a) (b := a))
    have h3 := Int.dvd_add h1 h2
    rwa [show b - b.tdiv a * a + b.tdiv a * a = b by omega] at h3
  · refine Int.dvd_gcd ?_ (Int.gcd_dvd_left ..)
    have h1 := Int.gcd_dvd_right (a := a) (b := b)
    have h2 := Int.dvd_mul_of_dvd_right (b := b.tdiv a) (Int.gcd_dvd_left (a := a) (b := b))
    exact Int.dvd_sub h1 h2
theorem gcd_le {n m : Int} (hm : 0 < m) : (Int.gcd n m : Int) ≤ m := Int.le_of_dvd hm (Int.gcd_dvd_right ..)

end Go.Proofs.YtbkbncapgljfaaaGreatDoor
/- Contracts of Whole, Check and of the reference's magnitude, divisor, Right and Make over fractions: each returns what FracMath says; numbers lie in the range of their kinds. -/
namespace Go.Proofs.YtbkbncapgljfaaaGreatDoor
open Go.RowKit

/-- Check's answer. -/
def chk (n d : Int) : Int := if FracMath.rightB n d then 0 else 2
theorem chk_yes {n d : Int} (h : FracMath.rightB n d = true) : chk n d = 0 := by unfold chk; rw [h, if_pos rfl]
theorem chk_no {n d : Int} (h : FracMath.rightB n d = false) : chk n d = 2 := by unfold chk; rw [h, if_neg (by decide)]

theorem check_in (n d : Int) (w : World) (h1 : -1000000 ≤ n) (h2 : n ≤ 1000000) (h3 : 1 ≤ d) (h4 : d ≤ 1000000) :
    Calls Tryz.prog 48 #[.agg #[.int .i64 n, .int .i64 d]] w fun e w' => e = .returned (.int .i64 (chk n d)) ∧ Below w.heap.size w w' := by
  have hr : FracMath.rightB n d = decide ((FracMath.gg n d : Int) = 1) := FracMath.right_in h1 h2 h3 h4
  have c := fun W => divisor_any n.natAbs d.natAbs W (by omega) (by omega)
  rw [show Nat.gcd n.natAbs d.natAbs = FracMath.gg n d from rfl] at c
  generalize FracMath.gg n d = g at hr c
  have C := Lib.hid c
  clear c
  by_cases ht : g = 1
  · subst ht
    rw [chk_yes (by rw [hr]; rfl)]
    clear hr
    go_enter Tryz.func48, Tryz.ntmps48
    go_wp2_with (go_quiet (first | (go_at_call 55; exact still_here (magnitude_any _ _ (by omega) (by omega))) | (go_at_call 54; exact Calls.quiet_of (C.out _))))
    go_wp2
    go_ret
    exact ⟨rfl, below_drewN (by go_grown) _⟩
  · have ht' : ((g : Int) != 1) = true := by simp; omega
    have hd : decide ((g : Int) = 1) = false := by simp; omega
    rw [hd] at hr
    rw [chk_no hr]
    clear ht hd hr
    go_enter Tryz.func48, Tryz.ntmps48
    go_wp2_with (go_quiet (first | (go_at_call 55; exact still_here (magnitude_any _ _ (by omega) (by omega))) | (go_at_call 54; exact Calls.quiet_of (C.out _))))
    go_wp2
    go_ret
    exact ⟨rfl, below_drewN (by go_grown) _⟩

theorem check_out (n d : Int) (w : World) (h : ¬ (-1000000 ≤ n ∧ n ≤ 1000000 ∧ 1 ≤ d ∧ d ≤ 1000000)) :
    Calls Tryz.prog 48 #[.agg #[.int .i64 n, .int .i64 d]] w fun e w' => e = .returned (.int .i64 (chk n d)) ∧ Below w.heap.size w w' := by
  rw [chk_no (FracMath.right_out h)]
  by_cases h1 : d < 1
  · clear h
    go_enter Tryz.func48, Tryz.ntmps48
    go_wp2
    go_ret
    exact ⟨rfl, by go_grown⟩
  by_cases h2 : 1000000 < d
  · clear h
    go_enter Tryz.func48, Tryz.ntmps48
    go_wp2
    go_ret
    exact ⟨rfl, by go_grown⟩
  by_cases h3 : n < -1000000
  · clear h
    go_enter Tryz.func48, Tryz.ntmps48
    go_wp2
    go_ret
    exact ⟨rfl, by go_grown⟩
  have h4 : 1000000 < n := by omega
  clear h
  go_enter Tryz.func48, Tryz.ntmps48
  go_wp2
  go_ret
  exact ⟨rfl, by go_grown⟩

theorem fcheck_any (n d : Int) (w : World) :
    Calls Tryz.prog 48 #[.agg #[.int .i64 n, .int .i64 d]] w fun e w' => e = .returned (.int .i64 (chk n d)) ∧ Below w.heap.size w w' := by
  by_cases h : -1000000 ≤ n ∧ n ≤ 1000000 ∧ 1 ≤ d ∧ d ≤ 1000000
  · exact check_in n d w h.1 h.2.1 h.2.2.1 h.2.2.2
  · exact check_out n d w h

end Go.Proofs.YtbkbncapgljfaaaGreatDoor
/- The contract of Power. -/
namespace Go.Proofs.YtbkbncapgljfaaaGreatDoor
open Go Go.RowKit Go.Shelf

theorem lt_bitLen {n : Nat} (h : n < 2 ^ 64) : n < 2 ^ Lib.bitLen n := by
  by_cases h0 : n = 0
  · subst h0; decide
  · exact (Lib.bitLenAux_bounds 64 n h h0).2.2
theorem pow_step1 (a : Int) (n k : Nat) (h : n / 2 ^ k % 2 = 1) : a ^ (n / 2 ^ (k + 1)) * a ^ (n / 2 ^ (k + 1)) * a = a ^ (n / 2 ^ k) := by
  have e : n / 2 ^ k = n / 2 ^ (k + 1) + n / 2 ^ (k + 1) + 1 := by
    rw [Nat.pow_succ, ← Nat.div_div_eq_div_mul]; omega
  rw [← Int.pow_add]
  conv => rhs; rw [e, Int.pow_succ]
theorem pow_step0 (a : Int) (n k : Nat) (h : ¬ n / 2 ^ k % 2 = 1) : a ^ (n / 2 ^ (k + 1)) * a ^ (n / 2 ^ (k + 1)) = a ^ (n / 2 ^ k) := by
  have e : n / 2 ^ k = n / 2 ^ (k + 1) + n / 2 ^ (k + 1) := by
    rw [Nat.pow_succ, ← Nat.div_div_eq_div_mul]; omega
  rw [← Int.pow_add]
  conv => rhs; rw [e]
theorem nd_pow (a : Int) : ∀ n : Nat, nd (a ^ n).natAbs ≤ n * nd a.natAbs + 1
  | 0 => by
    rw [Int.pow_zero]
    exact Im.nd_le bb2 (k := 0 * nd a.natAbs + 1) (by rw [Nat.zero_mul]; decide)
  | n + 1 => by
    rw [Int.pow_succ]
    have := nd_mul (a ^ n) a
    have := nd_pow a n
    rw [Nat.succ_mul]
    omega
theorem nd_dgs {s : ByteArray} (h : Im.canonI s.data.toList = true) : nd (iv s).natAbs ≤ (Im.dgs s.data.toList).length :=
  Im.nd_le bb2 (Nat.lt_of_lt_of_le (iv_lt h) (pow_BB _))
theorem and1 (x : Nat) (h : x < 1000000) : bits .and .i64 (x : Int) 1 = ((x % 2 : Nat) : Int) := by
  have h := bits_mask .i64 62 (by decide) (fun n h0 h1 => by rw [IntKind.wrap_i64]; omega) 1 (by decide) (x : Int) (by omega) (by omega)
  have e : ((2 : Int) ^ 1 - 1) = 1 := by decide
  have e2 : ((2 : Int) ^ 1) = 2 := by decide
  rw [e, e2] at h
  rw [h]
  omega
theorem shr_nat (n k : Nat) : (n : Int) / (2 : Int) ^ k = ((n / 2 ^ k : Nat) : Int) := by simp
theorem cn_one : Cn ⟨#[49]⟩ := ⟨by decide, by decide⟩
theorem iv_one : iv ⟨#[49]⟩ = 1 := by decide

theorem power_range (s : ByteArray) (n : Int) (h : n < 0 ∨ 6000 < n) (w : World) :
    Calls Tryz.prog 60 #[.string s, .int .i64 n] w fun e w' => e = .returned (.tuple #[.string ⟨#[]⟩, .int .i64 3]) ∧ w' = w := by
  by_cases h0 : n < 0
  · go_enter Tryz.func60, Tryz.ntmps60
    go_wp2
    exact bodyPost_ret (v := .tuple #[.string ⟨#[]⟩, .int .i64 3]) (by simp [results, Tryz.results60, go_sem]) rfl ⟨rfl, rfl⟩
  · have h1 : 6000 < n := by omega
    go_enter Tryz.func60, Tryz.ntmps60
    go_wp2
    exact bodyPost_ret (v := .tuple #[.string ⟨#[]⟩, .int .i64 3]) (by simp [results, Tryz.results60, go_sem]) rfl ⟨rfl, rfl⟩
theorem power_limit (s : ByteArray) (n d : Nat) (hd : (Im.dgs s.data.toList).length = d) (hdl : d ≤ 1048576) (hn : n ≤ 6000) (h : 24000 < n * d) (w : World) :
    Calls Tryz.prog 60 #[.string s, .int .i64 n] w fun e w' => e = .returned (.tuple #[.string ⟨#[]⟩, .int .i64 4]) ∧ w' = w := by
  have D := Lib.hid (fun W => digits_any s W)
  generalize Im.dgs s.data.toList = l at *
  subst hd
  obtain ⟨p, hp⟩ : ∃ p : Nat, n * l.length = p := ⟨_, rfl⟩
  have hpi : (n : Int) * (l.length : Int) = (p : Int) := by rw [← hp]; simp
  have hp2 : n * l.length ≤ 6000 * 1048576 := Nat.mul_le_mul hn hdl
  rw [hp] at h hp2
  clear hp
  have hn1 : ¬ (n : Int) < 0 := by omega
  have hn2 : ¬ (6000 : Int) < (n : Int) := by omega
  go_enter Tryz.func60, Tryz.ntmps60
  go_wp2_with fail
  refine (D.out _).mono ?_
  rintro e w1 ⟨rfl, hww⟩
  subst w1
  go_wp2
  exact bodyPost_ret (v := .tuple #[.string ⟨#[]⟩, .int .i64 4]) (by simp [results, Tryz.results60, go_sem]) rfl ⟨rfl, rfl⟩

set_option maxRecDepth 100000 in
set_option maxHeartbeats 4000000 in
theorem power_c (s : ByteArray) (hs : Cn s) (n : Nat) (hn : n ≤ 6000) (h : n * (Im.dgs s.data.toList).length ≤ 24000) (w : World) (G : Gi w) :
    Calls Tryz.prog 60 #[.string s, .int .i64 n] w fun e w' => e = .returned (.tuple #[.string (tz (iv s ^ n)), .int .i64 0]) ∧ Below w.heap.size w w' := by
  have DG := Lib.hid (fun W => digits_any s W)
  have RA := Lib.hid (fun W => read_c s hs W)
  have R1 := Lib.hid (fun W => read_c ⟨#[49]⟩ cn_one W)
  rw [iv_one] at R1
  have BL := Lib.hid (fun W => Tryz.bits_Len n W (by omega) (by omega))
  have hlb : Lib.bitLen n ≤ 13 := Lib.bitLen_le n 13 (by decide) (by omega)
  have hlt := lt_bitLen (n := n) (by omega)
  have NB := Lib.hid (fun (m : Nat) (hm : m ≤ n) => show nd (iv s ^ m).natAbs ≤ 24001 by
    have h1 := nd_pow (iv s) m
    have h2 := nd_dgs hs.canon
    have h3 := Nat.mul_le_mul hm h2
    omega)
  have NS := Lib.hid (nd_iv hs)
  have ST1 := Lib.hid (fun k => pow_step1 (iv s) n k)
  have ST0 := Lib.hid (fun k => pow_step0 (iv s) n k)
  obtain ⟨z, hz⟩ : ∃ z, iv s = z := ⟨_, rfl⟩
  rw [hz] at RA NB NS ST1 ST0 ⊢
  have hl1 : (Im.dgs s.data.toList).length ≤ 100000 := by have := dgs_len s.data.toList; have := size_list s; have := hs.size; omega
  generalize Im.dgs s.data.toList = l at *
  obtain ⟨p, hp⟩ : ∃ p : Nat, n * l.length = p := ⟨_, rfl⟩
  have hpi : (n : Int) * (l.length : Int) = (p : Int) := by rw [← hp]; simp
  rw [hp] at h
  have hn1 : ¬ (n : Int) < 0 := by omega
  have hn2 : ¬ (6000 : Int) < (n : Int) := by omega
  rw [show ((n : Int)).toNat = n from rfl] at BL
  obtain ⟨L, hL⟩ : ∃ L, Lib.bitLen n = L := ⟨_, rfl⟩
  rw [hL] at BL hlb hlt
  clear hp hz hs hL
  obtain ⟨D, hD⟩ : ∃ D, w.heap.size = D := ⟨_, rfl⟩
  go_enter Tryz.func60, Tryz.ntmps60
  go_wp2_with fail
  refine (DG.out _).mono ?_
  rintro e w1 ⟨rfl, hww⟩
  subst w1
  go_wp2_with fail
  refine (RA.out _).mono ?_
  rintro e w2 ⟨⟨v2, rfl, h2⟩, hb2⟩
  go_wp2_with fail
  refine (R1.out _).mono ?_
  rintro e w3 ⟨⟨v3, rfl, h3⟩, hb3⟩
  have h2' := h2.call hb3
  obtain ⟨ng, m, sa, cap, b, o, rfl, hr2, hz2⟩ := num_open h2'
  obtain ⟨ng1, m1, sa1, cap1, b1, o1, rfl, hr3, hz3⟩ := num_open h3
  have HZ3 := Lib.hid hz3
  have HZ2 := Lib.hid hz2
  clear hz3 hz2 h2 h2' h3
  go_wp2_with fail
  refine (BL.out _).mono ?_
  rintro e w4 ⟨rfl, hww⟩
  subst w4
  obtain ⟨V, hV⟩ : ∃ V, ((w3.alloc (.cells #[.bool ng, .slice sa (nd m) cap] 97)).alloc (.cells #[.bool ng1, .slice sa1 (nd m1) cap1] 97)) = V := ⟨_, rfl⟩
  obtain ⟨E, hE⟩ : ∃ E, w3.heap.size = E := ⟨_, rfl⟩
  have hb13 := hb2.trans (hb3.mono hb2.size)
  have hDE : D ≤ E := by have := hb13.size; omega
  have hwV : Below D w V := by rw [← hV, ← hD]; exact (hb13.alloc (by have := hb13.size; omega) _).alloc (by have := hb13.size; simp; omega) _
  have hVb : Below E w3 V := by rw [← hV, ← hE]; exact ((Below.refl _ _).alloc (Nat.le_refl _) _).alloc (by simp) _
  have hV0 : V.heap[E]? = some (.cells #[.bool ng, .slice sa (nd m) cap] 97) := by rw [← hV]; exact heap_up (heap_at hE.symm)
  have hV1 : V.heap[E + 1]? = some (.cells #[.bool ng1, .slice sa1 (nd m1) cap1] 97) := by rw [← hV]; exact heap_at (by simp [hE])
  have hzV : V.heap.size = E + 2 := by rw [← hV]; simp [hE]
  have hrV := hr2.below hVb (by omega)
  have hqV := hr3.below hVb (by omega)
  rw [hE, hV]
  clear hV hr2 hr3 hb2 hb3 hb13 hVb hE
  go_wp2_with fail
  go_loopw [8] (fun i wr => ∃ k ng3 m3 sa3 cap3 b3 o3, k ≤ L ∧ i = .int .i64 ((k : Int) - 1) ∧ sv ng3 m3 = z ^ (n / 2 ^ k) ∧ Row wr sa3 (nd m3) cap3 b3 o3 m3 ∧ wr.heap[E]? = some (.cells #[.bool ng, .slice sa (nd m) cap] 97) ∧ wr.heap[E + 1]? = some (.cells #[.bool ng3, .slice sa3 (nd m3) cap3] 97) ∧ Row wr sa (nd m) cap b o m ∧ E + 2 ≤ wr.heap.size ∧ Below D w wr) (fun i _ => ((intOf i) + 1).toNat)
  case atStart => exact ⟨L, ng1, m1, sa1, cap1, b1, o1, Nat.le_refl _, rfl, by rw [← HZ3.out, Nat.div_eq_of_lt hlt, Int.pow_zero], hqV, hV0, hV1, hrV, by omega, hwV⟩
  case round =>
    obtain ⟨k, ng3, m3, sa3, cap3, b3, o3, hk, rfl, hz3, hr3, hh0, hh1, hrb, hsz, hw⟩ := hrel
    cases k with
    | zero =>
      rw [Nat.pow_zero, Nat.div_one] at hz3
      have HN := Lib.hid (num_mk (neg := ng3) hr3)
      rw [hz3] at HN
      have BN := Lib.hid (NB.out n (Nat.le_refl _))
      have c0 := cells_fst hh1
      have c1 := cells_snd hh1
      have GW := G.below (hD ▸ hw)
      clear hz3 hr3 hh0 hh1 hrb
      go_wp2_with fail
      refine (text_any _ _ _ HN.out (by have := BN.out; omega) GW).mono ?_
      rintro e w7 ⟨rfl, hb7⟩
      go_wp2
      exact bodyPost_ret (v := .tuple #[.string (tz (z ^ n)), .int .i64 0]) (by simp [results, Tryz.results60, go_sem, tz]) rfl ⟨rfl, by rw [hD]; exact hw.trans (hb7.mono (by have := hw.size; omega))⟩
    | succ k =>
      have hq : n / 2 ^ (k + 1) ≤ n := Nat.div_le_self _ _
      have HN := Lib.hid (num_mk (neg := ng3) hr3)
      rw [hz3] at HN
      have hnb := NB.out _ hq
      have BN := Lib.hid hnb
      have c0 := cells_fst hh1
      have c1 := cells_snd hh1
      clear hz3 hr3 hq hnb
      have hk1 : ¬ (((k + 1 : Nat) : Int) - 1 < 0) := by omega
      have hke : ((k + 1 : Nat) : Int) - 1 = (k : Int) := by omega
      rw [hke]
      clear hk1 hke
      go_wp2_with fail
      refine (times_any _ _ _ _ _ HN.out HN.out (by have := BN.out; omega) (by have := BN.out; omega)).mono ?_
      rintro e w5 ⟨⟨v5, rfl, h5⟩, hb5⟩
      obtain ⟨ng5, m5, sa5, cap5, b5, o5, rfl, hr5, hz5⟩ := num_open h5
      have hh0' := (hb5.block E (by omega)).trans hh0
      have hh1' := (hb5.block (E + 1) (by omega)).trans hh1
      have hrb' := hrb.below hb5 (Nat.le_refl _)
      have hw' := hw.trans (hb5.mono (by have := hw.size; omega))
      have hsz' := Nat.le_trans hsz hb5.size
      clear c0 c1 hh0 hh1 hrb hw hsz h5 hb5 HN
      have f0 := cells_f0 hh1'
      have f1 := cells_f1 hh1'
      have g0 := cells_fst hh1'
      have g1 := cells_snd hh1'
      obtain ⟨W6, hW6⟩ : ∃ W6, ((w5.setCell ⟨E + 1, 0, none⟩ (.bool ng5)).setCell ⟨E + 1, 1, none⟩ (.slice sa5 (nd m5) cap5)) = W6 := ⟨_, rfl⟩
      have k0 : W6.heap[E]? = some (.cells #[.bool ng, .slice sa (nd m) cap] 97) := by rw [← hW6]; exact (set_two_else (by omega)).trans hh0'
      have k1 : W6.heap[E + 1]? = some (.cells #[.bool ng5, .slice sa5 (nd m5) cap5] 97) := by rw [← hW6]; exact set_two hh1'
      have kb : Row W6 sa (nd m) cap b o m := by rw [← hW6]; exact (hrb'.set _ (row_ne hrb' hh1') _).set _ (row_ne hrb' hh1') _
      have kr : Row W6 sa5 (nd m5) cap5 b5 o5 m5 := by rw [← hW6]; exact (hr5.set _ (row_ne hr5 hh1') _).set _ (row_ne hr5 hh1') _
      have kw : Below D w W6 := by rw [← hW6]; exact (hw'.setCell (by simp; omega) _).setCell (by simp; omega) _
      have ks : E + 2 ≤ W6.heap.size := by rw [← hW6]; simpa [World.setCell] using hsz'
      have HW6 := Lib.hid hW6
      have hsh := shr_nat n k
      have hand := and1 (n / 2 ^ k) (by have := Nat.div_le_self n (2 ^ k); omega)
      rw [← hsh] at hand
      clear hsh hh0' hrb' hw' hsz' hr5 hW6
      by_cases hbit : n / 2 ^ k % 2 = 1
      · rw [hbit] at hand
        have BIT := Lib.hid (ST1.out k hbit)
        have e0 : ((w5.setCell ⟨E + 1, 0, none⟩ (.bool ng5)).setCell ⟨E + 1, 1, none⟩ (.slice sa5 (nd m5) cap5)).cell? ⟨E, 0, none⟩ = some (.bool ng) := by rw [HW6.out]; exact cells_fst k0
        have e1 : ((w5.setCell ⟨E + 1, 0, none⟩ (.bool ng5)).setCell ⟨E + 1, 1, none⟩ (.slice sa5 (nd m5) cap5)).cell? ⟨E, 1, none⟩ = some (.slice sa (nd m) cap) := by rw [HW6.out]; exact cells_snd k0
        have HN5 := Lib.hid (num_mk (neg := ng5) kr)
        rw [← hz5, ← Int.pow_add] at HN5
        have HNB := Lib.hid (num_mk (neg := ng) kb)
        rw [← HZ2.out] at HNB
        have h2q : n / 2 ^ (k + 1) + n / 2 ^ (k + 1) ≤ n := by rw [Nat.pow_succ, ← Nat.div_div_eq_div_mul]; have := Nat.div_le_self n (2 ^ k); omega
        have BN2 := Lib.hid (NB.out _ h2q)
        rw [← Int.pow_add] at BIT
        have K0 := Lib.hid k0
        have K1 := Lib.hid k1
        have KB := Lib.hid kb
        have KS := Lib.hid ks
        have KW := Lib.hid kw
        clear kr kb hz5 h2q hbit k0 k1 ks kw
        go_wp2_with fail
        rw [HW6.out]
        clear e0 e1 f0 f1 g0 g1 hh1' HW6
        refine (times_any _ _ _ _ _ HN5.out HNB.out (by have := BN2.out; omega) (by have := NS.out; omega)).mono ?_
        rintro e w7 ⟨⟨v7, rfl, h7⟩, hb7⟩
        obtain ⟨ng7, m7, sa7, cap7, b7, o7, rfl, hr7, hz7⟩ := num_open h7
        have hks := KS.out
        have hh0 := (hb7.block E (by omega)).trans K0.out
        have hh1 := (hb7.block (E + 1) (by omega)).trans K1.out
        have hrb := KB.out.below hb7 (Nat.le_refl _)
        have hw7 := KW.out.trans (hb7.mono (by have := KW.out.size; omega))
        have hsz := Nat.le_trans hks hb7.size
        have f0 := cells_f0 hh1
        have f1 := cells_f1 hh1
        have g0 := cells_fst hh1
        have g1 := cells_snd hh1
        have T0 := Lib.hid (show ((w7.setCell ⟨E + 1, 0, none⟩ (.bool ng7)).setCell ⟨E + 1, 1, none⟩ (.slice sa7 (nd m7) cap7)).heap[E]? = some (.cells #[.bool ng, .slice sa (nd m) cap] 97) from (set_two_else (by omega)).trans hh0)
        have T1 := Lib.hid (show ((w7.setCell ⟨E + 1, 0, none⟩ (.bool ng7)).setCell ⟨E + 1, 1, none⟩ (.slice sa7 (nd m7) cap7)).heap[E + 1]? = some (.cells #[.bool ng7, .slice sa7 (nd m7) cap7] 97) from set_two hh1)
        have TB := Lib.hid ((hrb.set ⟨E + 1, 0, none⟩ (row_ne hrb hh1) (.bool ng7)).set ⟨E + 1, 1, none⟩ (row_ne hrb hh1) (.slice sa7 (nd m7) cap7))
        have TR := Lib.hid ((hr7.set ⟨E + 1, 0, none⟩ (row_ne hr7 hh1) (.bool ng7)).set ⟨E + 1, 1, none⟩ (row_ne hr7 hh1) (.slice sa7 (nd m7) cap7))
        have TW := Lib.hid ((hw7.setCell (p := ⟨E + 1, 0, none⟩) (by simp; omega) (.bool ng7)).setCell (p := ⟨E + 1, 1, none⟩) (by simp; omega) (.slice sa7 (nd m7) cap7))
        have TS := Lib.hid (show E + 2 ≤ ((w7.setCell ⟨E + 1, 0, none⟩ (.bool ng7)).setCell ⟨E + 1, 1, none⟩ (.slice sa7 (nd m7) cap7)).heap.size by simpa [World.setCell] using hsz)
        have HZ7 := Lib.hid hz7
        clear hz7 h7 hb7 hks hh0 hrb hw7 hr7 hsz HN5 HNB
        go_wp2_with fail
        go_roundw
        case rel => exact ⟨k, ng7, m7, sa7, cap7, b7, o7, by omega, by go_num, by rw [← HZ7.out, BIT.out], TR.out, T0.out, T1.out, TB.out, TS.out, TW.out⟩
        case measure => simp [intOf]
      · rw [show n / 2 ^ k % 2 = 0 by omega] at hand
        have BIT := Lib.hid (ST0.out k hbit)
        have HZ5 := Lib.hid hz5
        clear hbit hz5
        go_wp2_with fail
        go_roundw
        case rel => exact ⟨k, ng5, m5, sa5, cap5, b5, o5, by omega, by go_num, by rw [← HZ5.out, BIT.out], HW6.out ▸ kr, HW6.out ▸ k0, HW6.out ▸ k1, HW6.out ▸ kb, HW6.out ▸ ks, HW6.out ▸ kw⟩
        case measure => simp [intOf]
end Go.Proofs.YtbkbncapgljfaaaGreatDoor
/- Contracts of pitch's Check, checkBoth, ratioOf, ratioOnUnison, raised, less. -/
namespace Go.Proofs.YtbkbncapgljfaaaGreatDoor
open Go Go.RowKit Go.Shelf

/-- Check's answer over feet. -/
def pk (n d : Int) : Int := if FracMath.rightB n d = false then 2 else if n ≤ 0 ∨ 128 * d < n then 3 else if 128 < d then 4 else 0
theorem pk_ok {n d : Int} (h : pk n d = 0) : FracMath.rightB n d = true ∧ 0 < n ∧ n ≤ 128 * d ∧ 1 ≤ d ∧ d ≤ 128 ∧ FracMath.gg n d = 1 := by
  unfold pk at h
  split at h
  · cases h
  · split at h
    · cases h
    · split at h
      · cases h
      · have hr : FracMath.rightB n d = true := by cases e : FracMath.rightB n d <;> simp_all
        obtain ⟨k1, k2, k3, k4, k5⟩ := FracMath.right_of hr
        exact ⟨hr, by omega, by omega, by omega, by omega, k5⟩
theorem pk_cases (n d : Int) : pk n d = 2 ∨ pk n d = 3 ∨ pk n d = 4 ∨ pk n d = 0 := by
  unfold pk
  split
  · exact .inl rfl
  · split
    · exact .inr (.inl rfl)
    · split
      · exact .inr (.inr (.inl rfl))
      · exact .inr (.inr (.inr rfl))
theorem fchk_yes {n d : Int} (h : FracMath.rightB n d = true) : chk n d = 0 := by unfold chk; rw [h, if_pos rfl]
theorem fchk_no {n d : Int} (h : FracMath.rightB n d = false) : chk n d = 2 := by unfold chk; rw [h, if_neg (by decide)]

set_option maxHeartbeats 1000000 in
theorem pcheck_any (n d : Int) (w : World) :
    Calls Tryz.prog 34 #[.agg #[.int .i64 n, .int .i64 d]] w fun e w' => e = .returned (.int .i64 (pk n d)) ∧ Below w.heap.size w w' := by
  have C := Lib.hid (fun W => fcheck_any n d W)
  obtain ⟨D, hD⟩ : ∃ D, w.heap.size = D := ⟨_, rfl⟩
  unfold pk
  cases hr : FracMath.rightB n d with
  | false =>
    rw [fchk_no hr] at C
    rw [if_pos rfl]
    clear hr
    go_enter Tryz.func34, Tryz.ntmps34
    go_wp2_with fail
    refine (C.out _).mono ?_
    rintro e w1 ⟨rfl, hb1⟩
    have hw1 : Below w.heap.size w w1 := ((Below.refl _ w).alloc (Nat.le_refl _) _).trans (hb1.mono (by simp))
    go_wp2
    go_ret
    exact ⟨rfl, hw1⟩
  | true =>
    rw [fchk_yes hr] at C
    rw [if_neg (by decide)]
    obtain ⟨k1, k2, k3, k4, _⟩ := FracMath.right_of hr
    obtain ⟨x, hx⟩ : ∃ x : Int, (if n ≤ 0 ∨ 128 * d < n then 3 else if 128 < d then 4 else 0) = x := ⟨_, rfl⟩
    rw [hx]
    have HX := Lib.hid hx
    clear hr hx
    go_enter Tryz.func34, Tryz.ntmps34
    go_wp2_with fail
    refine (C.out _).mono ?_
    rintro e w1 ⟨rfl, hb1⟩
    have hp : w1.heap[D]? = some (.cells #[.int .i64 n, .int .i64 d] 23) := (hb1.block D (by simp [hD])).trans (heap_new hD.symm)
    have hw1 : Below w.heap.size w w1 := ((Below.refl _ w).alloc (Nat.le_refl _) _).trans (hb1.mono (by simp))
    have c0 := cell2_0 hp
    have c1 := cell2_1 hp
    have wm := wrap_in (q := 128 * d) (by omega) (by omega)
    clear hp C hb1
    by_cases h1 : n ≤ 0
    · obtain rfl : x = 3 := by rw [← HX.out, if_pos (.inl h1)]
      go_wp2
      go_ret
      exact ⟨rfl, hw1⟩
    by_cases h2 : 128 * d < n
    · obtain rfl : x = 3 := by rw [← HX.out, if_pos (.inr h2)]
      go_wp2
      go_ret
      exact ⟨rfl, hw1⟩
    by_cases h3 : 128 < d
    · obtain rfl : x = 4 := by rw [← HX.out, if_neg (by omega), if_pos h3]
      go_wp2
      go_ret
      exact ⟨rfl, hw1⟩
    · obtain rfl : x = 0 := by rw [← HX.out, if_neg (by omega), if_neg h3]
      go_wp2
      go_ret
      exact ⟨rfl, hw1⟩

/-- checkBoth's answer. -/
def pk2 (a b c d : Int) : Int := if pk a b = 0 then pk c d else pk a b
set_option maxHeartbeats 1000000 in
theorem pcheckBoth_any (a b c d : Int) (w : World) :
    Calls Tryz.prog 45 #[.agg #[.int .i64 a, .int .i64 b], .agg #[.int .i64 c, .int .i64 d]] w fun e w' => e = .returned (.int .i64 (pk2 a b c d)) ∧ Below w.heap.size w w' := by
  have C1 := Lib.hid (fun W => pcheck_any a b W)
  have C2 := Lib.hid (fun W => pcheck_any c d W)
  obtain ⟨D, hD⟩ : ∃ D, w.heap.size = D := ⟨_, rfl⟩
  unfold pk2
  obtain ⟨x, hx⟩ : ∃ x, pk a b = x := ⟨_, rfl⟩
  obtain ⟨y, hy⟩ : ∃ y, pk c d = y := ⟨_, rfl⟩
  rw [hx] at C1 ⊢
  rw [hy] at C2 ⊢
  obtain ⟨z, hz⟩ : ∃ z : Int, (if x = 0 then y else x) = z := ⟨_, rfl⟩
  rw [hz]
  have HZ := Lib.hid hz
  clear hx hy hz
  go_enter Tryz.func45, Tryz.ntmps45
  go_wp2_with fail
  refine (C1.out _).mono ?_
  rintro e w1 ⟨rfl, hb1⟩
  have hp : w1.heap[D + 1]? = some (.cells #[.int .i64 c, .int .i64 d] 23) := (hb1.block (D + 1) (by simp [hD])).trans (heap_new (by simp [hD]))
  have hw1 : Below w.heap.size w w1 := (((Below.refl _ w).alloc (Nat.le_refl _) _).alloc (by simp) _).trans (hb1.mono (by simp; omega))
  have c0 := cell2_0 hp
  have c1 := cell2_1 hp
  have hs := hw1.size
  clear hp C1 hb1
  by_cases h : x = 0
  · subst h
    obtain rfl : z = y := by rw [← HZ.out, if_pos rfl]
    go_wp2_with fail
    refine (C2.out _).mono ?_
    rintro e w2 ⟨rfl, hb2⟩
    go_wp2
    go_ret
    exact ⟨rfl, hw1.trans (hb2.mono hs)⟩
  · obtain rfl : z = x := by rw [← HZ.out, if_neg h]
    go_wp2
    go_ret
    exact ⟨rfl, hw1⟩

set_option maxHeartbeats 1000000 in
theorem ratioOf_any (a b c d : Int) (w : World) (h1 : -9223372036854775808 ≤ c * b) (h2 : c * b ≤ 9223372036854775807) (h3 : -9223372036854775808 ≤ d * a) (h4 : d * a ≤ 9223372036854775807) :
    Calls Tryz.prog 46 #[.agg #[.int .i64 a, .int .i64 b], .agg #[.int .i64 c, .int .i64 d]] w fun e w' => e = .returned (.agg #[.int .i64 (c * b), .int .i64 (d * a)]) ∧ Below w.heap.size w w' := by
  have w1 := wrap_in h1 h2
  have w2 := wrap_in h3 h4
  obtain ⟨x, hx⟩ : ∃ x, c * b = x := ⟨_, rfl⟩
  obtain ⟨y, hy⟩ : ∃ y, d * a = y := ⟨_, rfl⟩
  have HX := Lib.hid hx
  have HY := Lib.hid hy
  rw [hx] at w1 ⊢
  rw [hy] at w2 ⊢
  obtain ⟨D, hD⟩ : ∃ D, w.heap.size = D := ⟨_, rfl⟩
  go_enter Tryz.func46, Tryz.ntmps46
  go_wp2
  have hE : (((w.alloc (.cells #[.int .i64 a, .int .i64 b] 23)).alloc (.cells #[.int .i64 c, .int .i64 d] 23)).alloc (.cells #[.int .i64 x, .int .i64 y] 69)).heap[D + 1 + 1]? = some (.cells #[.int .i64 x, .int .i64 y] 69) := heap_new (by simp [hD])
  have z0 := cell2_0 hE
  have z1 := cell2_1 hE
  exact bodyPost_ret (v := .agg #[.int .i64 x, .int .i64 y]) (by simp [results, Tryz.results46, go_sem, z0, z1]) rfl ⟨rfl, (((Below.refl _ w).alloc (Nat.le_refl _) _).alloc (by simp) _).alloc (by simp; omega) _⟩

end Go.Proofs.YtbkbncapgljfaaaGreatDoor
/- Contracts of pitch's raised, less, and of sort.Search; the law's power. -/
namespace Go.Proofs.YtbkbncapgljfaaaGreatDoor
open Go Go.RowKit Go.Shelf

theorem pt_nat {b : Nat} (hb : b < 10 ^ 7) : ((b : Int)).natAbs < 10 ^ 7 := by rw [Int.natAbs_natCast]; exact hb
theorem pt_cn {b : Nat} (hb : b < 10 ^ 7) : Cn (tz (b : Int)) := cn_tz (pt_nat hb) (by decide) (by decide)
theorem pt_dgs {b : Nat} (hb : b < 10 ^ 7) : (Im.dgs (tz (b : Int)).data.toList).length ≤ 8 := by
  have h1 := len_tz (pt_nat hb) (by decide)
  have h2 := dgs_len (tz (b : Int)).data.toList
  rw [size_list] at h2
  omega
theorem raised_c (b e : Nat) (hb : b < 10 ^ 7) (he : e ≤ 60) (w : World) (G : Gi w) :
    Calls Tryz.prog 52 #[.int .i64 b, .int .i64 e] w fun x w' => x = .returned (.string (tz ((b : Int) ^ e))) ∧ Below w.heap.size w w' := by
  have O := Lib.hid (fun W G => of_any (b : Int) (by omega) (by omega) W G)
  change Hid (∀ W, Gi W → Calls Tryz.prog 61 #[.int .i64 b] W fun e w' => e = .returned (.string (tz (b : Int))) ∧ Below W.heap.size W w') at O
  have PW := Lib.hid (fun W (G : Gi W) => power_c (tz (b : Int)) (pt_cn hb) e (by omega) (by have := Nat.mul_le_mul he (pt_dgs hb); omega) W G)
  rw [iv_tz] at PW
  obtain ⟨r, hr⟩ : ∃ r, tz ((b : Int) ^ e) = r := ⟨_, rfl⟩
  rw [hr] at PW ⊢
  clear hr hb
  go_enter Tryz.func52, Tryz.ntmps52
  go_wp2_with fail
  refine (O.out _ G).mono ?_
  rintro x w1 ⟨rfl, hb1⟩
  go_wp2_with fail
  refine (PW.out _ (G.below hb1)).mono ?_
  rintro x w2 ⟨rfl, hb2⟩
  go_wp2
  go_ret
  exact ⟨rfl, hb1.trans (hb2.mono hb1.size)⟩
theorem sgn_lt (a b : Int) : sgn (a - b) < 0 ↔ a < b := by
  unfold sgn
  split
  · omega
  · split <;> omega
theorem less_c (a b : Int) (ca : Cn (tz a)) (cb : Cn (tz b)) (w : World) (G : Gi w) :
    Calls Tryz.prog 53 #[.string (tz a), .string (tz b)] w fun x w' => x = .returned (.bool (decide (a < b))) ∧ Below w.heap.size w w' := by
  have C := Lib.hid (fun W G => cmp_c (tz a) (tz b) ca cb W G)
  rw [iv_tz, iv_tz] at C
  have hs := sgn_lt a b
  rw [show decide (a < b) = decide (sgn (a - b) < 0) by simp only [hs]]
  obtain ⟨s, hs2⟩ : ∃ s, tz a = s := ⟨_, rfl⟩
  obtain ⟨t, ht2⟩ : ∃ s, tz b = s := ⟨_, rfl⟩
  obtain ⟨g, hg⟩ : ∃ g, sgn (a - b) = g := ⟨_, rfl⟩
  rw [hs2, ht2, hg] at C
  rw [hs2, ht2, hg]
  clear hs2 ht2 hg hs ca cb
  go_enter Tryz.func53, Tryz.ntmps53
  go_wp2_with fail
  refine (C.out _ G).mono ?_
  rintro x w1 ⟨rfl, hb1⟩
  go_wp2
  go_ret
  exact ⟨rfl, hb1⟩

set_option maxHeartbeats 1000000 in
/-- The search over a closure that says p. -/
theorem search_c (g : Nat) (cb : Array Value) (p : Nat → Bool) (n0 : Nat) (h12 : n0 ≤ 12) (hl : ∀ m, m < n0 → p m = false) (hr : ∀ m, n0 ≤ m → m < 12 → p m = true) (w : World)
    (eg : ∀ args w, (callFunc g args).run Tryz.prog w = .ok (.enter g args) w)
    (HC : ∀ (i : Nat), i < 12 → ∀ W, Below w.heap.size w W → Calls Tryz.prog g (#[.int .i64 i] ++ cb) W fun x w' => x = .returned (.bool (p i)) ∧ Below W.heap.size W w') :
    Calls Tryz.prog 57 #[.int .i64 12, .func (.func g) #[] cb] w fun x w' => x = .returned (.int .i64 n0) ∧ Below w.heap.size w w' := by
  have HL := Lib.hid hl
  have HR := Lib.hid hr
  have HC := Lib.hid HC
  clear hl hr
  go_enter Tryz.func57, Tryz.ntmps57
  go_wp2_with fail
  go_loopw [5, 6] (fun i j wr => ∃ lo hi : Nat, i = .int .i64 lo ∧ j = .int .i64 hi ∧ lo ≤ n0 ∧ n0 ≤ hi ∧ hi ≤ 12 ∧ Below w.heap.size w wr) (fun i j _ => (intOf j - intOf i).toNat)
  case atStart => exact ⟨0, 12, rfl, rfl, Nat.zero_le _, h12, Nat.le_refl _, Below.refl _ _⟩
  case round =>
    obtain ⟨lo, hi, rfl, rfl, hlo, hhi, hh12, hw⟩ := hrel
    by_cases hlt : lo < hi
    · have hc := HC.out ((lo + hi) / 2) (by omega) _ hw
      rw [show (((lo + hi) / 2 : Nat) : Int) = ((lo : Int) + (hi : Int)) / 2 by omega] at hc
      cases hp : p ((lo + hi) / 2) <;> rw [hp] at hc
      · have hq : (lo + hi) / 2 < n0 := by
          rcases Nat.lt_or_ge ((lo + hi) / 2) n0 with h | h
          · exact h
          · have := HR.out _ h (by omega)
            rw [hp] at this; cases this
        clear hp
        go_wp2_with (go_at_fn g; refine hc.mono ?_; rintro e w' ⟨rfl, hb⟩)
        go_roundw
        case rel => exact ⟨(lo + hi) / 2 + 1, hi, by rw [show ((lo : Int) + (hi : Int)) / 2 + 1 = (((lo + hi) / 2 + 1 : Nat) : Int) by omega], rfl, by omega, hhi, hh12, hw.trans (hb.mono hw.size)⟩
        case measure => simp [intOf]; omega
      · have hq : n0 ≤ (lo + hi) / 2 := by
          rcases Nat.lt_or_ge ((lo + hi) / 2) n0 with h | h
          · have := HL.out _ h
            rw [hp] at this; cases this
          · exact h
        clear hp
        go_wp2_with (go_at_fn g; refine hc.mono ?_; rintro e w' ⟨rfl, hb⟩)
        go_roundw
        case rel => exact ⟨lo, (lo + hi) / 2, rfl, by rw [show ((lo : Int) + (hi : Int)) / 2 = (((lo + hi) / 2 : Nat) : Int) by omega], hlo, hq, by omega, hw.trans (hb.mono hw.size)⟩
        case measure => simp [intOf]; omega
    · obtain rfl : lo = n0 := by omega
      go_wp2
      go_ret
      exact ⟨rfl, hw⟩
end Go.Proofs.YtbkbncapgljfaaaGreatDoor
/- Contracts of pitch's semitones$1, semitones, octaves, shift. -/
namespace Go.Proofs.YtbkbncapgljfaaaGreatDoor
open Go Go.RowKit Go.Shelf

theorem pt_pow {b e : Nat} (hb : b < 10 ^ 7) (he : e ≤ 30) : ((b : Int) ^ e).natAbs < 10 ^ 211 := by
  rw [Int.natAbs_pow, Int.natAbs_natCast]
  have h1 : b ^ e ≤ (10 ^ 7) ^ e := Nat.pow_le_pow_left (Nat.le_of_lt hb) e
  rw [← Nat.pow_mul] at h1
  exact Nat.lt_of_le_of_lt h1 (Nat.pow_lt_pow_right (by decide) (by omega))
theorem pt_pcn {b e : Nat} (hb : b < 10 ^ 7) (he : e ≤ 30) : Cn (tz ((b : Int) ^ e)) := cn_tz (pt_pow hb he) (by decide) (by decide)
theorem pt_mcn {b e f : Nat} (hb : b < 10 ^ 7) (he : e ≤ 30) (hf : f ≤ 30) : Cn (tz ((b : Int) ^ e * 2 ^ f)) := by
  have h1 := pt_pow hb he
  have h2 := pt_pow (b := 2) (e := f) (by decide) hf
  obtain ⟨k, hk⟩ : ∃ k, k = 211 := ⟨_, rfl⟩
  rw [← hk] at h1 h2
  refine cn_tz (k := k + k) ?_ (by omega) (by omega)
  rw [Int.natAbs_mul, Nat.pow_add]
  exact Nat.mul_lt_mul'' h1 h2
theorem pS_int (a b i : Nat) : decide ((a : Int) ^ 24 < (b : Int) ^ 24 * 2 ^ (2 * i + 1)) = Pt.pS a b i := by
  unfold Pt.pS
  have : ((a : Int) ^ 24 < (b : Int) ^ 24 * 2 ^ (2 * i + 1)) ↔ a ^ 24 < b ^ 24 * 2 ^ (2 * i + 1) := by
    rw [show (a : Int) ^ 24 = ((a ^ 24 : Nat) : Int) by simp, show (b : Int) ^ 24 * 2 ^ (2 * i + 1) = ((b ^ 24 * 2 ^ (2 * i + 1) : Nat) : Int) by simp]
    exact Int.ofNat_lt
  simp only [this]

/-- What lies in the closure's boxes. -/
structure StR (w : World) (bf bn bd : Nat) (x y : ByteArray) (A : World) : Prop where
  bel : Below w.heap.size w A
  lf : bf < w.heap.size ∧ bn < w.heap.size ∧ bd < w.heap.size
  cf : A.cell? ⟨bf, 0, none⟩ = some (.func (.func 53) #[] #[])
  cn : A.cell? ⟨bn, 0, none⟩ = some (.string x)
  cd : A.cell? ⟨bd, 0, none⟩ = some (.string y)
theorem StR.up {w : World} {bf bn bd : Nat} {x y : ByteArray} {A B : World} (h : StR w bf bn bd x y A) (hb : Below A.heap.size A B) : StR w bf bn bd x y B := by
  have hz := h.bel.size
  have hl := h.lf
  exact ⟨h.bel.trans (hb.mono hz), hl, (hb.cell (p := ⟨bf, 0, none⟩) (by simp; omega)).trans h.cf, (hb.cell (p := ⟨bn, 0, none⟩) (by simp; omega)).trans h.cn, (hb.cell (p := ⟨bd, 0, none⟩) (by simp; omega)).trans h.cd⟩

def s1I (i : Nat) (x y r m : ByteArray) (qv : Bool) : Nat → Value → World → Prop
  | 0, v, _ => v = .func (.func 53) #[] #[]
  | 1, v, _ => v = .string x
  | 2, v, _ => v = .string y
  | 3, v, _ => v = .int .i64 (i : Int)
  | 4, v, _ => v = .int .i64 (2 * (i : Int))
  | 5, v, _ => v = .int .i64 (2 * (i : Int) + 1)
  | 6, v, _ => v = .string r
  | 7, v, _ => v = .string m
  | 8, v, _ => v = .bool qv
  | 9, v, _ => v = .bool qv
  | _, _, _ => True

theorem s1I_up (i : Nat) (x y r m : ByteArray) (qv : Bool) : ∀ (j : Nat) (v : Value) (A B : World), Below A.heap.size A B → s1I i x y r m qv j v A → s1I i x y r m qv j v B
  | 0, _, _, _, _, h => h
  | 1, _, _, _, _, h => h
  | 2, _, _, _, _, h => h
  | 3, _, _, _, _, h => h
  | 4, _, _, _, _, h => h
  | 5, _, _, _, _, h => h
  | 6, _, _, _, _, h => h
  | 7, _, _, _, _, h => h
  | 8, _, _, _, _, h => h
  | 9, _, _, _, _, h => h
  | _ + 10, _, _, _, _, _ => trivial


set_option maxRecDepth 100000 in
set_option maxHeartbeats 2000000 in
theorem semi1_c (a b i bf bn bd : Nat) (ha : a < 10 ^ 7) (hb : b < 10 ^ 7) (hi : i < 12) (w : World) (G : Gi w) (hr : StR w bf bn bd (tz ((a : Int) ^ 24)) (tz ((b : Int) ^ 24)) w) :
    Calls Tryz.prog 58 (#[.int .i64 i] ++ #[.pointer (some ⟨bf, 0, none⟩), .pointer (some ⟨bn, 0, none⟩), .pointer (some ⟨bd, 0, none⟩)]) w fun e w' => e = .returned (.bool (Pt.pS a b i)) ∧ Below w.heap.size w w' := by
  have RS := Lib.hid (fun W G => raised_c 2 (2 * i + 1) (by decide) (by omega) W G)
  have ML := Lib.hid (fun W G => mul_c (tz ((b : Int) ^ 24)) (tz ((2 : Int) ^ (2 * i + 1))) (pt_pcn hb (by decide)) (pt_pcn (b := 2) (by decide) (by omega)) W G)
  have LS := Lib.hid (fun W G => less_c ((a : Int) ^ 24) ((b : Int) ^ 24 * 2 ^ (2 * i + 1)) (pt_pcn ha (by decide)) (pt_mcn hb (by decide) (by omega)) W G)
  rw [iv_tz, iv_tz] at ML
  rw [pS_int] at LS
  rw [show (((2 : Nat) : Int)) = 2 from rfl, show ((2 * i + 1 : Nat) : Int) = 2 * (i : Int) + 1 by omega] at RS
  obtain ⟨qv, hv⟩ : ∃ qv, Pt.pS a b i = qv := ⟨_, rfl⟩
  rw [hv] at LS ⊢
  obtain ⟨m, hm⟩ : ∃ m, tz ((b : Int) ^ 24 * 2 ^ (2 * i + 1)) = m := ⟨_, rfl⟩
  rw [hm] at LS ML
  obtain ⟨r, hrr⟩ : ∃ r, tz ((2 : Int) ^ (2 * i + 1)) = r := ⟨_, rfl⟩
  rw [hrr] at RS ML
  obtain ⟨x, hx⟩ : ∃ r, tz ((a : Int) ^ 24) = r := ⟨_, rfl⟩
  rw [hx] at LS hr
  obtain ⟨y, hy⟩ : ∃ r, tz ((b : Int) ^ 24) = r := ⟨_, rfl⟩
  rw [hy] at ML hr
  clear hv hm hrr hx hy ha hb
  have HR := Lib.hid hr
  have GG := Lib.hid (fun (W : World) (h : StR w bf bn bd x y W) => G.below h.bel)
  clear hr
  go_enter Tryz.func58, Tryz.ntmps58
  go_wp2_with fail
  refine wp_region_slots_at rfl rfl (fun base ys => (((((((((base.set 6 (ys 0)).set 7 (ys 1)).set 8 (ys 2)).set 9 (ys 3)).set 10 (ys 4)).set 11 (ys 5)).set 12 (ys 6)).set 13 (ys 7)).set 14 (ys 8)).set 5 (ys 9)) (BelowI _ (StR w bf bn bd x y) (s1I i x y r m qv)) (fun | 9 => .bool false | _ => undef) (by kernel_rfl) (below_start (HR.out.up ⟨rfl, rfl, rfl, Nat.le_refl _, fun _ _ => rfl⟩)) ?h
  case h =>
    intro FF hFF
    simp only [List.set_cons_succ, List.set_cons_zero] at hFF
    subst hFF
    refine ⟨rfl, ?_, ?_⟩
    refine ⟨?_, ?_⟩
    · refine SlotStep.below (fun A B hb h => h.up hb) (s1I_up i x y r m qv) ?_
      intro ys W hR hd K hK
      have c0 := hR.cf
      go_simp
      have hK2 := hK (.func (.func 53) #[] #[]) _ (Below.refl _ _) rfl
      simp (config := { decide := true }) only [upd, if_true, if_false] at hK2
      exact hK2
    refine ⟨?_, ?_⟩
    · refine SlotStep.below (fun A B hb h => h.up hb) (s1I_up i x y r m qv) ?_
      intro ys W hR hd K hK
      have c0 := hR.cn
      go_simp
      have hK2 := hK (.string x) _ (Below.refl _ _) rfl
      simp (config := { decide := true }) only [upd, if_true, if_false] at hK2
      exact hK2
    refine ⟨?_, ?_⟩
    · refine SlotStep.below (fun A B hb h => h.up hb) (s1I_up i x y r m qv) ?_
      intro ys W hR hd K hK
      have c0 := hR.cd
      go_simp
      have hK2 := hK (.string y) _ (Below.refl _ _) rfl
      simp (config := { decide := true }) only [upd, if_true, if_false] at hK2
      exact hK2
    refine ⟨?_, ?_⟩
    · refine SlotStep.below (fun A B hb h => h.up hb) (s1I_up i x y r m qv) ?_
      intro ys W hR hd K hK
      go_simp
      have hK2 := hK (.int .i64 (i : Int)) _ (Below.refl _ _) rfl
      simp (config := { decide := true }) only [upd, if_true, if_false] at hK2
      exact hK2
    refine ⟨?_, ?_⟩
    · refine SlotStep.below (fun A B hb h => h.up hb) (s1I_up i x y r m qv) ?_
      intro ys W hR hd K hK
      have dd3 : ys 3 = (.int .i64 (i : Int)) := hd 3 (by kernel_rfl) (by decide)
      have wq := wrap_in (q := 2 * (i : Int)) (by omega) (by omega)
      go_simp
      have hK2 := hK (.int .i64 (2 * (i : Int))) _ (Below.refl _ _) rfl
      simp (config := { decide := true }) only [upd, if_true, if_false, dd3] at hK2
      exact hK2
    refine ⟨?_, ?_⟩
    · refine SlotStep.below (fun A B hb h => h.up hb) (s1I_up i x y r m qv) ?_
      intro ys W hR hd K hK
      have dd4 : ys 4 = (.int .i64 (2 * (i : Int))) := hd 4 (by kernel_rfl) (by decide)
      have wq := wrap_in (q := 2 * (i : Int) + 1) (by omega) (by omega)
      go_simp
      have hK2 := hK (.int .i64 (2 * (i : Int) + 1)) _ (Below.refl _ _) rfl
      simp (config := { decide := true }) only [upd, if_true, if_false, dd4] at hK2
      exact hK2
    refine ⟨?_, ?_⟩
    · refine SlotStep.below (fun A B hb h => h.up hb) (s1I_up i x y r m qv) ?_
      intro ys W hR hd K hK
      have dd5 : ys 5 = (.int .i64 (2 * (i : Int) + 1)) := hd 5 (by kernel_rfl) (by decide)
      go_simp
      refine (RS.out _ (GG.out W hR)).mono ?_
      rintro e w5 ⟨rfl, hb5⟩
      have hK2 := hK (.string r) _ hb5 rfl
      simp (config := { decide := true }) only [upd, if_true, if_false, dd5] at hK2
      exact hK2
    refine ⟨?_, ?_⟩
    · refine SlotStep.below (fun A B hb h => h.up hb) (s1I_up i x y r m qv) ?_
      intro ys W hR hd K hK
      have dd2 : ys 2 = (.string y) := hd 2 (by kernel_rfl) (by decide)
      have dd6 : ys 6 = (.string r) := hd 6 (by kernel_rfl) (by decide)
      go_simp
      refine (ML.out _ (GG.out W hR)).mono ?_
      rintro e w5 ⟨rfl, hb5⟩
      have hK2 := hK (.string m) _ hb5 rfl
      simp (config := { decide := true }) only [upd, if_true, if_false, dd2, dd6] at hK2
      exact hK2
    refine ⟨?_, ?_⟩
    · refine SlotStep.below (fun A B hb h => h.up hb) (s1I_up i x y r m qv) ?_
      intro ys W hR hd K hK
      have dd0 : ys 0 = (.func (.func 53) #[] #[]) := hd 0 (by kernel_rfl) (by decide)
      have dd1 : ys 1 = (.string x) := hd 1 (by kernel_rfl) (by decide)
      have dd7 : ys 7 = (.string m) := hd 7 (by kernel_rfl) (by decide)
      go_simp
      refine (LS.out _ (GG.out W hR)).mono ?_
      rintro e w5 ⟨rfl, hb5⟩
      have hK2 := hK (.bool qv) _ hb5 rfl
      simp (config := { decide := true }) only [upd, if_true, if_false, dd0, dd1, dd7] at hK2
      exact hK2
    refine ⟨?_, ?_⟩
    · refine SlotStep.below (fun A B hb h => h.up hb) (s1I_up i x y r m qv) ?_
      intro ys W hR hd K hK
      have dd8 : ys 8 = (.bool qv) := hd 8 (by kernel_rfl) (by decide)
      go_simp
      have hK2 := hK (.bool qv) _ (Below.refl _ _) rfl
      simp (config := { decide := true }) only [upd, if_true, if_false, dd8] at hK2
      exact hK2
    trivial
    · intro L5 ys5 W5 hL5 hI5
      obtain ⟨hR5, hj5⟩ := hI5
      have d9 : ys5 9 = .bool qv := hj5 9 (by decide) (hL5 9 (by decide))
      simp only [d9]
      have hw5 := hR5.bel
      clear hR5 hj5 hL5
      go_wp2
      go_ret
      exact ⟨rfl, hw5⟩

set_option maxHeartbeats 1000000 in
theorem semi_c (a b n : Nat) (ha : a < 10 ^ 7) (hb : b < 10 ^ 7) (hs : Pt.St a b n) (w : World) (G : Gi w) :
    Calls Tryz.prog 51 #[.string (tz ((a : Int) ^ 24)), .string (tz ((b : Int) ^ 24)), .func (.func 53) #[] #[]] w fun e w' => e = .returned (.int .i64 n) ∧ Below w.heap.size w w' := by
  obtain ⟨D, hD⟩ : ∃ D, w.heap.size = D := ⟨_, rfl⟩
  have SC := Lib.hid (fun (bf bn bd : Nat) (W : World) (GW : Gi W) (hr : StR W bf bn bd (tz ((a : Int) ^ 24)) (tz ((b : Int) ^ 24)) W) =>
    search_c 58 #[.pointer (some ⟨bf, 0, none⟩), .pointer (some ⟨bn, 0, none⟩), .pointer (some ⟨bd, 0, none⟩)] (Pt.pS a b) n hs.1 hs.2.1 hs.2.2 W
      (enters_of Tryz.func58 (by kernel_rfl) rfl)
      (fun i hi V hV => semi1_c a b i bf bn bd ha hb hi V (GW.below hV) (by
        have h1 := hr.up hV
        have hz := hV.size
        exact ⟨Below.refl _ _, ⟨by have := hr.lf; omega, by have := hr.lf; omega, by have := hr.lf; omega⟩, h1.cf, h1.cn, h1.cd⟩)))
  obtain ⟨x, hx⟩ : ∃ r, tz ((a : Int) ^ 24) = r := ⟨_, rfl⟩
  obtain ⟨y, hy⟩ : ∃ r, tz ((b : Int) ^ 24) = r := ⟨_, rfl⟩
  rw [hx, hy] at SC ⊢
  clear hx hy hs ha hb
  obtain ⟨W0, hW0⟩ : ∃ W0, ((w.alloc (.cells #[.string x] 78)).alloc (.cells #[.string y] 78)).alloc (.cells #[.func (.func 53) #[] #[]] 80) = W0 := ⟨_, rfl⟩
  have hb0 : Below w.heap.size w W0 := by rw [← hW0]; exact (((Below.refl _ w).alloc (Nat.le_refl _) _).alloc (by simp) _).alloc (by simp; omega) _
  have hz0 : W0.heap.size = D + 3 := by rw [← hW0]; simp [hD]
  have c0 : W0.cell? ⟨D, 0, none⟩ = some (.string x) := by
    have : W0.heap[D]? = some (.cells #[.string x] 78) := by rw [← hW0]; exact heap_old (heap_old (heap_new hD.symm))
    simp [World.cell?, this]
  have c1 : W0.cell? ⟨D + 1, 0, none⟩ = some (.string y) := by
    have : W0.heap[D + 1]? = some (.cells #[.string y] 78) := by rw [← hW0]; exact heap_old (heap_new (by simp [hD]))
    simp [World.cell?, this]
  have c2 : W0.cell? ⟨D + 1 + 1, 0, none⟩ = some (.func (.func 53) #[] #[]) := by
    have : W0.heap[D + 1 + 1]? = some (.cells #[.func (.func 53) #[] #[]] 80) := by rw [← hW0]; exact heap_new (by simp [hD])
    simp [World.cell?, this]
  have S2 := Lib.hid (SC.out (D + 1 + 1) D (D + 1) W0 (G.below hb0) ⟨Below.refl _ _, ⟨by omega, by omega, by omega⟩, c2, c0, c1⟩)
  have HB := Lib.hid hb0
  clear SC c0 c1 c2 hz0 hb0
  go_enter Tryz.func51, Tryz.ntmps51
  go_wp2_with fail
  try rw [hW0]
  refine S2.out.mono ?_
  rintro e w1 ⟨rfl, hb1⟩
  have hw1 := HB.out.trans (hb1.mono HB.out.size)
  go_wp2
  go_ret
  exact ⟨rfl, hw1⟩

end Go.Proofs.YtbkbncapgljfaaaGreatDoor
