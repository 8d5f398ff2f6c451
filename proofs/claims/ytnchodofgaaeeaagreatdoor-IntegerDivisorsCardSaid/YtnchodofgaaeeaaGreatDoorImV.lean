/- How fits is met; sizes of sums and products. -/
import Derived.Test.YtnchodofgaaeeaaGreatDoorImU
namespace Go.Proofs.YtnchodofgaaeeaaGreatDoor
open Go Go.RowKit Go.Shelf

theorem alloc_cell (W : World) (l : List Value) (T : TypeId) (k : Nat) : (W.alloc (.cells l.toArray T)).cell? ⟨W.heap.size, k, none⟩ = l[k]? := by
  rw [Lib.cell_of_heap (heap_at rfl)]; simp
theorem fits_new (l : List ByteArray) (hl : l.length ≤ 1000) (T : TypeId) (W : World) (n : Nat) (hn : l.length = n) :
    Calls Tryz.prog 24 #[.slice (some ⟨W.heap.size, 0, none⟩) n n] (W.alloc (.cells (l.map Value.string).toArray T)) fun e w' => e = .returned (.bool (l.all fitB)) ∧ Below W.heap.size W w' := by
  subst hn
  refine (fits_any W.heap.size 0 l.length l hl (Nat.le_refl _) _ (fun k hk => ?_)).mono ?_
  · rw [Nat.zero_add, alloc_cell]; simp [hk]
  · rintro e w' ⟨rfl, m, rfl⟩
    exact ⟨rfl, ((Below.refl _ _).alloc (Nat.le_refl _) _).trans ⟨rfl, rfl, rfl, Nat.le_refl _, fun _ _ => rfl⟩⟩
theorem lt_add {x y : Int} {k : Nat} (hx : x.natAbs < 10 ^ k) (hy : y.natAbs < 10 ^ k) : (x + y).natAbs < 10 ^ (k + 1) := by
  rw [Nat.pow_succ]; omega
theorem lt_sub {x y : Int} {k : Nat} (hx : x.natAbs < 10 ^ k) (hy : y.natAbs < 10 ^ k) : (x - y).natAbs < 10 ^ (k + 1) := by
  rw [Nat.pow_succ]; omega
theorem lt_mul {x y : Int} {j k : Nat} (hx : x.natAbs < 10 ^ j) (hy : y.natAbs < 10 ^ k) : (x * y).natAbs < 10 ^ (j + k) := by
  rw [Int.natAbs_mul, Nat.pow_add]
  exact Nat.mul_lt_mul'' hx hy
theorem lt_up {x : Int} {j k : Nat} (hx : x.natAbs < 10 ^ j) (h : j ≤ k) : x.natAbs < 10 ^ k := Nat.lt_of_lt_of_le hx (Nat.pow_le_pow_right (by decide) h)
theorem fit_lt {s : ByteArray} (h : fitB s = true) : (iv s).natAbs < 10 ^ 90 := by
  obtain ⟨h1, h2⟩ := fit_cn h
  have h3 := dgs_len s.data.toList
  rw [size_list] at h3
  exact lt_up (iv_lt h1.canon) (by omega)
theorem sgn_neg (z : Int) : sgn (-z) = -sgn z := by
  unfold sgn
  by_cases h : z = 0
  · subst h; rfl
  · rw [if_neg h, if_neg (by omega)]
    by_cases h2 : z < 0
    · rw [if_pos h2, if_neg (by omega)]; rfl
    · rw [if_neg h2, if_pos (by omega)]
theorem sgn_le (z : Int) : -1 ≤ sgn z ∧ sgn z ≤ 1 := by
  unfold sgn
  split
  · omega
  · split <;> omega
end Go.Proofs.YtnchodofgaaeeaaGreatDoor
