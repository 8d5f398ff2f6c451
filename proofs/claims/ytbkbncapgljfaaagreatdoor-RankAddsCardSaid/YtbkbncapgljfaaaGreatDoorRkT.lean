/- The contract of bombardelaw02's Feet. -/
import Derived.Test.YtbkbncapgljfaaaGreatDoorRkS
namespace Go.Proofs.YtbkbncapgljfaaaGreatDoor
open Go Go.RowKit Go.Shelf

/-- Feet's answer. -/
def feetF (j : Nat) : Int × Int := [(8, 1), (4, 1), (16, 1), (2, 1), (8, 3), (8, 5), (4, 3), (1, 1), (32, 1), (16, 3), (16, 5), (32, 3), (8, 7), (2, 3), (1, 2), (64, 1)].getD j (8, 1)
theorem feetF_pk : ∀ j, j < 16 → pk (feetF j).1 (feetF j).2 = 0 := by decide +kernel
theorem feet_rem (x : Int) (h : 0 ≤ x ∧ x ≤ 255) : ∃ j : Nat, j < 16 ∧ x.tmod 16 = j := ⟨(x.tmod 16).toNat, by have := Int.tmod_nonneg 16 h.1; have := Int.tmod_lt_of_pos x (show (0 : Int) < 16 by decide); omega, by have := Int.tmod_nonneg 16 h.1; omega⟩
theorem feet_at {W : World} {b : Nat} {T : TypeId} (h : W.heap[b]? = some (.cells #[.int .i64 8, .int .i64 1, .int .i64 4, .int .i64 1, .int .i64 16, .int .i64 1, .int .i64 2, .int .i64 1, .int .i64 8, .int .i64 3, .int .i64 8, .int .i64 5, .int .i64 4, .int .i64 3, .int .i64 1, .int .i64 1, .int .i64 32, .int .i64 1, .int .i64 16, .int .i64 3, .int .i64 16, .int .i64 5, .int .i64 32, .int .i64 3, .int .i64 8, .int .i64 7, .int .i64 2, .int .i64 3, .int .i64 1, .int .i64 2, .int .i64 64, .int .i64 1] T)) (j : Nat) (hj : j < 16) : W.cell? ⟨b, j * 2, none⟩ = some (.int .i64 (feetF j).1) ∧ W.cell? ⟨b, j * 2 + 1, none⟩ = some (.int .i64 (feetF j).2) := by
  simp only [World.cell?, h]
  have : ∀ j : Nat, j < 16 → ((#[.int .i64 8, .int .i64 1, .int .i64 4, .int .i64 1, .int .i64 16, .int .i64 1, .int .i64 2, .int .i64 1, .int .i64 8, .int .i64 3, .int .i64 8, .int .i64 5, .int .i64 4, .int .i64 3, .int .i64 1, .int .i64 1, .int .i64 32, .int .i64 1, .int .i64 16, .int .i64 3, .int .i64 16, .int .i64 5, .int .i64 32, .int .i64 3, .int .i64 8, .int .i64 7, .int .i64 2, .int .i64 3, .int .i64 1, .int .i64 2, .int .i64 64, .int .i64 1] : Array Value)[j * 2]? = some (.int .i64 (feetF j).1) ∧ (#[.int .i64 8, .int .i64 1, .int .i64 4, .int .i64 1, .int .i64 16, .int .i64 1, .int .i64 2, .int .i64 1, .int .i64 8, .int .i64 3, .int .i64 8, .int .i64 5, .int .i64 4, .int .i64 3, .int .i64 1, .int .i64 1, .int .i64 32, .int .i64 1, .int .i64 16, .int .i64 3, .int .i64 16, .int .i64 5, .int .i64 32, .int .i64 3, .int .i64 8, .int .i64 7, .int .i64 2, .int .i64 3, .int .i64 1, .int .i64 2, .int .i64 64, .int .i64 1] : Array Value)[j * 2 + 1]? = some (.int .i64 (feetF j).2)) := by
    intro j hj
    match j, hj with
    | 0, _ => exact ⟨rfl, rfl⟩
    | 1, _ => exact ⟨rfl, rfl⟩
    | 2, _ => exact ⟨rfl, rfl⟩
    | 3, _ => exact ⟨rfl, rfl⟩
    | 4, _ => exact ⟨rfl, rfl⟩
    | 5, _ => exact ⟨rfl, rfl⟩
    | 6, _ => exact ⟨rfl, rfl⟩
    | 7, _ => exact ⟨rfl, rfl⟩
    | 8, _ => exact ⟨rfl, rfl⟩
    | 9, _ => exact ⟨rfl, rfl⟩
    | 10, _ => exact ⟨rfl, rfl⟩
    | 11, _ => exact ⟨rfl, rfl⟩
    | 12, _ => exact ⟨rfl, rfl⟩
    | 13, _ => exact ⟨rfl, rfl⟩
    | 14, _ => exact ⟨rfl, rfl⟩
    | 15, _ => exact ⟨rfl, rfl⟩
    | j + 16, hj => omega
  exact this j hj

set_option maxRecDepth 100000 in
set_option maxHeartbeats 4000000 in
theorem feet_c (x : Int) (h : 0 ≤ x ∧ x ≤ 255) (j : Nat) (hj : j < 16) (hx : x.tmod 16 = j) (w : World) :
    Calls Tryz.prog 44 #[.int .u8 x] w fun e w' => e = .returned (.agg #[.int .i64 (feetF j).1, .int .i64 (feetF j).2]) ∧ Below w.heap.size w w' := by
  obtain ⟨D, hD⟩ : ∃ D, w.heap.size = D := ⟨_, rfl⟩
  obtain ⟨a, ha⟩ : ∃ a, (feetF j).1 = a := ⟨_, rfl⟩
  obtain ⟨b, hb⟩ : ∃ b, (feetF j).2 = b := ⟨_, rfl⟩
  have hp : ((w.alloc (.cells #[.int .i64 0, .int .i64 0] 23)).alloc (.cells #[.int .i64 8, .int .i64 1, .int .i64 4, .int .i64 1, .int .i64 16, .int .i64 1, .int .i64 2, .int .i64 1, .int .i64 8, .int .i64 3, .int .i64 8, .int .i64 5, .int .i64 4, .int .i64 3, .int .i64 1, .int .i64 1, .int .i64 32, .int .i64 1, .int .i64 16, .int .i64 3, .int .i64 16, .int .i64 5, .int .i64 32, .int .i64 3, .int .i64 8, .int .i64 7, .int .i64 2, .int .i64 3, .int .i64 1, .int .i64 2, .int .i64 64, .int .i64 1] 23)).heap[D + 1]? = some (.cells #[.int .i64 8, .int .i64 1, .int .i64 4, .int .i64 1, .int .i64 16, .int .i64 1, .int .i64 2, .int .i64 1, .int .i64 8, .int .i64 3, .int .i64 8, .int .i64 5, .int .i64 4, .int .i64 3, .int .i64 1, .int .i64 1, .int .i64 32, .int .i64 1, .int .i64 16, .int .i64 3, .int .i64 16, .int .i64 5, .int .i64 32, .int .i64 3, .int .i64 8, .int .i64 7, .int .i64 2, .int .i64 3, .int .i64 1, .int .i64 2, .int .i64 64, .int .i64 1] 23) := heap_new (by simp [hD])
  obtain ⟨c0, c1⟩ := feet_at hp j hj
  rw [ha] at c0
  rw [hb] at c1
  rw [ha, hb]
  have wx := wrap_in (q := (j : Int)) (by omega) (by omega)
  have h16 : (j : Int) < 16 := by omega
  clear hp ha hb
  go_enter Tryz.func44, Tryz.ntmps44
  go_wp2_with fail
  have hq : ((w.alloc (.cells #[.int .i64 a, .int .i64 b] 23)).alloc (.cells #[.int .i64 8, .int .i64 1, .int .i64 4, .int .i64 1, .int .i64 16, .int .i64 1, .int .i64 2, .int .i64 1, .int .i64 8, .int .i64 3, .int .i64 8, .int .i64 5, .int .i64 4, .int .i64 3, .int .i64 1, .int .i64 1, .int .i64 32, .int .i64 1, .int .i64 16, .int .i64 3, .int .i64 16, .int .i64 5, .int .i64 32, .int .i64 3, .int .i64 8, .int .i64 7, .int .i64 2, .int .i64 3, .int .i64 1, .int .i64 2, .int .i64 64, .int .i64 1] 23)).heap[D]? = some (.cells #[.int .i64 a, .int .i64 b] 23) := heap_old (heap_new hD.symm)
  have k0 := cell2_0 hq
  have k1 := cell2_1 hq
  have HW := Lib.hid (show Below D w ((w.alloc (.cells #[.int .i64 a, .int .i64 b] 23)).alloc (.cells #[.int .i64 8, .int .i64 1, .int .i64 4, .int .i64 1, .int .i64 16, .int .i64 1, .int .i64 2, .int .i64 1, .int .i64 8, .int .i64 3, .int .i64 8, .int .i64 5, .int .i64 4, .int .i64 3, .int .i64 1, .int .i64 1, .int .i64 32, .int .i64 1, .int .i64 16, .int .i64 3, .int .i64 16, .int .i64 5, .int .i64 32, .int .i64 3, .int .i64 8, .int .i64 7, .int .i64 2, .int .i64 3, .int .i64 1, .int .i64 2, .int .i64 64, .int .i64 1] 23)) from ((Below.refl _ w).alloc (by omega) _).alloc (by simp; omega) _)
  exact bodyPost_ret (v := .agg #[.int .i64 a, .int .i64 b]) (by simp [results, Tryz.results44, go_sem, k0, k1]) rfl ⟨rfl, by rw [hD]; exact HW.out⟩
end Go.Proofs.YtbkbncapgljfaaaGreatDoor
