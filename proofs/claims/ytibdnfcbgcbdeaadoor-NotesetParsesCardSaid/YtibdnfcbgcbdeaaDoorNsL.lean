/- NotesetShifts: the law's walk. -/
import Derived.Test.YtibdnfcbgcbdeaaDoorNsK
namespace Go.Proofs.YtibdnfcbgcbdeaaDoor
open Go Go.RowKit Go.Shelf

set_option maxHeartbeats 1000000 in
theorem rshift_out (a b : Nat) (k : Int) (h : k < -127 ∨ 127 < k) (w : World) :
    Calls Tryd.prog 37 #[.agg #[.int .u64 a, .int .u64 b], .int .i64 k] w fun e w' => e = .returned (.agg #[.int .u64 (Ns.shLo a b k : Nat), .int .u64 (Ns.shHi a b k : Nat)]) ∧ Below w.heap.size w w' := by
  have e1 : Ns.shLo a b k = 0 := by unfold Ns.shLo; rw [if_pos h]
  have e2 : Ns.shHi a b k = 0 := by unfold Ns.shHi; rw [if_pos h]
  rw [e1, e2]
  clear e1 e2
  by_cases h1 : k < -127
  · go_enter Tryd.func37, Tryd.ntmps37
    go_wp2
    refine bodyPost_ret (v := .agg #[.int .u64 0, .int .u64 0]) (by simp [results, Tryd.results37, go_sem]) rfl ⟨rfl, ?_⟩
    repeat (first | exact Below.refl _ _ | (refine Below.drew ?_) | (refine Below.setCell ?_ (by simp <;> omega) _) | (refine Below.alloc ?_ (by simp <;> omega) _))
  · have h2 : 127 < k := by omega
    have h3 : -127 ≤ k := by omega
    go_enter Tryd.func37, Tryd.ntmps37
    go_wp2
    refine bodyPost_ret (v := .agg #[.int .u64 0, .int .u64 0]) (by simp [results, Tryd.results37, go_sem]) rfl ⟨rfl, ?_⟩
    repeat (first | exact Below.refl _ _ | (refine Below.drew ?_) | (refine Below.setCell ?_ (by simp <;> omega) _) | (refine Below.alloc ?_ (by simp <;> omega) _))

theorem rshift_all (a b : Nat) (k : Int) (ha : a < 18446744073709551616) (hb : b < 18446744073709551616) (w : World) :
    Calls Tryd.prog 37 #[.agg #[.int .u64 a, .int .u64 b], .int .i64 k] w fun e w' => e = .returned (.agg #[.int .u64 (Ns.shLo a b k : Nat), .int .u64 (Ns.shHi a b k : Nat)]) ∧ Below w.heap.size w w' := by
  by_cases h : k < -127 ∨ 127 < k
  · exact rshift_out a b k h w
  · exact rshift_any a b k ha hb (by omega) (by omega) w

set_option maxHeartbeats 2000000 in
theorem shifts_nat (a b : Nat) (k : Int) (ha : a < 18446744073709551616) (hb : b < 18446744073709551616) (w : World) (G : Gl w) :
    Calls Tryd.prog 8 #[.agg #[.int .u64 a, .int .u64 b], .int .i64 k] w fun e w' => e = .returned (.bool true) ∧ Below w.heap.size w w' := by
  obtain ⟨x, hx⟩ : ∃ x, Ns.shLo a b k = x := ⟨_, rfl⟩
  obtain ⟨y, hy⟩ : ∃ y, Ns.shHi a b k = y := ⟨_, rfl⟩
  have A := Lib.hid (fun W => shift_any a b k ha W)
  have B := Lib.hid (fun W => rshift_all a b k ha hb W)
  rw [hx, hy] at A B
  clear hx hy
  have K := Lib.hid (fun W g => known_any W g)
  have GB := Lib.hid (fun o => G.below ((Below.refl _ _).alloc (Nat.le_refl _) o))
  clear G
  go_enter Tryd.func8, Tryd.ntmps8
  go_wp2_with fail
  refine (K.out _ (GB.out _)).mono ?_
  rintro e w1 ⟨rfl, hb1⟩
  have s1 := (SetAt.new w a b).below (SetAt.new w a b).lt hb1
  have z1 := hb1.size
  simp at z1
  have hB1 : Below w.heap.size w w1 := ((Below.refl _ _).alloc (Nat.le_refl _) _).trans (hb1.mono (by simp))
  go_wp2_with fail
  have HS := Lib.hid (show ∀ W : World, Below w1.heap.size w1 W → (W.cell? ⟨w.heap.size, 0, none⟩ = some (.int .u64 a) ∧ W.cell? ⟨w.heap.size, 1, none⟩ = some (.int .u64 b) ∧ Below w1.heap.size w1 W) from fun W hW => ⟨(s1.below s1.lt hW).fst, (s1.below s1.lt hW).snd, hW⟩)
  have HN := Lib.hid (show ∀ W W' : World, Below W.heap.size W W' → (W.cell? ⟨w.heap.size, 0, none⟩ = some (.int .u64 a) ∧ W.cell? ⟨w.heap.size, 1, none⟩ = some (.int .u64 b) ∧ Below w1.heap.size w1 W) → Below w1.heap.size w1 W' from fun W W' hb h => h.2.2.trans (hb.mono h.2.2.size))
  go_region_held3 (fun W => W.cell? ⟨w.heap.size, 0, none⟩ = some (.int .u64 a) ∧ W.cell? ⟨w.heap.size, 1, none⟩ = some (.int .u64 b) ∧ Below w1.heap.size w1 W) ((refine HS.out _ ?_; repeat' (first | (with_reducible exact hB3) | (with_reducible exact hB2) | (with_reducible exact (Below.refl _ _).drew) | (with_reducible exact Below.refl _ _) | (with_reducible refine Below.drew ?_))))
    (first
    | (go_at_call 36; refine (A.out _).mono ?_; rintro e w2 ⟨rfl, hb2⟩; have hB2 := HN.out _ _ hb2 (by assumption))
    | (go_at_call 37; refine (B.out _).mono ?_; rintro e w3 ⟨rfl, hb3⟩; have hB3 := HN.out _ _ hb3 (by assumption)))
  all_goals
    go_wp2
    go_ret
    exact ⟨rfl, hB1.trans (hB3.mono (by omega))⟩

theorem shifts_walk (a b k : Int) (w : World) (G : Gl w) (h1 : 0 ≤ a) (h2 : a ≤ 18446744073709551615) (h3 : 0 ≤ b) (h4 : b ≤ 18446744073709551615) :
    Calls Tryd.prog 8 #[.agg #[.int .u64 a, .int .u64 b], .int .i64 k] w fun e w' => e = .returned (.bool true) ∧ Below w.heap.size w w' := by
  obtain ⟨x, rfl⟩ := Int.eq_ofNat_of_zero_le h1
  obtain ⟨y, rfl⟩ := Int.eq_ofNat_of_zero_le h3
  exact shifts_nat x y k (by omega) (by omega) w G
end Go.Proofs.YtibdnfcbgcbdeaaDoor
