/- The example that every law on sets of notes begins with. -/
import Derived.Test.YtibdnfcbgcbdeaaDoorNsG
namespace Go.Proofs.YtibdnfcbgcbdeaaDoor
open Go Go.RowKit Go.Shelf

theorem letterLength_G9 (w : World) : Calls Tryd.prog 45 #[.string ⟨#[71, 57]⟩] w fun e w' => e = .returned (.int .i64 1) ∧ w = w' := by
  go_enter Tryd.func45, Tryd.ntmps45
  go_wp2
  go_ret
  exact ⟨rfl, rfl⟩

theorem octaveOf_9 (w : World) : Calls Tryd.prog 46 #[.string ⟨#[57]⟩] w fun e w' => e = .returned (.tuple #[.int .i64 10, .bool true]) ∧ w = w' := by
  go_enter Tryd.func46, Tryd.ntmps46
  go_wp2
  go_ret2
  exact ⟨rfl, rfl⟩

def lettersV : Array Value := #[.string ⟨#[67]⟩, .string ⟨#[67, 35]⟩, .string ⟨#[68]⟩, .string ⟨#[68, 35]⟩, .string ⟨#[69]⟩, .string ⟨#[70]⟩, .string ⟨#[70, 35]⟩, .string ⟨#[71]⟩, .string ⟨#[71, 35]⟩, .string ⟨#[65]⟩, .string ⟨#[65, 35]⟩, .string ⟨#[66]⟩]
theorem index_0 (W : World) : Sem.run Tryd.prog (Instr.index 63 (.agg #[.string ⟨#[67]⟩, .string ⟨#[67, 35]⟩, .string ⟨#[68]⟩, .string ⟨#[68, 35]⟩, .string ⟨#[69]⟩, .string ⟨#[70]⟩, .string ⟨#[70, 35]⟩, .string ⟨#[71]⟩, .string ⟨#[71, 35]⟩, .string ⟨#[65]⟩, .string ⟨#[65, 35]⟩, .string ⟨#[66]⟩]) (.int .i64 0)) W = .ok (.string ⟨#[67]⟩) W := by kernel_rfl
theorem index_1 (W : World) : Sem.run Tryd.prog (Instr.index 63 (.agg #[.string ⟨#[67]⟩, .string ⟨#[67, 35]⟩, .string ⟨#[68]⟩, .string ⟨#[68, 35]⟩, .string ⟨#[69]⟩, .string ⟨#[70]⟩, .string ⟨#[70, 35]⟩, .string ⟨#[71]⟩, .string ⟨#[71, 35]⟩, .string ⟨#[65]⟩, .string ⟨#[65, 35]⟩, .string ⟨#[66]⟩]) (.int .i64 1)) W = .ok (.string ⟨#[67, 35]⟩) W := by kernel_rfl
theorem index_2 (W : World) : Sem.run Tryd.prog (Instr.index 63 (.agg #[.string ⟨#[67]⟩, .string ⟨#[67, 35]⟩, .string ⟨#[68]⟩, .string ⟨#[68, 35]⟩, .string ⟨#[69]⟩, .string ⟨#[70]⟩, .string ⟨#[70, 35]⟩, .string ⟨#[71]⟩, .string ⟨#[71, 35]⟩, .string ⟨#[65]⟩, .string ⟨#[65, 35]⟩, .string ⟨#[66]⟩]) (.int .i64 2)) W = .ok (.string ⟨#[68]⟩) W := by kernel_rfl
theorem index_3 (W : World) : Sem.run Tryd.prog (Instr.index 63 (.agg #[.string ⟨#[67]⟩, .string ⟨#[67, 35]⟩, .string ⟨#[68]⟩, .string ⟨#[68, 35]⟩, .string ⟨#[69]⟩, .string ⟨#[70]⟩, .string ⟨#[70, 35]⟩, .string ⟨#[71]⟩, .string ⟨#[71, 35]⟩, .string ⟨#[65]⟩, .string ⟨#[65, 35]⟩, .string ⟨#[66]⟩]) (.int .i64 3)) W = .ok (.string ⟨#[68, 35]⟩) W := by kernel_rfl
theorem index_4 (W : World) : Sem.run Tryd.prog (Instr.index 63 (.agg #[.string ⟨#[67]⟩, .string ⟨#[67, 35]⟩, .string ⟨#[68]⟩, .string ⟨#[68, 35]⟩, .string ⟨#[69]⟩, .string ⟨#[70]⟩, .string ⟨#[70, 35]⟩, .string ⟨#[71]⟩, .string ⟨#[71, 35]⟩, .string ⟨#[65]⟩, .string ⟨#[65, 35]⟩, .string ⟨#[66]⟩]) (.int .i64 4)) W = .ok (.string ⟨#[69]⟩) W := by kernel_rfl
theorem index_5 (W : World) : Sem.run Tryd.prog (Instr.index 63 (.agg #[.string ⟨#[67]⟩, .string ⟨#[67, 35]⟩, .string ⟨#[68]⟩, .string ⟨#[68, 35]⟩, .string ⟨#[69]⟩, .string ⟨#[70]⟩, .string ⟨#[70, 35]⟩, .string ⟨#[71]⟩, .string ⟨#[71, 35]⟩, .string ⟨#[65]⟩, .string ⟨#[65, 35]⟩, .string ⟨#[66]⟩]) (.int .i64 5)) W = .ok (.string ⟨#[70]⟩) W := by kernel_rfl
theorem index_6 (W : World) : Sem.run Tryd.prog (Instr.index 63 (.agg #[.string ⟨#[67]⟩, .string ⟨#[67, 35]⟩, .string ⟨#[68]⟩, .string ⟨#[68, 35]⟩, .string ⟨#[69]⟩, .string ⟨#[70]⟩, .string ⟨#[70, 35]⟩, .string ⟨#[71]⟩, .string ⟨#[71, 35]⟩, .string ⟨#[65]⟩, .string ⟨#[65, 35]⟩, .string ⟨#[66]⟩]) (.int .i64 6)) W = .ok (.string ⟨#[70, 35]⟩) W := by kernel_rfl
theorem index_7 (W : World) : Sem.run Tryd.prog (Instr.index 63 (.agg #[.string ⟨#[67]⟩, .string ⟨#[67, 35]⟩, .string ⟨#[68]⟩, .string ⟨#[68, 35]⟩, .string ⟨#[69]⟩, .string ⟨#[70]⟩, .string ⟨#[70, 35]⟩, .string ⟨#[71]⟩, .string ⟨#[71, 35]⟩, .string ⟨#[65]⟩, .string ⟨#[65, 35]⟩, .string ⟨#[66]⟩]) (.int .i64 7)) W = .ok (.string ⟨#[71]⟩) W := by kernel_rfl

set_option maxRecDepth 100000 in
set_option maxHeartbeats 1000000 in
theorem note_G9 (w : World) (G : Gl w) : Calls Tryd.prog 15 #[.string ⟨#[71, 57]⟩] w fun e w' => e = .returned (.tuple #[.int .i64 127, .int .i64 0]) ∧ w = w' := by
  have c0 := G.names 0 _ rfl
  have c1 := G.names 1 _ rfl
  have c2 := G.names 2 _ rfl
  have c3 := G.names 3 _ rfl
  have c4 := G.names 4 _ rfl
  have c5 := G.names 5 _ rfl
  have c6 := G.names 6 _ rfl
  have c7 := G.names 7 _ rfl
  have c8 := G.names 8 _ rfl
  have c9 := G.names 9 _ rfl
  have c10 := G.names 10 _ rfl
  have c11 := G.names 11 _ rfl
  have v : ∀ W, Calls Tryd.prog 43 #[.int .i64 127] W fun e w' => e = .returned (.bool true) ∧ W = w' := fun W => valid_any 127 W
  have x1 : (⟨#[71, 57]⟩ : ByteArray).extract 0 1 = ⟨#[71]⟩ := by decide +kernel
  have x2 : (⟨#[71, 57]⟩ : ByteArray).extract 1 2 = ⟨#[57]⟩ := by decide +kernel
  have i0 := index_0
  have i1 := index_1
  have i2 := index_2
  have i3 := index_3
  have i4 := index_4
  have i5 := index_5
  have i6 := index_6
  have i7 := index_7
  go_enter Tryd.func15, Tryd.ntmps15
  go_wp2_with (first
    | (go_at_call 45; refine (letterLength_G9 _).mono ?_; rintro e w' ⟨rfl, rfl⟩)
    | (go_at_call 46; refine (octaveOf_9 _).mono ?_; rintro e w' ⟨rfl, rfl⟩))
  go_loop [23] (fun i => i = .int .i64 0 ∨ i = .int .i64 1 ∨ i = .int .i64 2 ∨ i = .int .i64 3 ∨ i = .int .i64 4 ∨ i = .int .i64 5 ∨ i = .int .i64 6 ∨ i = .int .i64 7) (fun i => 8 - (intOf i).toNat)
  case atStart => exact .inl rfl
  case round =>
    obtain rfl | rfl | rfl | rfl | rfl | rfl | rfl | rfl := hrel
    all_goals
      go_wp2_with (first
        | (go_at_call 43; refine (v _).mono ?_; rintro e w' ⟨rfl, rfl⟩))
      first
      | (go_ret2
         exact ⟨rfl, rfl⟩)
      | (go_round
         case rel => simp
         case measure => simp [intOf])

theorem of_known (b : Nat) (w : World) (hb : b < w.heap.size) (h0 : w.cell? ⟨b, 0, none⟩ = some (.int .i64 60)) (h1 : w.cell? ⟨b, 1, none⟩ = some (.int .i64 64)) (h2 : w.cell? ⟨b, 2, none⟩ = some (.int .i64 67)) :
    Calls Tryd.prog 18 #[.slice (some ⟨b, 0, none⟩) 3 3] w fun e w' => e = .returned (.tuple #[.agg #[.int .u64 (1152921504606846976 : Nat), .int .u64 (9 : Nat)], .int .i64 0]) ∧ Below w.heap.size w w' := by
  have h := of_upto b 0 3 3 3 (fun k => if k = 0 then 60 else if k = 1 then 64 else 67) w (Nat.le_refl _) (by decide) hb (fun k hk => by
      obtain rfl | rfl | rfl : k = 0 ∨ k = 1 ∨ k = 2 := by omega
      · exact h0
      · exact h1
      · exact h2) (fun k _ => by show validB _ = true; by_cases k = 0 <;> by_cases k = 1 <;> simp [*, validB]) (fun h => absurd h (by omega))
  rw [if_pos rfl, if_pos rfl, if_pos rfl] at h
  exact h

theorem text_known : textOf 1152921504606846976 9 = ⟨#[67, 52, 32, 69, 52, 32, 71, 52]⟩ := by decide +kernel
theorem pc_known : Ns.pc 1152921504606846976 + Ns.pc 9 = 3 := by decide +kernel

set_option maxHeartbeats 1000000 in
theorem known_any (w : World) (G : Gl w) : Calls Tryd.prog 13 #[] w fun e w' => e = .returned (.bool true) ∧ Below w.heap.size w w' := by
  have tx := fun W g => text_any 1152921504606846976 9 (by decide) (by decide) W g
  rw [text_known] at tx
  have ct := fun W => count_below 1152921504606846976 9 (by decide) (by decide) W
  rw [pc_known] at ct
  have TX := Lib.hid tx
  have CT := Lib.hid ct
  clear tx ct
  go_enter Tryd.func13, Tryd.ntmps13
  go_wp2_with fail
  refine (of_known w.heap.size _ (by simp) (by simp) (by simp) (by simp)).mono ?_
  rintro e w1 ⟨rfl, hb1⟩
  have w1e : Below w.heap.size w w1 := ((Below.refl _ _).alloc (Nat.le_refl _) _).trans (hb1.mono (by simp))
  have G1 := G.below w1e
  have G2 := fun o => G1.below ((Below.refl _ _).alloc (Nat.le_refl _) o)
  have GG := Lib.hid G2
  clear G1 G2 G
  have z1 := w1e.size
  go_wp2_with (first
    | (go_at_call 15; refine (note_G9 _ (GG.out _)).mono ?_; rintro e w' ⟨rfl, rfl⟩)
    | (go_at_call 38; refine (TX.out _ (GG.out _)).mono ?_; rintro e w2 ⟨rfl, hb2⟩; have k0 := (bcell hb2).1 w1.heap.size 0 (by simp); have k1 := (bcell hb2).1 w1.heap.size 1 (by simp); simp at k0 k1)
    | (go_at_call 29; refine (CT.out _).mono ?_; rintro e w3 ⟨rfl, hb3⟩))
  go_ret
  exact ⟨rfl, ((w1e.trans (((Below.refl w1.heap.size w1).alloc (Nat.le_refl _) _).mono z1)).trans (hb2.mono (by simp; omega))).trans (hb3.mono (by have := hb2.size; simp at this; omega))⟩
end Go.Proofs.YtibdnfcbgcbdeaaDoor
