/- subMagnitudes of zero. -/
import Derived.Test.YtnchodofgaaeeaaGreatDoorImJ
namespace Go.Proofs.YtnchodofgaaeeaaGreatDoor
open Go Go.RowKit Go.Shelf

set_option maxRecDepth 100000 in
theorem clone_none (cx : Nat) (w : World) :
    Calls Tryz.prog 107 #[.slice none 0 cx] w fun e w' => (∃ sa cap, e = .returned (.slice sa 0 cap)) ∧ Below w.heap.size w w' := by
  have he : ∀ W : World, (binOp .eql 78 (.slice none 0 cx) (.slice none 0 0)).run Tryz.prog W = .ok (.bool true) W := fun _ => rfl
  go_enter Tryz.func107, Tryz.ntmps107
  go_wp2_with fail
  go_ret
  exact ⟨⟨_, _, rfl⟩, Below.refl _ _⟩
set_option maxRecDepth 100000 in
theorem clone_empty (a : Addr) (cx : Nat) (w : World) :
    Calls Tryz.prog 107 #[.slice (some a) 0 cx] w fun e w' => (∃ sa cap, e = .returned (.slice sa 0 cap)) ∧ Below w.heap.size w w' := by
  obtain ⟨i0, hi0, hz0, hz1, hz2⟩ := info_parts info_u64
  have he : ∀ W : World, (binOp .eql 78 (.slice (some a) 0 cx) (.slice none 0 0)).run Tryz.prog W = .ok (.bool false) W := fun _ => rfl
  have hown : (w.alloc (.cells #[] 106)).ownsRow w.heap.size 106 1 (.slice (some ⟨w.heap.size, 0, none⟩) 0 0) 0 [] := ⟨rfl, .inr ⟨w.heap.size, 0, #[], rfl, Nat.le_refl _, World.alloc_heap_new w _, Nat.le_refl _, by unfold maxLen; omega, rfl, rfl⟩⟩
  have hnews : ∀ (j : Nat) (u : Value), ([] : List Value)[j]? = some u → (w.alloc (.cells #[] 106)).cell? (a.add j) = some u := fun j u hu => by simp at hu
  go_enter Tryz.func107, Tryz.ntmps107
  go_wp2_with (at_builtin; refine wpList_append_own _ rfl _ _ 78 rfl w.heap.size 106 i0 (.int .u64 0) 1 8 Tryz.underlying78 hi0 hz0 hz1 hz2 rfl (by decide) _ _ _ rfl hown a 0 cx [] rfl (by simp) hnews (by intro u hu; cases hu) (by unfold maxLen; omega) (by omega) (by simp) ?_; intro v' w6 hown' hgrow _)
  go_ret
  have hb : Below w.heap.size w w6 := ((Below.refl _ _).alloc (Nat.le_refl _) _).grown hgrow (by simp) (fun g hg => by have h2 : some w.heap.size = some g := hg; cases h2; exact Nat.le_refl _)
  rcases hown'.2 with ⟨rfl, _⟩ | ⟨g, cap, cur, rfl, _⟩
  · exact ⟨⟨_, _, rfl⟩, hb⟩
  · exact ⟨⟨_, _, rfl⟩, hb⟩

theorem sub_zero (sx : Option Addr) (cx : Nat) (sy : Option Addr) (cpy : Nat) (w : World) :
    Calls Tryz.prog 101 #[.slice sx 0 cx, .slice sy 0 cpy] w fun e w' => (∃ v, e = .returned v ∧ Mag w' v (0 - 0)) ∧ Below w.heap.size w w' := by
  have C : Calls Tryz.prog 107 #[.slice sx 0 cx] w fun e w' => (∃ sa cap, e = .returned (.slice sa 0 cap)) ∧ Below w.heap.size w w' := by
    cases sx with
    | none => exact clone_none cx w
    | some a => exact clone_empty a cx w
  have CC := Lib.hid C
  have hrow : ∀ (W : World) (sa : Option Addr) (cap : Nat), Row W sa 0 cap 0 0 0 := fun W sa cap => ⟨Nat.zero_le _, fun p => absurd p (Nat.lt_irrefl _), fun p => absurd p (Nat.lt_irrefl _), fun k hk => absurd hk (Nat.not_lt_zero _), by simp⟩
  have T := Lib.hid (fun sa cap W => by have := trimmed_any sa 0 cap 0 0 0 W (hrow W sa cap) (by omega); rw [nd_zero] at this; exact this)
  have S := Lib.hid (fun sa ca W => subT_zero sa sy ca 0 cpy 1 W)
  have HR := Lib.hid hrow
  clear C hrow
  go_enter Tryz.func101, Tryz.ntmps101
  go_wp2_with fail
  refine CC.out.mono ?_
  rintro e w1 ⟨⟨sa, cap, rfl⟩, hb1⟩
  go_wp2_with fail
  refine (S.out _ _ _).mono ?_
  rintro e w2 ⟨rfl, hww⟩
  subst w2
  go_wp2_with fail
  refine (T.out _ _ _).mono ?_
  rintro e w2 ⟨rfl, hww⟩
  subst w2
  go_wp2
  go_ret
  exact ⟨⟨_, rfl, sa, cap, 0, 0, by rw [nd_zero]; rfl, by rw [nd_zero]; exact HR.out _ _ _⟩, hb1⟩
end Go.Proofs.YtnchodofgaaeeaaGreatDoor
