/- divideMagnitudes: the two short arms. -/
import Derived.Test.YtnchodofgaaeeaaGreatDoorImP2
namespace Go.Proofs.YtnchodofgaaeeaaGreatDoor
open Go Go.RowKit Go.Shelf

theorem mag_zero (W : World) : Mag W (.slice none 0 0) 0 := ⟨none, 0, 0, 0, by rw [nd_zero], by rw [nd_zero]; exact ⟨Nat.le_refl _, fun p => absurd p (Nat.lt_irrefl _), fun p => absurd p (Nat.lt_irrefl _), fun k hk => absurd hk (Nat.not_lt_zero _), Nat.one_pos⟩⟩
theorem mag_set {W : World} {v : Value} {x : Nat} (h : Mag W v x) {b : Nat} {c : Value} {T : TypeId} (hb : W.heap[b]? = some (.cells #[c] T)) (hc : ∀ i : Int, c ≠ .int .u64 i) (u : Value) : Mag (W.setCell ⟨b, 0, none⟩ u) v x := by
  obtain ⟨sa, cap, b', o, h1, h2⟩ := h
  refine ⟨sa, cap, b', o, h1, h2.set ⟨b, 0, none⟩ (fun h0 e => ?_) u⟩
  have e2 : b' = b := e
  subst e2
  have h3 := h2.cell 0 h0
  simp [World.cell?, hb] at h3
  rcases o with _ | o
  · simp at h3; exact hc _ h3
  · simp at h3
theorem row_piece (W : World) {d : Nat} (hd : d < 1000000000) : Row (W.alloc (.cells #[.int .u64 (d : Nat)] 106)) (some ⟨W.heap.size, 0, none⟩) 1 1 W.heap.size 0 d :=
  ⟨Nat.le_refl _, fun _ => rfl, fun _ => by simp, fun k hk => by
    obtain rfl : k = 0 := by omega
    have e : dg d 0 = d := by unfold dg Im.dg; rw [Nat.pow_zero, Nat.div_one]; exact Nat.mod_eq_of_lt hd
    rw [e]; simp, by rw [Nat.pow_one]; exact hd⟩
theorem clone_mag (sx : Option Addr) (cx bx ox X : Nat) (w : World) (hx : Row w sx (nd X) cx bx ox X) (hn : nd X ≤ 1000000) :
    Calls Tryz.prog 107 #[.slice sx (nd X) cx] w fun e w' => (∃ v, e = .returned v ∧ Mag w' v X) ∧ Below w.heap.size w w' := by
  rcases Nat.eq_zero_or_pos (nd X) with h0 | h0
  · obtain rfl := nd_pos_iff.1 h0
    rw [nd_zero]
    have C : Calls Tryz.prog 107 #[.slice sx 0 cx] w fun e w' => (∃ sa cap, e = .returned (.slice sa 0 cap)) ∧ Below w.heap.size w w' := by
      cases sx with
      | none => exact clone_none cx w
      | some a => exact clone_empty a cx w
    refine C.mono ?_
    rintro e w' ⟨⟨sa, cap, rfl⟩, hb⟩
    exact ⟨⟨_, rfl, sa, cap, 0, 0, by rw [nd_zero], by rw [nd_zero]; exact ⟨Nat.zero_le _, fun p => absurd p (Nat.lt_irrefl _), fun p => absurd p (Nat.lt_irrefl _), fun k hk => absurd hk (Nat.not_lt_zero _), Nat.one_pos⟩⟩, hb⟩
  · obtain rfl := hx.at_ h0
    refine (clone_some bx ox cx (nd X) X w hx h0 (by omega)).mono ?_
    rintro e w' ⟨⟨v, rfl, hv⟩, hb⟩
    obtain ⟨sa, cap, b, rfl, hR, _⟩ := row_of hv hx.fits
    exact ⟨⟨_, rfl, sa, cap, b, 0, rfl, hR⟩, hb⟩
theorem divM_less (sx : Option Addr) (cx bx ox X : Nat) (sy : Option Addr) (cpy _by _oy Y : Nat) (hl : nd X < nd Y) (w : World) (hx : Row w sx (nd X) cx bx ox X) (hn : nd X ≤ 1000000) :
    Calls Tryz.prog 77 #[.slice sx (nd X) cx, .slice sy (nd Y) cpy] w fun e w' => (∃ v1 v2, e = .returned (.tuple #[v1, v2]) ∧ Mag w' v1 (X / Y) ∧ Mag w' v2 (X % Y)) ∧ Below w.heap.size w w' := by
  have hXY := lt_of_nd hl
  rw [Nat.div_eq_of_lt hXY, Nat.mod_eq_of_lt hXY]
  have CL := Lib.hid (fun W (hb : Below w.heap.size w W) => clone_mag sx cx bx ox X W (hx.below hb (Nat.le_refl _)) hn)
  have hli : (nd X : Int) < (nd Y : Int) := by omega
  clear hx hXY hl
  generalize nd X = nx at *
  generalize nd Y = ny at *
  obtain ⟨D, hD⟩ : ∃ D, w.heap.size = D := ⟨_, rfl⟩
  go_enter Tryz.func77, Tryz.ntmps77
  go_wp2_with fail
  obtain ⟨V, hV⟩ : ∃ V, ((w.alloc (.cells #[.slice none 0 0] 78)).alloc (.cells #[.slice none 0 0] 78)) = V := ⟨_, rfl⟩
  have hwV : Below D w V := by rw [← hV]; exact ((Below.refl _ w).alloc (by omega) _).alloc (by simp; omega) _
  have h0V : V.heap[D]? = some (.cells #[.slice none 0 0] 78) := by rw [← hV]; exact heap_up (heap_at hD.symm)
  have h1V : V.heap[D + 1]? = some (.cells #[.slice none 0 0] 78) := by rw [← hV]; exact heap_at (by simp [hD])
  have hzV : V.heap.size = D + 2 := by rw [← hV]; simp [hD]
  rw [hV]
  clear hV
  refine (CL.out V (by rw [hD]; exact hwV)).mono ?_
  rintro e w2 ⟨⟨v2, rfl, h2⟩, hb2⟩
  have h0 := (hb2.block D (by omega)).trans h0V
  have h1 := (hb2.block (D + 1) (by omega)).trans h1V
  have hw2 := hwV.trans (hb2.mono (by omega))
  have c0 := cell_one h0
  have f0 := free_one h0
  have c1 := cell_one h1
  have f1 := free_one h1
  have m1 : Mag ((w2.setCell ⟨D, 0, none⟩ (.slice none 0 0)).setCell ⟨D + 1, 0, none⟩ v2) v2 X := mag_set (mag_set h2 h0 (fun i e => by cases e) _) ((set_else (by omega)).trans h1) (fun i e => by cases e) _
  have HM := Lib.hid m1
  have HW := Lib.hid ((hw2.setCell (p := ⟨D, 0, none⟩) (by simp) (.slice none 0 0)).setCell (p := ⟨D + 1, 0, none⟩) (by simp) v2)
  obtain ⟨sa, cap, b, o, rfl, _⟩ := h2
  generalize nd X = nX at *
  clear h0 h1 hw2 m1 h0V h1V hwV
  go_wp2
  refine bodyPost_ret (v := .tuple #[.slice none 0 0, .slice sa nX cap]) (by simp [results, Tryz.results77, go_sem, c0, c1]) rfl ⟨⟨_, _, rfl, mag_zero _, HM.out⟩, by rw [hD]; exact HW.out⟩
theorem divM_one (sx : Option Addr) (cx bx ox X : Nat) (sy : Option Addr) (cpy by_ oy Y : Nat) (h1y : nd Y = 1) (hl : 1 ≤ nd X) (w : World) (hx : Row w sx (nd X) cx bx ox X) (hy : Row w sy (nd Y) cpy by_ oy Y) (hn : nd X ≤ 1000000) :
    Calls Tryz.prog 77 #[.slice sx (nd X) cx, .slice sy (nd Y) cpy] w fun e w' => (∃ v1 v2, e = .returned (.tuple #[v1, v2]) ∧ Mag w' v1 (X / Y) ∧ Mag w' v2 (X % Y)) ∧ Below w.heap.size w w' := by
  rw [h1y] at hy ⊢
  have hY0 : 0 < Y := by
    rcases Nat.eq_zero_or_pos Y with h | h
    · rw [h, nd_zero] at h1y; omega
    · exact h
  have hYl : Y < 1000000000 := by have := hy.fits; rw [Nat.pow_one] at this; exact this
  have hd0 : dg Y 0 = Y := by unfold dg Im.dg; rw [Nat.pow_zero, Nat.div_one]; exact Nat.mod_eq_of_lt hYl
  have cy := hy.cell 0 (by omega)
  rw [hd0, Nat.add_zero] at cy
  have hbl := hy.lt (by omega)
  have hcpy := hy.cap
  obtain rfl := hy.at_ (by omega)
  have BP := Lib.hid (fun W (hb : Below w.heap.size w W) => byPiece_any sx (nd X) cx bx ox X Y hY0 hYl W (hx.below hb (Nat.le_refl _)) hn)
  have hml := Nat.mod_lt X hY0
  have hc1 : ¬ ((nd X : Nat) : Int) < 1 := by omega
  obtain ⟨R, hR⟩ : ∃ R, X % Y = R := ⟨_, rfl⟩
  rw [hR] at BP hml ⊢
  have hR9 : R < 1000000000 := by omega
  have TR := Lib.hid (fun W => trimmed_any (some ⟨W.heap.size, 0, none⟩) 1 1 W.heap.size 0 R (W.alloc (.cells #[.int .u64 (R : Nat)] 106)) (row_piece W hR9) (by omega))
  have TM := Lib.hid (fun W => show Mag (W.alloc (.cells #[.int .u64 (R : Nat)] 106)) (.slice (some ⟨W.heap.size, 0, none⟩) (nd R) 1) R from ⟨_, _, W.heap.size, 0, rfl, (row_piece W hR9).trim⟩)
  clear hx hy hd0 hR hml
  generalize nd X = nx at *
  obtain ⟨D, hD⟩ : ∃ D, w.heap.size = D := ⟨_, rfl⟩
  have hlx : ¬ (nx : Int) < 1 := by omega
  go_enter Tryz.func77, Tryz.ntmps77
  have cy2 := (((Below.refl _ w).alloc (Nat.le_refl _) (.cells #[.slice none 0 0] 78)).alloc (by simp) (.cells #[.slice none 0 0] 78)).cell (p := ⟨by_, oy, none⟩) hbl |>.trans cy
  go_wp2_with fail
  obtain ⟨V, hV⟩ : ∃ V, ((w.alloc (.cells #[.slice none 0 0] 78)).alloc (.cells #[.slice none 0 0] 78)) = V := ⟨_, rfl⟩
  have hwV : Below D w V := by rw [← hV]; exact ((Below.refl _ w).alloc (by omega) _).alloc (by simp; omega) _
  have h0V : V.heap[D]? = some (.cells #[.slice none 0 0] 78) := by rw [← hV]; exact heap_up (heap_at hD.symm)
  have h1V : V.heap[D + 1]? = some (.cells #[.slice none 0 0] 78) := by rw [← hV]; exact heap_at (by simp [hD])
  have hzV : V.heap.size = D + 2 := by rw [← hV]; simp [hD]
  rw [hV]
  clear hV cy2 cy
  refine (BP.out V (by rw [hD]; exact hwV)).mono ?_
  rintro e w2 ⟨⟨v2, rfl, h2⟩, hb2⟩
  obtain ⟨sa, cap, b, o, rfl, hr2⟩ := h2
  go_wp2_with fail
  have hba : Below V.heap.size V (w2.alloc (.cells #[.int .u64 (R : Nat)] 106)) := hb2.alloc hb2.size _
  have h0 := (hba.block D (by omega)).trans h0V
  have h1 := (hba.block (D + 1) (by omega)).trans h1V
  have hw2 := hwV.trans (hba.mono (by omega))
  have hQ : Mag (w2.alloc (.cells #[.int .u64 (R : Nat)] 106)) (.slice sa (nd (X / Y)) cap) (X / Y) := ⟨sa, cap, b, o, rfl, hr2.below ((Below.refl _ _).alloc (Nat.le_refl _) _) (Nat.le_refl _)⟩
  have hRm := TM.out w2
  refine (TR.out w2).mono ?_
  rintro e w3 ⟨rfl, hw3⟩
  subst w3
  obtain ⟨E, hE⟩ : ∃ E, w2.heap.size = E := ⟨_, rfl⟩
  rw [hE] at hRm ⊢
  have hEV : D + 2 ≤ E := by have := hb2.size; omega
  generalize w2.alloc (.cells #[.int .u64 (R : Nat)] 106) = A at *
  have c0 := cell_one h0
  have f0 := free_one h0
  have c1 := cell_one h1
  have f1 := free_one h1
  have HM1 := Lib.hid (show Mag ((A.setCell ⟨D, 0, none⟩ (.slice sa (nd (X / Y)) cap)).setCell ⟨D + 1, 0, none⟩ (.slice (some ⟨E, 0, none⟩) (nd R) 1)) (.slice sa (nd (X / Y)) cap) (X / Y) from mag_set (mag_set hQ h0 (fun i e => by cases e) _) ((set_else (by omega)).trans h1) (fun i e => by cases e) _)
  have HM2 := Lib.hid (show Mag ((A.setCell ⟨D, 0, none⟩ (.slice sa (nd (X / Y)) cap)).setCell ⟨D + 1, 0, none⟩ (.slice (some ⟨E, 0, none⟩) (nd R) 1)) (.slice (some ⟨E, 0, none⟩) (nd R) 1) R from mag_set (mag_set hRm h0 (fun i e => by cases e) _) ((set_else (by omega)).trans h1) (fun i e => by cases e) _)
  have HW := Lib.hid ((hw2.setCell (p := ⟨D, 0, none⟩) (by simp) (.slice sa (nd (X / Y)) cap)).setCell (p := ⟨D + 1, 0, none⟩) (by simp) (.slice (some ⟨E, 0, none⟩) (nd R) 1))
  generalize nd (X / Y) = nq at *
  generalize nd R = nr at *
  clear h0 h1 hw2 hQ hRm h0V h1V hwV hr2 hba hb2 TR TM BP hE
  go_wp2
  refine bodyPost_ret (v := .tuple #[.slice sa nq cap, .slice (some ⟨E, 0, none⟩) nr 1]) (by simp [results, Tryz.results77, go_sem, c0, c1]) rfl ⟨⟨_, _, rfl, HM1.out, HM2.out⟩, by rw [hD]; exact HW.out⟩
end Go.Proofs.YtnchodofgaaeeaaGreatDoor
