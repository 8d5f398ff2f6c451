/- subMagnitudes of zero. -/
import Derived.Test.YtbkbncapgljfaaaGreatDoorImM
import Derived.Test.YtbkbncapgljfaaaGreatDoorImI
namespace Go.Proofs.YtbkbncapgljfaaaGreatDoor
open Go Go.RowKit Go.Shelf

set_option maxRecDepth 100000 in
theorem clone_none (cx : Nat) (w : World) :
    Calls Tryz.prog 104 #[.slice none 0 cx] w fun e w' => (∃ sa cap, e = .returned (.slice sa 0 cap)) ∧ Below w.heap.size w w' := by
  have he : ∀ W : World, (binOp .eql 95 (.slice none 0 cx) (.slice none 0 0)).run Tryz.prog W = .ok (.bool true) W := fun _ => rfl
  go_enter Tryz.func104, Tryz.ntmps104
  go_wp2_with fail
  go_ret
  exact ⟨⟨_, _, rfl⟩, Below.refl _ _⟩
set_option maxRecDepth 100000 in
theorem clone_empty (a : Addr) (cx : Nat) (w : World) :
    Calls Tryz.prog 104 #[.slice (some a) 0 cx] w fun e w' => (∃ sa cap, e = .returned (.slice sa 0 cap)) ∧ Below w.heap.size w w' := by
  obtain ⟨i0, hi0, hz0, hz1, hz2⟩ := info_parts info_u64
  have he : ∀ W : World, (binOp .eql 95 (.slice (some a) 0 cx) (.slice none 0 0)).run Tryz.prog W = .ok (.bool false) W := fun _ => rfl
  have hown : (w.alloc (.cells #[] 81)).ownsRow w.heap.size 81 1 (.slice (some ⟨w.heap.size, 0, none⟩) 0 0) 0 [] := ⟨rfl, .inr ⟨w.heap.size, 0, #[], rfl, Nat.le_refl _, World.alloc_heap_new w _, Nat.le_refl _, by unfold maxLen; omega, rfl, rfl⟩⟩
  have hnews : ∀ (j : Nat) (u : Value), ([] : List Value)[j]? = some u → (w.alloc (.cells #[] 81)).cell? (a.add j) = some u := fun j u hu => by simp at hu
  go_enter Tryz.func104, Tryz.ntmps104
  go_wp2_with (at_builtin; refine wpList_append_own _ rfl _ _ 95 rfl w.heap.size 81 i0 (.int .u64 0) 1 8 Tryz.underlying95 hi0 hz0 hz1 hz2 rfl (by decide) _ _ _ rfl hown a 0 cx [] rfl (by simp) hnews (by intro u hu; cases hu) (by unfold maxLen; omega) (by omega) (by simp) ?_; intro v' w6 hown' hgrow _)
  go_ret
  have hb : Below w.heap.size w w6 := ((Below.refl _ _).alloc (Nat.le_refl _) _).grown hgrow (by simp) (fun g hg => by have h2 : some w.heap.size = some g := hg; cases h2; exact Nat.le_refl _)
  rcases hown'.2 with ⟨rfl, _⟩ | ⟨g, cap, cur, rfl, _⟩
  · exact ⟨⟨_, _, rfl⟩, hb⟩
  · exact ⟨⟨_, _, rfl⟩, hb⟩

theorem sub_zero (sx : Option Addr) (cx : Nat) (sy : Option Addr) (cpy : Nat) (w : World) :
    Calls Tryz.prog 92 #[.slice sx 0 cx, .slice sy 0 cpy] w fun e w' => (∃ v, e = .returned v ∧ Mag w' v (0 - 0)) ∧ Below w.heap.size w w' := by
  have C : Calls Tryz.prog 104 #[.slice sx 0 cx] w fun e w' => (∃ sa cap, e = .returned (.slice sa 0 cap)) ∧ Below w.heap.size w w' := by
    cases sx with
    | none => exact clone_none cx w
    | some a => exact clone_empty a cx w
  have CC := Lib.hid C
  have hrow : ∀ (W : World) (sa : Option Addr) (cap : Nat), Row W sa 0 cap 0 0 0 := fun W sa cap => ⟨Nat.zero_le _, fun p => absurd p (Nat.lt_irrefl _), fun p => absurd p (Nat.lt_irrefl _), fun k hk => absurd hk (Nat.not_lt_zero _), by simp⟩
  have T := Lib.hid (fun sa cap W => by have := trimmed_any sa 0 cap 0 0 0 W (hrow W sa cap) (by omega); rw [nd_zero] at this; exact this)
  have S := Lib.hid (fun sa ca W => subT_zero sa sy ca 0 cpy 1 W)
  have HR := Lib.hid hrow
  clear C hrow
  go_enter Tryz.func92, Tryz.ntmps92
  go_wp2_with fail
  refine CC.out.mono ?_
  rintro e w1 ⟨⟨sa, cap, rfl⟩, hb1⟩
  go_wp2_with fail
  refine (S.out _ _ _).mono ?_
  rintro e w2 ⟨rfl, hww⟩
  subst w2
  go_wp2_with fail
  refine (T.out _ _ _).mono ?_
  rintro e w2 ⟨rfl, hww⟩
  subst w2
  go_wp2
  go_ret
  exact ⟨⟨_, rfl, sa, cap, 0, 0, by rw [nd_zero]; rfl, by rw [nd_zero]; exact HR.out _ _ _⟩, hb1⟩
end Go.Proofs.YtbkbncapgljfaaaGreatDoor
/- Contracts of plus and times. -/
namespace Go.Proofs.YtbkbncapgljfaaaGreatDoor
open Go Go.RowKit Go.Shelf

theorem cells_fst {W : World} {b : Nat} {c0 c1 : Value} {T : TypeId} (h : W.heap[b]? = some (.cells #[c0, c1] T)) : W.cell? ⟨b, 0, none⟩ = some c0 := by simp [World.cell?, h]
theorem cells_snd {W : World} {b : Nat} {c0 c1 : Value} {T : TypeId} (h : W.heap[b]? = some (.cells #[c0, c1] T)) : W.cell? ⟨b, 1, none⟩ = some c1 := by simp [World.cell?, h]
theorem cells_f0 {W : World} {b : Nat} {c0 c1 : Value} {T : TypeId} (h : W.heap[b]? = some (.cells #[c0, c1] T)) : W.frozen? ⟨b, 0, none⟩ = false := by simp [World.frozen?, h]
theorem cells_f1 {W : World} {b : Nat} {c0 c1 : Value} {T : TypeId} (h : W.heap[b]? = some (.cells #[c0, c1] T)) : W.frozen? ⟨b, 1, none⟩ = false := by simp [World.frozen?, h]
theorem set_two {W : World} {b : Nat} {c0 c1 x y : Value} {T : TypeId} (h : W.heap[b]? = some (.cells #[c0, c1] T)) : ((W.setCell ⟨b, 0, none⟩ x).setCell ⟨b, 1, none⟩ y).heap[b]? = some (.cells #[x, y] T) := by
  simp only [World.setCell, Array.getElem?_modify, if_true, h, Option.map_some]
  rfl
theorem set_two_else {W : World} {b b' : Nat} {x y : Value} (h : b' ≠ b) : ((W.setCell ⟨b, 0, none⟩ x).setCell ⟨b, 1, none⟩ y).heap[b']? = W.heap[b']? :=
  (Below.heap_setCell _ _ _ _ (by simpa using h)).trans (Below.heap_setCell _ _ _ _ (by simpa using h))
theorem row_ne {W : World} {sa : Option Addr} {n cap b o x q : Nat} {c : Bool} {a1 : Option Addr} {a2 a3 : Nat} {T : TypeId} (h : Row W sa n cap b o x) (hq : W.heap[q]? = some (.cells #[.bool c, .slice a1 a2 a3] T)) : 0 < n → b ≠ q := fun h0 e => by
  subst e
  have h1 := h.cell 0 h0
  simp [World.cell?, hq] at h1
  rcases o with _ | _ | o
  · simp at h1
  · simp at h1
  · simp at h1

def plI (D : Nat) (n1 _n2 : Bool) (s1 s2 : Value) (m : Nat) : Nat → Value → World → Prop
  | 0, v, _ => v = .pointer (some ⟨D, 0, none⟩)
  | 1, v, _ => v = .bool n1
  | 2, v, _ => v = .pointer (some ⟨D, 1, none⟩)
  | 3, v, _ => v = s1
  | 4, v, _ => v = .pointer (some ⟨D + 1, 1, none⟩)
  | 5, v, _ => v = s2
  | 6, v, A => Mag A v m
  | 7, v, A => ∃ p, v = .agg #[.bool n1, p] ∧ Mag A p m
  | _, _, _ => True
theorem plI_up (D : Nat) (n1 n2 : Bool) (s1 s2 : Value) (m : Nat) : ∀ (j : Nat) (v : Value) (A B : World), Below A.heap.size A B → plI D n1 n2 s1 s2 m j v A → plI D n1 n2 s1 s2 m j v B
  | 0, _, _, _, _, h => h
  | 1, _, _, _, _, h => h
  | 2, _, _, _, _, h => h
  | 3, _, _, _, _, h => h
  | 4, _, _, _, _, h => h
  | 5, _, _, _, _, h => h
  | 6, _, _, _, hb, h => Mag.below h hb (Nat.le_refl _)
  | 7, _, _, _, hb, ⟨p, h1, h2⟩ => ⟨p, h1, Mag.below h2 hb (Nat.le_refl _)⟩
  | _ + 8, _, _, _, _, _ => trivial
def tmI (D : Nat) (n1 n2 : Bool) (s1 s2 : Value) (m : Nat) : Nat → Value → World → Prop
  | 0, v, _ => v = .pointer (some ⟨D, 0, none⟩)
  | 1, v, _ => v = .bool n1
  | 2, v, _ => v = .pointer (some ⟨D + 1, 0, none⟩)
  | 3, v, _ => v = .bool n2
  | 4, v, _ => v = .bool (n1 != n2)
  | 5, v, _ => v = .pointer (some ⟨D, 1, none⟩)
  | 6, v, _ => v = s1
  | 7, v, _ => v = .pointer (some ⟨D + 1, 1, none⟩)
  | 8, v, _ => v = s2
  | 9, v, A => Mag A v m
  | 10, v, A => ∃ p, v = .agg #[.bool (n1 != n2), p] ∧ Mag A p m
  | _, _, _ => True
theorem tmI_up (D : Nat) (n1 n2 : Bool) (s1 s2 : Value) (m : Nat) : ∀ (j : Nat) (v : Value) (A B : World), Below A.heap.size A B → tmI D n1 n2 s1 s2 m j v A → tmI D n1 n2 s1 s2 m j v B
  | 0, _, _, _, _, h => h
  | 1, _, _, _, _, h => h
  | 2, _, _, _, _, h => h
  | 3, _, _, _, _, h => h
  | 4, _, _, _, _, h => h
  | 5, _, _, _, _, h => h
  | 6, _, _, _, _, h => h
  | 7, _, _, _, _, h => h
  | 8, _, _, _, _, h => h
  | 9, _, _, _, hb, h => Mag.below h hb (Nat.le_refl _)
  | 10, _, _, _, hb, ⟨p, h1, h2⟩ => ⟨p, h1, Mag.below h2 hb (Nat.le_refl _)⟩
  | _ + 11, _, _, _, _, _ => trivial

theorem add_any (sx : Option Addr) (cx bx ox x : Nat) (sy : Option Addr) (cpy by_ oy y : Nat) (w : World) (hx : Row w sx (nd x) cx bx ox x) (hy : Row w sy (nd y) cpy by_ oy y) (hnx : nd x ≤ 1000000) (hny : nd y ≤ 1000000) :
    Calls Tryz.prog 90 #[.slice sx (nd x) cx, .slice sy (nd y) cpy] w fun e w' => (∃ v, e = .returned v ∧ Mag w' v (x + y)) ∧ Below w.heap.size w w' := by
  by_cases h : nd x < nd y
  · exact add_swap sx cx bx ox x sy cpy by_ oy y h w hx hy hny
  · exact add_core sx cx bx ox x sy cpy by_ oy y (by omega) w hx hy hnx

theorem sub_any (sx : Option Addr) (cx bx ox x : Nat) (sy : Option Addr) (cpy by_ oy y : Nat) (w : World) (hx : Row w sx (nd x) cx bx ox x) (hy : Row w sy (nd y) cpy by_ oy y) (hle : y ≤ x) (hn : nd x ≤ 1000000) :
    Calls Tryz.prog 92 #[.slice sx (nd x) cx, .slice sy (nd y) cpy] w fun e w' => (∃ v, e = .returned v ∧ Mag w' v (x - y)) ∧ Below w.heap.size w w' := by
  rcases Nat.eq_zero_or_pos (nd x) with h0 | h0
  · have hx0 : x = 0 := nd_pos_iff.1 h0
    subst hx0
    obtain rfl : y = 0 := by omega
    rw [nd_zero]
    exact sub_zero sx cx sy cpy w
  · obtain rfl := hx.at_ h0
    exact sub_core bx ox cx x sy cpy by_ oy y w hx h0 hy hle hn

set_option maxRecDepth 100000 in
set_option maxHeartbeats 4000000 in
theorem times_core (n1 n2 : Bool) (sx : Option Addr) (cx bx ox x : Nat) (sy : Option Addr) (cpy by_ oy y : Nat) (w : World) (hx : Row w sx (nd x) cx bx ox x) (hy : Row w sy (nd y) cpy by_ oy y) (hnx : nd x ≤ 500000) (hny : nd y ≤ 500000) :
    Calls Tryz.prog 66 #[.agg #[.bool n1, .slice sx (nd x) cx], .agg #[.bool n2, .slice sy (nd y) cpy]] w fun e w' => (∃ v, e = .returned v ∧ Num w' v (sv (n1 != n2) (x * y))) ∧ Below w.heap.size w w' := by
  have CALL := Lib.hid (fun W (hb : Below w.heap.size w W) => mul_any sx cx bx ox x sy cpy by_ oy y W (hx.below hb (Nat.le_refl _)) (hy.below hb (Nat.le_refl _)) (by omega))
  have LESS := Lib.hid (fun W (hb : Below w.heap.size w W) => less_any sx cx bx ox x sy cpy by_ oy y W (hx.below hb (Nat.le_refl _)) (hy.below hb (Nat.le_refl _)) (by omega))
  clear hx hy
  generalize nd x = nx at *
  generalize nd y = ny at *
  obtain ⟨D, hD⟩ : ∃ D, w.heap.size = D := ⟨_, rfl⟩
  go_enter Tryz.func66, Tryz.ntmps66
  go_wp2_with fail
  obtain ⟨W0, hW0⟩ : ∃ W0, (((w.alloc (.cells #[.bool n1, .slice sx nx cx] 97)).alloc (.cells #[.bool n2, .slice sy ny cpy] 97)).alloc (.cells #[.bool false, .slice none 0 0] 97)) = W0 := ⟨_, rfl⟩
  have hw0 : Below D w W0 := by rw [← hW0]; exact (((Below.refl _ _).alloc (by omega) _).alloc (by simp; omega) _).alloc (by simp; omega) _
  have h0x : W0.heap[D]? = some (.cells #[.bool n1, .slice sx nx cx] 97) := by rw [← hW0]; exact heap_up (heap_up (heap_at hD.symm))
  have h0y : W0.heap[D + 1]? = some (.cells #[.bool n2, .slice sy ny cpy] 97) := by rw [← hW0]; exact heap_up (heap_at (by simp [hD]))
  have h0r : W0.heap[D + 2]? = some (.cells #[.bool false, .slice none 0 0] 97) := by rw [← hW0]; exact heap_at (by simp [hD])
  have hz0 : W0.heap.size = D + 3 := by rw [← hW0]; simp [hD]
  rw [hW0]
  clear hW0
  have HW := Lib.hid hw0
  have HRes := Lib.hid h0r
  have Kx0 := Lib.hid (cells_fst h0x)
  have Kx1 := Lib.hid (cells_snd h0x)
  have Ky0 := Lib.hid (cells_fst h0y)
  have Ky1 := Lib.hid (cells_snd h0y)
  refine wp_region_slots_at rfl rfl (fun base ys => ((((((((((base.set 5 (ys 0)).set 6 (ys 1)).set 7 (ys 2)).set 8 (ys 3)).set 9 (ys 4)).set 10 (ys 5)).set 11 (ys 6)).set 12 (ys 7)).set 13 (ys 8)).set 14 (ys 9)).set 15 (ys 10)) (LastI _ (Below W0.heap.size W0) (tmI D n1 n2 (.slice sx nx cx) (.slice sy ny cpy) (x * y)) (fun A => ∃ sa cap b o, Below D w A ∧ A.heap[D + 2]? = some (.cells #[.bool (n1 != n2), .slice sa (nd (x * y)) cap] 97) ∧ Row A sa (nd (x * y)) cap b o (x * y))) (fun _ => undef) (by kernel_rfl) (last_start (by decide) ((Below.refl _ _).trans ⟨rfl, rfl, rfl, Nat.le_refl _, fun _ _ => rfl⟩)) ?h
  case h =>
    intro F hF
    simp only [List.set_cons_succ, List.set_cons_zero] at hF
    subst hF
    refine ⟨rfl, ?_, ?_⟩
    refine ⟨?_, ?_⟩
    · refine SlotStep.lastB (by kernel_rfl) rfl (by decide) (fun A B hb h => h.trans (hb.mono h.size)) (tmI_up D n1 n2 (.slice sx nx cx) (.slice sy ny cpy) (x * y)) ?_
      intro ys W hR hd K hK
      go_simp
      have hK2 := hK (.pointer (some ⟨D, 0, none⟩)) _ (Below.refl _ _) rfl
      simp (config := { decide := true }) only [upd, if_true, if_false] at hK2
      exact hK2
    refine ⟨?_, ?_⟩
    · refine SlotStep.lastB (by kernel_rfl) rfl (by decide) (fun A B hb h => h.trans (hb.mono h.size)) (tmI_up D n1 n2 (.slice sx nx cx) (.slice sy ny cpy) (x * y)) ?_
      intro ys W hR hd K hK
      have d0 : ys 0 = .pointer (some ⟨D, 0, none⟩) := hd 0 (by kernel_rfl) (by decide)
      have c0 := (hR.cell (p := ⟨D, 0, none⟩) (by show D < W0.heap.size; omega)).trans Kx0.out
      go_simp
      have hK2 := hK (.bool n1) _ (Below.refl _ _) rfl
      simp (config := { decide := true }) only [upd, if_true, if_false, d0] at hK2
      exact hK2
    refine ⟨?_, ?_⟩
    · refine SlotStep.lastB (by kernel_rfl) rfl (by decide) (fun A B hb h => h.trans (hb.mono h.size)) (tmI_up D n1 n2 (.slice sx nx cx) (.slice sy ny cpy) (x * y)) ?_
      intro ys W hR hd K hK
      go_simp
      have hK2 := hK (.pointer (some ⟨D + 1, 0, none⟩)) _ (Below.refl _ _) rfl
      simp (config := { decide := true }) only [upd, if_true, if_false] at hK2
      exact hK2
    refine ⟨?_, ?_⟩
    · refine SlotStep.lastB (by kernel_rfl) rfl (by decide) (fun A B hb h => h.trans (hb.mono h.size)) (tmI_up D n1 n2 (.slice sx nx cx) (.slice sy ny cpy) (x * y)) ?_
      intro ys W hR hd K hK
      have d2 : ys 2 = .pointer (some ⟨D + 1, 0, none⟩) := hd 2 (by kernel_rfl) (by decide)
      have c0 := (hR.cell (p := ⟨D + 1, 0, none⟩) (by show D + 1 < W0.heap.size; omega)).trans Ky0.out
      go_simp
      have hK2 := hK (.bool n2) _ (Below.refl _ _) rfl
      simp (config := { decide := true }) only [upd, if_true, if_false, d2] at hK2
      exact hK2
    refine ⟨?_, ?_⟩
    · refine SlotStep.lastB (by kernel_rfl) rfl (by decide) (fun A B hb h => h.trans (hb.mono h.size)) (tmI_up D n1 n2 (.slice sx nx cx) (.slice sy ny cpy) (x * y)) ?_
      intro ys W hR hd K hK
      have d1 : ys 1 = .bool n1 := hd 1 (by kernel_rfl) (by decide)
      have d3 : ys 3 = .bool n2 := hd 3 (by kernel_rfl) (by decide)
      go_simp
      have hK2 := hK (.bool (n1 != n2)) _ (Below.refl _ _) rfl
      simp (config := { decide := true }) only [upd, if_true, if_false, d1, d3] at hK2
      exact hK2
    refine ⟨?_, ?_⟩
    · refine SlotStep.lastB (by kernel_rfl) rfl (by decide) (fun A B hb h => h.trans (hb.mono h.size)) (tmI_up D n1 n2 (.slice sx nx cx) (.slice sy ny cpy) (x * y)) ?_
      intro ys W hR hd K hK
      go_simp
      have hK2 := hK (.pointer (some ⟨D, 1, none⟩)) _ (Below.refl _ _) rfl
      simp (config := { decide := true }) only [upd, if_true, if_false] at hK2
      exact hK2
    refine ⟨?_, ?_⟩
    · refine SlotStep.lastB (by kernel_rfl) rfl (by decide) (fun A B hb h => h.trans (hb.mono h.size)) (tmI_up D n1 n2 (.slice sx nx cx) (.slice sy ny cpy) (x * y)) ?_
      intro ys W hR hd K hK
      have d5 : ys 5 = .pointer (some ⟨D, 1, none⟩) := hd 5 (by kernel_rfl) (by decide)
      have c0 := (hR.cell (p := ⟨D, 1, none⟩) (by show D < W0.heap.size; omega)).trans Kx1.out
      go_simp
      have hK2 := hK (.slice sx nx cx) _ (Below.refl _ _) rfl
      simp (config := { decide := true }) only [upd, if_true, if_false, d5] at hK2
      exact hK2
    refine ⟨?_, ?_⟩
    · refine SlotStep.lastB (by kernel_rfl) rfl (by decide) (fun A B hb h => h.trans (hb.mono h.size)) (tmI_up D n1 n2 (.slice sx nx cx) (.slice sy ny cpy) (x * y)) ?_
      intro ys W hR hd K hK
      go_simp
      have hK2 := hK (.pointer (some ⟨D + 1, 1, none⟩)) _ (Below.refl _ _) rfl
      simp (config := { decide := true }) only [upd, if_true, if_false] at hK2
      exact hK2
    refine ⟨?_, ?_⟩
    · refine SlotStep.lastB (by kernel_rfl) rfl (by decide) (fun A B hb h => h.trans (hb.mono h.size)) (tmI_up D n1 n2 (.slice sx nx cx) (.slice sy ny cpy) (x * y)) ?_
      intro ys W hR hd K hK
      have d7 : ys 7 = .pointer (some ⟨D + 1, 1, none⟩) := hd 7 (by kernel_rfl) (by decide)
      have c0 := (hR.cell (p := ⟨D + 1, 1, none⟩) (by show D + 1 < W0.heap.size; omega)).trans Ky1.out
      go_simp
      have hK2 := hK (.slice sy ny cpy) _ (Below.refl _ _) rfl
      simp (config := { decide := true }) only [upd, if_true, if_false, d7] at hK2
      exact hK2
    refine ⟨?_, ?_⟩
    · refine SlotStep.lastB (by kernel_rfl) rfl (by decide) (fun A B hb h => h.trans (hb.mono h.size)) (tmI_up D n1 n2 (.slice sx nx cx) (.slice sy ny cpy) (x * y)) ?_
      intro ys W hR hd K hK
      have d6 : ys 6 = .slice sx nx cx := hd 6 (by kernel_rfl) (by decide)
      have d8 : ys 8 = .slice sy ny cpy := hd 8 (by kernel_rfl) (by decide)
      go_simp
      refine (CALL.out W (hD ▸ (HW.out.trans (hR.mono (by omega))))).mono ?_
      rintro e w5 ⟨⟨v5, rfl, hm5⟩, hb5⟩
      have hK2 := hK v5 _ hb5 hm5
      simp (config := { decide := true }) only [upd, if_true, if_false, d6, d8] at hK2
      exact hK2
    refine ⟨?_, ?_⟩
    · refine SlotStep.lastB (by kernel_rfl) rfl (by decide) (fun A B hb h => h.trans (hb.mono h.size)) (tmI_up D n1 n2 (.slice sx nx cx) (.slice sy ny cpy) (x * y)) ?_
      intro ys W hR hd K hK
      have d4 : ys 4 = .bool (n1 != n2) := hd 4 (by kernel_rfl) (by decide)
      obtain ⟨sa, cap, b, o, hv, hrow⟩ : Mag W (ys 9) _ := hd 9 (by kernel_rfl) (by decide)
      go_simp
      have hK2 := hK (.agg #[.bool (n1 != n2), ys 9]) _ (Below.refl _ _) ⟨_, rfl, sa, cap, b, o, hv, hrow⟩
      simp (config := { decide := true }) only [upd, if_true, if_false, d4, hv] at hK2
      exact hK2
    refine ⟨?_, ?_⟩
    · refine SlotStep.lastS rfl rfl ?_
      intro ys W hR hd K hK
      obtain ⟨pv, hv, sa, cap, b, o, rfl, hrow⟩ : ∃ p, ys 10 = .agg #[.bool (n1 != n2), p] ∧ Mag W p _ := hd 10 (by kernel_rfl) (by decide)
      have hh := (hR.block (D + 2) (by omega)).trans HRes.out
      have f0 := cells_f0 hh
      have f1 := cells_f1 hh
      have g0 := cells_fst hh
      have g1 := cells_snd hh
      have hne := row_ne hrow hh
      go_simp
      have hK2 := hK undef _ ⟨sa, cap, b, o, HW.out.trans (((hR.mono (by omega)).setCell (p := ⟨D + 2, 0, none⟩) (by simp) _).setCell (p := ⟨D + 2, 1, none⟩) (by simp) _), set_two hh, (hrow.set ⟨D + 2, 0, none⟩ hne _).set ⟨D + 2, 1, none⟩ hne _⟩
      simp (config := { decide := true }) only [upd, if_false, hv] at hK2
      exact hK2
    trivial
    · intro L ys W hL hI
      obtain ⟨sa, cap, b, o, hb, hh, hrow⟩ := last_end (by decide) hL hI
      have r0 := cells_fst hh
      have r1 := cells_snd hh
      go_simp
      go_wp2
      refine bodyPost_ret (v := .agg #[.bool (n1 != n2), .slice sa _ cap]) (by simp [results, Tryz.results66, go_sem, r0, r1]) rfl ⟨⟨_, rfl, num_mk hrow⟩, by rw [hD]; exact hb⟩
set_option maxRecDepth 100000 in
set_option maxHeartbeats 4000000 in
theorem plus_same (n1 n2 : Bool) (sx : Option Addr) (cx bx ox x : Nat) (sy : Option Addr) (cpy by_ oy y : Nat) (hs : n1 = n2) (w : World) (hx : Row w sx (nd x) cx bx ox x) (hy : Row w sy (nd y) cpy by_ oy y) (hnx : nd x ≤ 1000000) (hny : nd y ≤ 1000000) :
    Calls Tryz.prog 71 #[.agg #[.bool n1, .slice sx (nd x) cx], .agg #[.bool n2, .slice sy (nd y) cpy]] w fun e w' => (∃ v, e = .returned v ∧ Num w' v (sv n1 (x + y))) ∧ Below w.heap.size w w' := by
  have CALL := Lib.hid (fun W (hb : Below w.heap.size w W) => add_any sx cx bx ox x sy cpy by_ oy y W (hx.below hb (Nat.le_refl _)) (hy.below hb (Nat.le_refl _)) (by omega) (by omega))
  have LESS := Lib.hid (fun W (hb : Below w.heap.size w W) => less_any sx cx bx ox x sy cpy by_ oy y W (hx.below hb (Nat.le_refl _)) (hy.below hb (Nat.le_refl _)) (by omega))
  clear hx hy
  generalize nd x = nx at *
  generalize nd y = ny at *
  obtain ⟨D, hD⟩ : ∃ D, w.heap.size = D := ⟨_, rfl⟩
  subst hs
  go_enter Tryz.func71, Tryz.ntmps71
  go_wp2_with fail
  obtain ⟨W0, hW0⟩ : ∃ W0, (((w.alloc (.cells #[.bool n1, .slice sx nx cx] 97)).alloc (.cells #[.bool n1, .slice sy ny cpy] 97)).alloc (.cells #[.bool false, .slice none 0 0] 97)) = W0 := ⟨_, rfl⟩
  have hw0 : Below D w W0 := by rw [← hW0]; exact (((Below.refl _ _).alloc (by omega) _).alloc (by simp; omega) _).alloc (by simp; omega) _
  have h0x : W0.heap[D]? = some (.cells #[.bool n1, .slice sx nx cx] 97) := by rw [← hW0]; exact heap_up (heap_up (heap_at hD.symm))
  have h0y : W0.heap[D + 1]? = some (.cells #[.bool n1, .slice sy ny cpy] 97) := by rw [← hW0]; exact heap_up (heap_at (by simp [hD]))
  have h0r : W0.heap[D + 2]? = some (.cells #[.bool false, .slice none 0 0] 97) := by rw [← hW0]; exact heap_at (by simp [hD])
  have hz0 : W0.heap.size = D + 3 := by rw [← hW0]; simp [hD]
  rw [hW0]
  clear hW0
  have HW := Lib.hid hw0
  have HRes := Lib.hid h0r
  have Kx0 := Lib.hid (cells_fst h0x)
  have Kx1 := Lib.hid (cells_snd h0x)
  have Ky0 := Lib.hid (cells_fst h0y)
  have Ky1 := Lib.hid (cells_snd h0y)
  refine wp_region_slots_at rfl rfl (fun base ys => (((((((base.set 10 (ys 0)).set 11 (ys 1)).set 12 (ys 2)).set 13 (ys 3)).set 14 (ys 4)).set 15 (ys 5)).set 16 (ys 6)).set 17 (ys 7)) (LastI _ (Below W0.heap.size W0) (plI D n1 n1 (.slice sx nx cx) (.slice sy ny cpy) (x + y)) (fun A => ∃ sa cap b o, Below D w A ∧ A.heap[D + 2]? = some (.cells #[.bool n1, .slice sa (nd (x + y)) cap] 97) ∧ Row A sa (nd (x + y)) cap b o (x + y))) (fun _ => undef) (by kernel_rfl) (last_start (by decide) ((Below.refl _ _).trans ⟨rfl, rfl, rfl, Nat.le_refl _, fun _ _ => rfl⟩)) ?h
  case h =>
    intro F hF
    simp only [List.set_cons_succ, List.set_cons_zero] at hF
    subst hF
    refine ⟨rfl, ?_, ?_⟩
    refine ⟨?_, ?_⟩
    · refine SlotStep.lastB (by kernel_rfl) rfl (by decide) (fun A B hb h => h.trans (hb.mono h.size)) (plI_up D n1 n1 (.slice sx nx cx) (.slice sy ny cpy) (x + y)) ?_
      intro ys W hR hd K hK
      go_simp
      have hK2 := hK (.pointer (some ⟨D, 0, none⟩)) _ (Below.refl _ _) rfl
      simp (config := { decide := true }) only [upd, if_true, if_false] at hK2
      exact hK2
    refine ⟨?_, ?_⟩
    · refine SlotStep.lastB (by kernel_rfl) rfl (by decide) (fun A B hb h => h.trans (hb.mono h.size)) (plI_up D n1 n1 (.slice sx nx cx) (.slice sy ny cpy) (x + y)) ?_
      intro ys W hR hd K hK
      have d0 : ys 0 = .pointer (some ⟨D, 0, none⟩) := hd 0 (by kernel_rfl) (by decide)
      have c0 := (hR.cell (p := ⟨D, 0, none⟩) (by show D < W0.heap.size; omega)).trans Kx0.out
      go_simp
      have hK2 := hK (.bool n1) _ (Below.refl _ _) rfl
      simp (config := { decide := true }) only [upd, if_true, if_false, d0] at hK2
      exact hK2
    refine ⟨?_, ?_⟩
    · refine SlotStep.lastB (by kernel_rfl) rfl (by decide) (fun A B hb h => h.trans (hb.mono h.size)) (plI_up D n1 n1 (.slice sx nx cx) (.slice sy ny cpy) (x + y)) ?_
      intro ys W hR hd K hK
      go_simp
      have hK2 := hK (.pointer (some ⟨D, 1, none⟩)) _ (Below.refl _ _) rfl
      simp (config := { decide := true }) only [upd, if_true, if_false] at hK2
      exact hK2
    refine ⟨?_, ?_⟩
    · refine SlotStep.lastB (by kernel_rfl) rfl (by decide) (fun A B hb h => h.trans (hb.mono h.size)) (plI_up D n1 n1 (.slice sx nx cx) (.slice sy ny cpy) (x + y)) ?_
      intro ys W hR hd K hK
      have d2 : ys 2 = .pointer (some ⟨D, 1, none⟩) := hd 2 (by kernel_rfl) (by decide)
      have c0 := (hR.cell (p := ⟨D, 1, none⟩) (by show D < W0.heap.size; omega)).trans Kx1.out
      go_simp
      have hK2 := hK (.slice sx nx cx) _ (Below.refl _ _) rfl
      simp (config := { decide := true }) only [upd, if_true, if_false, d2] at hK2
      exact hK2
    refine ⟨?_, ?_⟩
    · refine SlotStep.lastB (by kernel_rfl) rfl (by decide) (fun A B hb h => h.trans (hb.mono h.size)) (plI_up D n1 n1 (.slice sx nx cx) (.slice sy ny cpy) (x + y)) ?_
      intro ys W hR hd K hK
      go_simp
      have hK2 := hK (.pointer (some ⟨D + 1, 1, none⟩)) _ (Below.refl _ _) rfl
      simp (config := { decide := true }) only [upd, if_true, if_false] at hK2
      exact hK2
    refine ⟨?_, ?_⟩
    · refine SlotStep.lastB (by kernel_rfl) rfl (by decide) (fun A B hb h => h.trans (hb.mono h.size)) (plI_up D n1 n1 (.slice sx nx cx) (.slice sy ny cpy) (x + y)) ?_
      intro ys W hR hd K hK
      have d4 : ys 4 = .pointer (some ⟨D + 1, 1, none⟩) := hd 4 (by kernel_rfl) (by decide)
      have c0 := (hR.cell (p := ⟨D + 1, 1, none⟩) (by show D + 1 < W0.heap.size; omega)).trans Ky1.out
      go_simp
      have hK2 := hK (.slice sy ny cpy) _ (Below.refl _ _) rfl
      simp (config := { decide := true }) only [upd, if_true, if_false, d4] at hK2
      exact hK2
    refine ⟨?_, ?_⟩
    · refine SlotStep.lastB (by kernel_rfl) rfl (by decide) (fun A B hb h => h.trans (hb.mono h.size)) (plI_up D n1 n1 (.slice sx nx cx) (.slice sy ny cpy) (x + y)) ?_
      intro ys W hR hd K hK
      have d3 : ys 3 = .slice sx nx cx := hd 3 (by kernel_rfl) (by decide)
      have d5 : ys 5 = .slice sy ny cpy := hd 5 (by kernel_rfl) (by decide)
      go_simp
      refine (CALL.out W (hD ▸ (HW.out.trans (hR.mono (by omega))))).mono ?_
      rintro e w5 ⟨⟨v5, rfl, hm5⟩, hb5⟩
      have hK2 := hK v5 _ hb5 hm5
      simp (config := { decide := true }) only [upd, if_true, if_false, d3, d5] at hK2
      exact hK2
    refine ⟨?_, ?_⟩
    · refine SlotStep.lastB (by kernel_rfl) rfl (by decide) (fun A B hb h => h.trans (hb.mono h.size)) (plI_up D n1 n1 (.slice sx nx cx) (.slice sy ny cpy) (x + y)) ?_
      intro ys W hR hd K hK
      have d1 : ys 1 = .bool n1 := hd 1 (by kernel_rfl) (by decide)
      obtain ⟨sa, cap, b, o, hv, hrow⟩ : Mag W (ys 6) _ := hd 6 (by kernel_rfl) (by decide)
      go_simp
      have hK2 := hK (.agg #[.bool n1, ys 6]) _ (Below.refl _ _) ⟨_, rfl, sa, cap, b, o, hv, hrow⟩
      simp (config := { decide := true }) only [upd, if_true, if_false, d1, hv] at hK2
      exact hK2
    refine ⟨?_, ?_⟩
    · refine SlotStep.lastS rfl rfl ?_
      intro ys W hR hd K hK
      obtain ⟨pv, hv, sa, cap, b, o, rfl, hrow⟩ : ∃ p, ys 7 = .agg #[.bool n1, p] ∧ Mag W p _ := hd 7 (by kernel_rfl) (by decide)
      have hh := (hR.block (D + 2) (by omega)).trans HRes.out
      have f0 := cells_f0 hh
      have f1 := cells_f1 hh
      have g0 := cells_fst hh
      have g1 := cells_snd hh
      have hne := row_ne hrow hh
      go_simp
      have hK2 := hK undef _ ⟨sa, cap, b, o, HW.out.trans (((hR.mono (by omega)).setCell (p := ⟨D + 2, 0, none⟩) (by simp) _).setCell (p := ⟨D + 2, 1, none⟩) (by simp) _), set_two hh, (hrow.set ⟨D + 2, 0, none⟩ hne _).set ⟨D + 2, 1, none⟩ hne _⟩
      simp (config := { decide := true }) only [upd, if_false, hv] at hK2
      exact hK2
    trivial
    · intro L ys W hL hI
      obtain ⟨sa, cap, b, o, hb, hh, hrow⟩ := last_end (by decide) hL hI
      have r0 := cells_fst hh
      have r1 := cells_snd hh
      go_simp
      go_wp2
      refine bodyPost_ret (v := .agg #[.bool n1, .slice sa _ cap]) (by simp [results, Tryz.results71, go_sem, r0, r1]) rfl ⟨⟨_, rfl, num_mk hrow⟩, by rw [hD]; exact hb⟩
set_option maxRecDepth 100000 in
set_option maxHeartbeats 4000000 in
theorem plus_ge (n1 n2 : Bool) (sx : Option Addr) (cx bx ox x : Nat) (sy : Option Addr) (cpy by_ oy y : Nat) (hs : n1 ≠ n2) (hl : ¬ x < y) (w : World) (hx : Row w sx (nd x) cx bx ox x) (hy : Row w sy (nd y) cpy by_ oy y) (hnx : nd x ≤ 1000000) (_hny : nd y ≤ 1000000) :
    Calls Tryz.prog 71 #[.agg #[.bool n1, .slice sx (nd x) cx], .agg #[.bool n2, .slice sy (nd y) cpy]] w fun e w' => (∃ v, e = .returned v ∧ Num w' v (sv n1 (x - y))) ∧ Below w.heap.size w w' := by
  have CALL := Lib.hid (fun W (hb : Below w.heap.size w W) => sub_any sx cx bx ox x sy cpy by_ oy y W (hx.below hb (Nat.le_refl _)) (hy.below hb (Nat.le_refl _)) (by omega) (by omega))
  have LESS := Lib.hid (fun W (hb : Below w.heap.size w W) => less_any sx cx bx ox x sy cpy by_ oy y W (hx.below hb (Nat.le_refl _)) (hy.below hb (Nat.le_refl _)) (by omega))
  clear hx hy
  generalize nd x = nx at *
  generalize nd y = ny at *
  obtain ⟨D, hD⟩ : ∃ D, w.heap.size = D := ⟨_, rfl⟩
  have hb0 : (n1 == n2) = false := by rw [beq_eq_false_iff_ne]; exact hs
  rw [show decide (x < y) = false by simpa using hl] at LESS
  clear hs hl
  go_enter Tryz.func71, Tryz.ntmps71
  go_wp2_with fail
  obtain ⟨W0, hW0⟩ : ∃ W0, (((w.alloc (.cells #[.bool n1, .slice sx nx cx] 97)).alloc (.cells #[.bool n2, .slice sy ny cpy] 97)).alloc (.cells #[.bool false, .slice none 0 0] 97)) = W0 := ⟨_, rfl⟩
  have hw0 : Below D w W0 := by rw [← hW0]; exact (((Below.refl _ _).alloc (by omega) _).alloc (by simp; omega) _).alloc (by simp; omega) _
  have h0x : W0.heap[D]? = some (.cells #[.bool n1, .slice sx nx cx] 97) := by rw [← hW0]; exact heap_up (heap_up (heap_at hD.symm))
  have h0y : W0.heap[D + 1]? = some (.cells #[.bool n2, .slice sy ny cpy] 97) := by rw [← hW0]; exact heap_up (heap_at (by simp [hD]))
  have h0r : W0.heap[D + 2]? = some (.cells #[.bool false, .slice none 0 0] 97) := by rw [← hW0]; exact heap_at (by simp [hD])
  have hz0 : W0.heap.size = D + 3 := by rw [← hW0]; simp [hD]
  rw [hW0]
  clear hW0
  refine (LESS.out W0 (hD ▸ hw0)).mono ?_
  rintro e w5 ⟨rfl, hb5⟩
  have hw5 := hw0.trans (hb5.mono (by omega))
  have h5x := (hb5.block D (by omega)).trans h0x
  have h5y := (hb5.block (D + 1) (by omega)).trans h0y
  have h5r := (hb5.block (D + 2) (by omega)).trans h0r
  have hz5 := hb5.size
  rw [hz0] at hz5
  clear hb5 hw0 h0x h0y h0r hz0 LESS
  go_wp2_with fail
  have HW := Lib.hid hw5
  have HRes := Lib.hid h5r
  have Kx0 := Lib.hid (cells_fst h5x)
  have Kx1 := Lib.hid (cells_snd h5x)
  have Ky0 := Lib.hid (cells_fst h5y)
  have Ky1 := Lib.hid (cells_snd h5y)
  refine wp_region_slots_at rfl rfl (fun base ys => (((((((base.set 25 (ys 0)).set 26 (ys 1)).set 27 (ys 2)).set 28 (ys 3)).set 29 (ys 4)).set 30 (ys 5)).set 31 (ys 6)).set 32 (ys 7)) (LastI _ (Below w5.heap.size w5) (plI D n1 n2 (.slice sx nx cx) (.slice sy ny cpy) (x - y)) (fun A => ∃ sa cap b o, Below D w A ∧ A.heap[D + 2]? = some (.cells #[.bool n1, .slice sa (nd (x - y)) cap] 97) ∧ Row A sa (nd (x - y)) cap b o (x - y))) (fun _ => undef) (by kernel_rfl) (last_start (by decide) ((Below.refl _ _).trans ⟨rfl, rfl, rfl, Nat.le_refl _, fun _ _ => rfl⟩)) ?h
  case h =>
    intro F hF
    simp only [List.set_cons_succ, List.set_cons_zero] at hF
    subst hF
    refine ⟨rfl, ?_, ?_⟩
    refine ⟨?_, ?_⟩
    · refine SlotStep.lastB (by kernel_rfl) rfl (by decide) (fun A B hb h => h.trans (hb.mono h.size)) (plI_up D n1 n2 (.slice sx nx cx) (.slice sy ny cpy) (x - y)) ?_
      intro ys W hR hd K hK
      go_simp
      have hK2 := hK (.pointer (some ⟨D, 0, none⟩)) _ (Below.refl _ _) rfl
      simp (config := { decide := true }) only [upd, if_true, if_false] at hK2
      exact hK2
    refine ⟨?_, ?_⟩
    · refine SlotStep.lastB (by kernel_rfl) rfl (by decide) (fun A B hb h => h.trans (hb.mono h.size)) (plI_up D n1 n2 (.slice sx nx cx) (.slice sy ny cpy) (x - y)) ?_
      intro ys W hR hd K hK
      have d0 : ys 0 = .pointer (some ⟨D, 0, none⟩) := hd 0 (by kernel_rfl) (by decide)
      have c0 := (hR.cell (p := ⟨D, 0, none⟩) (by show D < w5.heap.size; omega)).trans Kx0.out
      go_simp
      have hK2 := hK (.bool n1) _ (Below.refl _ _) rfl
      simp (config := { decide := true }) only [upd, if_true, if_false, d0] at hK2
      exact hK2
    refine ⟨?_, ?_⟩
    · refine SlotStep.lastB (by kernel_rfl) rfl (by decide) (fun A B hb h => h.trans (hb.mono h.size)) (plI_up D n1 n2 (.slice sx nx cx) (.slice sy ny cpy) (x - y)) ?_
      intro ys W hR hd K hK
      go_simp
      have hK2 := hK (.pointer (some ⟨D, 1, none⟩)) _ (Below.refl _ _) rfl
      simp (config := { decide := true }) only [upd, if_true, if_false] at hK2
      exact hK2
    refine ⟨?_, ?_⟩
    · refine SlotStep.lastB (by kernel_rfl) rfl (by decide) (fun A B hb h => h.trans (hb.mono h.size)) (plI_up D n1 n2 (.slice sx nx cx) (.slice sy ny cpy) (x - y)) ?_
      intro ys W hR hd K hK
      have d2 : ys 2 = .pointer (some ⟨D, 1, none⟩) := hd 2 (by kernel_rfl) (by decide)
      have c0 := (hR.cell (p := ⟨D, 1, none⟩) (by show D < w5.heap.size; omega)).trans Kx1.out
      go_simp
      have hK2 := hK (.slice sx nx cx) _ (Below.refl _ _) rfl
      simp (config := { decide := true }) only [upd, if_true, if_false, d2] at hK2
      exact hK2
    refine ⟨?_, ?_⟩
    · refine SlotStep.lastB (by kernel_rfl) rfl (by decide) (fun A B hb h => h.trans (hb.mono h.size)) (plI_up D n1 n2 (.slice sx nx cx) (.slice sy ny cpy) (x - y)) ?_
      intro ys W hR hd K hK
      go_simp
      have hK2 := hK (.pointer (some ⟨D + 1, 1, none⟩)) _ (Below.refl _ _) rfl
      simp (config := { decide := true }) only [upd, if_true, if_false] at hK2
      exact hK2
    refine ⟨?_, ?_⟩
    · refine SlotStep.lastB (by kernel_rfl) rfl (by decide) (fun A B hb h => h.trans (hb.mono h.size)) (plI_up D n1 n2 (.slice sx nx cx) (.slice sy ny cpy) (x - y)) ?_
      intro ys W hR hd K hK
      have d4 : ys 4 = .pointer (some ⟨D + 1, 1, none⟩) := hd 4 (by kernel_rfl) (by decide)
      have c0 := (hR.cell (p := ⟨D + 1, 1, none⟩) (by show D + 1 < w5.heap.size; omega)).trans Ky1.out
      go_simp
      have hK2 := hK (.slice sy ny cpy) _ (Below.refl _ _) rfl
      simp (config := { decide := true }) only [upd, if_true, if_false, d4] at hK2
      exact hK2
    refine ⟨?_, ?_⟩
    · refine SlotStep.lastB (by kernel_rfl) rfl (by decide) (fun A B hb h => h.trans (hb.mono h.size)) (plI_up D n1 n2 (.slice sx nx cx) (.slice sy ny cpy) (x - y)) ?_
      intro ys W hR hd K hK
      have d3 : ys 3 = .slice sx nx cx := hd 3 (by kernel_rfl) (by decide)
      have d5 : ys 5 = .slice sy ny cpy := hd 5 (by kernel_rfl) (by decide)
      go_simp
      refine (CALL.out W (hD ▸ (HW.out.trans (hR.mono (by omega))))).mono ?_
      rintro e w5 ⟨⟨v5, rfl, hm5⟩, hb5⟩
      have hK2 := hK v5 _ hb5 hm5
      simp (config := { decide := true }) only [upd, if_true, if_false, d3, d5] at hK2
      exact hK2
    refine ⟨?_, ?_⟩
    · refine SlotStep.lastB (by kernel_rfl) rfl (by decide) (fun A B hb h => h.trans (hb.mono h.size)) (plI_up D n1 n2 (.slice sx nx cx) (.slice sy ny cpy) (x - y)) ?_
      intro ys W hR hd K hK
      have d1 : ys 1 = .bool n1 := hd 1 (by kernel_rfl) (by decide)
      obtain ⟨sa, cap, b, o, hv, hrow⟩ : Mag W (ys 6) _ := hd 6 (by kernel_rfl) (by decide)
      go_simp
      have hK2 := hK (.agg #[.bool n1, ys 6]) _ (Below.refl _ _) ⟨_, rfl, sa, cap, b, o, hv, hrow⟩
      simp (config := { decide := true }) only [upd, if_true, if_false, d1, hv] at hK2
      exact hK2
    refine ⟨?_, ?_⟩
    · refine SlotStep.lastS rfl rfl ?_
      intro ys W hR hd K hK
      obtain ⟨pv, hv, sa, cap, b, o, rfl, hrow⟩ : ∃ p, ys 7 = .agg #[.bool n1, p] ∧ Mag W p _ := hd 7 (by kernel_rfl) (by decide)
      have hh := (hR.block (D + 2) (by omega)).trans HRes.out
      have f0 := cells_f0 hh
      have f1 := cells_f1 hh
      have g0 := cells_fst hh
      have g1 := cells_snd hh
      have hne := row_ne hrow hh
      go_simp
      have hK2 := hK undef _ ⟨sa, cap, b, o, HW.out.trans (((hR.mono (by omega)).setCell (p := ⟨D + 2, 0, none⟩) (by simp) _).setCell (p := ⟨D + 2, 1, none⟩) (by simp) _), set_two hh, (hrow.set ⟨D + 2, 0, none⟩ hne _).set ⟨D + 2, 1, none⟩ hne _⟩
      simp (config := { decide := true }) only [upd, if_false, hv] at hK2
      exact hK2
    trivial
    · intro L ys W hL hI
      obtain ⟨sa, cap, b, o, hb, hh, hrow⟩ := last_end (by decide) hL hI
      have r0 := cells_fst hh
      have r1 := cells_snd hh
      go_simp
      go_wp2
      refine bodyPost_ret (v := .agg #[.bool n1, .slice sa _ cap]) (by simp [results, Tryz.results71, go_sem, r0, r1]) rfl ⟨⟨_, rfl, num_mk hrow⟩, by rw [hD]; exact hb⟩
set_option maxRecDepth 100000 in
set_option maxHeartbeats 4000000 in
theorem plus_lt (n1 n2 : Bool) (sx : Option Addr) (cx bx ox x : Nat) (sy : Option Addr) (cpy by_ oy y : Nat) (hs : n1 ≠ n2) (hl : x < y) (w : World) (hx : Row w sx (nd x) cx bx ox x) (hy : Row w sy (nd y) cpy by_ oy y) (hnx : nd x ≤ 1000000) (hny : nd y ≤ 1000000) :
    Calls Tryz.prog 71 #[.agg #[.bool n1, .slice sx (nd x) cx], .agg #[.bool n2, .slice sy (nd y) cpy]] w fun e w' => (∃ v, e = .returned v ∧ Num w' v (sv n2 (y - x))) ∧ Below w.heap.size w w' := by
  have CALL := Lib.hid (fun W (hb : Below w.heap.size w W) => sub_any sy cpy by_ oy y sx cx bx ox x W (hy.below hb (Nat.le_refl _)) (hx.below hb (Nat.le_refl _)) (by omega) (by omega))
  have LESS := Lib.hid (fun W (hb : Below w.heap.size w W) => less_any sx cx bx ox x sy cpy by_ oy y W (hx.below hb (Nat.le_refl _)) (hy.below hb (Nat.le_refl _)) (by omega))
  clear hx hy
  generalize nd x = nx at *
  generalize nd y = ny at *
  obtain ⟨D, hD⟩ : ∃ D, w.heap.size = D := ⟨_, rfl⟩
  have hb0 : (n1 == n2) = false := by rw [beq_eq_false_iff_ne]; exact hs
  rw [show decide (x < y) = true by simpa using hl] at LESS
  clear hs hl
  go_enter Tryz.func71, Tryz.ntmps71
  go_wp2_with fail
  obtain ⟨W0, hW0⟩ : ∃ W0, (((w.alloc (.cells #[.bool n1, .slice sx nx cx] 97)).alloc (.cells #[.bool n2, .slice sy ny cpy] 97)).alloc (.cells #[.bool false, .slice none 0 0] 97)) = W0 := ⟨_, rfl⟩
  have hw0 : Below D w W0 := by rw [← hW0]; exact (((Below.refl _ _).alloc (by omega) _).alloc (by simp; omega) _).alloc (by simp; omega) _
  have h0x : W0.heap[D]? = some (.cells #[.bool n1, .slice sx nx cx] 97) := by rw [← hW0]; exact heap_up (heap_up (heap_at hD.symm))
  have h0y : W0.heap[D + 1]? = some (.cells #[.bool n2, .slice sy ny cpy] 97) := by rw [← hW0]; exact heap_up (heap_at (by simp [hD]))
  have h0r : W0.heap[D + 2]? = some (.cells #[.bool false, .slice none 0 0] 97) := by rw [← hW0]; exact heap_at (by simp [hD])
  have hz0 : W0.heap.size = D + 3 := by rw [← hW0]; simp [hD]
  rw [hW0]
  clear hW0
  refine (LESS.out W0 (hD ▸ hw0)).mono ?_
  rintro e w5 ⟨rfl, hb5⟩
  have hw5 := hw0.trans (hb5.mono (by omega))
  have h5x := (hb5.block D (by omega)).trans h0x
  have h5y := (hb5.block (D + 1) (by omega)).trans h0y
  have h5r := (hb5.block (D + 2) (by omega)).trans h0r
  have hz5 := hb5.size
  rw [hz0] at hz5
  have p0 := cells_fst h5x
  have p1 := cells_snd h5x
  have p2 := cells_fst h5y
  have p3 := cells_snd h5y
  have q0 := cells_f0 h5x
  have q1 := cells_f1 h5x
  have q2 := cells_f0 h5y
  have q3 := cells_f1 h5y
  clear hb5 hw0 h0x h0y h0r hz0 LESS
  go_wp2_with fail
  obtain ⟨W6, hW6⟩ : ∃ W6, ((((w5.setCell ⟨D, 0, none⟩ (.bool n2)).setCell ⟨D, 1, none⟩ (.slice sy ny cpy)).setCell ⟨D + 1, 0, none⟩ (.bool n1)).setCell ⟨D + 1, 1, none⟩ (.slice sx nx cx)) = W6 := ⟨_, rfl⟩
  have hw6 : Below D w W6 := by rw [← hW6]; exact (((hw5.setCell (by simp) _).setCell (by simp) _).setCell (by simp) _).setCell (by simp) _
  have h6x : W6.heap[D]? = some (.cells #[.bool n2, .slice sy ny cpy] 97) := by rw [← hW6]; exact (set_two_else (by omega)).trans (set_two h5x)
  have h6y : W6.heap[D + 1]? = some (.cells #[.bool n1, .slice sx nx cx] 97) := by rw [← hW6]; exact set_two ((set_two_else (by omega)).trans h5y)
  have h6r : W6.heap[D + 2]? = some (.cells #[.bool false, .slice none 0 0] 97) := by rw [← hW6]; exact (set_two_else (by omega)).trans ((set_two_else (by omega)).trans h5r)
  have hz6 : D + 3 ≤ W6.heap.size := by rw [← hW6]; simpa [World.setCell] using hz5
  rw [hW6]
  clear hW6 hw5 h5x h5y h5r p0 p1 p2 p3 q0 q1 q2 q3 hz5
  have HW := Lib.hid hw6
  have HRes := Lib.hid h6r
  have Kx0 := Lib.hid (cells_fst h6x)
  have Kx1 := Lib.hid (cells_snd h6x)
  have Ky0 := Lib.hid (cells_fst h6y)
  have Ky1 := Lib.hid (cells_snd h6y)
  refine wp_region_slots_at rfl rfl (fun base ys => (((((((base.set 25 (ys 0)).set 26 (ys 1)).set 27 (ys 2)).set 28 (ys 3)).set 29 (ys 4)).set 30 (ys 5)).set 31 (ys 6)).set 32 (ys 7)) (LastI _ (Below W6.heap.size W6) (plI D n2 n1 (.slice sy ny cpy) (.slice sx nx cx) (y - x)) (fun A => ∃ sa cap b o, Below D w A ∧ A.heap[D + 2]? = some (.cells #[.bool n2, .slice sa (nd (y - x)) cap] 97) ∧ Row A sa (nd (y - x)) cap b o (y - x))) (fun _ => undef) (by kernel_rfl) (last_start (by decide) ((Below.refl _ _).trans ⟨rfl, rfl, rfl, Nat.le_refl _, fun _ _ => rfl⟩)) ?h
  case h =>
    intro F hF
    simp only [List.set_cons_succ, List.set_cons_zero] at hF
    subst hF
    refine ⟨rfl, ?_, ?_⟩
    refine ⟨?_, ?_⟩
    · refine SlotStep.lastB (by kernel_rfl) rfl (by decide) (fun A B hb h => h.trans (hb.mono h.size)) (plI_up D n2 n1 (.slice sy ny cpy) (.slice sx nx cx) (y - x)) ?_
      intro ys W hR hd K hK
      go_simp
      have hK2 := hK (.pointer (some ⟨D, 0, none⟩)) _ (Below.refl _ _) rfl
      simp (config := { decide := true }) only [upd, if_true, if_false] at hK2
      exact hK2
    refine ⟨?_, ?_⟩
    · refine SlotStep.lastB (by kernel_rfl) rfl (by decide) (fun A B hb h => h.trans (hb.mono h.size)) (plI_up D n2 n1 (.slice sy ny cpy) (.slice sx nx cx) (y - x)) ?_
      intro ys W hR hd K hK
      have d0 : ys 0 = .pointer (some ⟨D, 0, none⟩) := hd 0 (by kernel_rfl) (by decide)
      have c0 := (hR.cell (p := ⟨D, 0, none⟩) (by show D < W6.heap.size; omega)).trans Kx0.out
      go_simp
      have hK2 := hK (.bool n2) _ (Below.refl _ _) rfl
      simp (config := { decide := true }) only [upd, if_true, if_false, d0] at hK2
      exact hK2
    refine ⟨?_, ?_⟩
    · refine SlotStep.lastB (by kernel_rfl) rfl (by decide) (fun A B hb h => h.trans (hb.mono h.size)) (plI_up D n2 n1 (.slice sy ny cpy) (.slice sx nx cx) (y - x)) ?_
      intro ys W hR hd K hK
      go_simp
      have hK2 := hK (.pointer (some ⟨D, 1, none⟩)) _ (Below.refl _ _) rfl
      simp (config := { decide := true }) only [upd, if_true, if_false] at hK2
      exact hK2
    refine ⟨?_, ?_⟩
    · refine SlotStep.lastB (by kernel_rfl) rfl (by decide) (fun A B hb h => h.trans (hb.mono h.size)) (plI_up D n2 n1 (.slice sy ny cpy) (.slice sx nx cx) (y - x)) ?_
      intro ys W hR hd K hK
      have d2 : ys 2 = .pointer (some ⟨D, 1, none⟩) := hd 2 (by kernel_rfl) (by decide)
      have c0 := (hR.cell (p := ⟨D, 1, none⟩) (by show D < W6.heap.size; omega)).trans Kx1.out
      go_simp
      have hK2 := hK (.slice sy ny cpy) _ (Below.refl _ _) rfl
      simp (config := { decide := true }) only [upd, if_true, if_false, d2] at hK2
      exact hK2
    refine ⟨?_, ?_⟩
    · refine SlotStep.lastB (by kernel_rfl) rfl (by decide) (fun A B hb h => h.trans (hb.mono h.size)) (plI_up D n2 n1 (.slice sy ny cpy) (.slice sx nx cx) (y - x)) ?_
      intro ys W hR hd K hK
      go_simp
      have hK2 := hK (.pointer (some ⟨D + 1, 1, none⟩)) _ (Below.refl _ _) rfl
      simp (config := { decide := true }) only [upd, if_true, if_false] at hK2
      exact hK2
    refine ⟨?_, ?_⟩
    · refine SlotStep.lastB (by kernel_rfl) rfl (by decide) (fun A B hb h => h.trans (hb.mono h.size)) (plI_up D n2 n1 (.slice sy ny cpy) (.slice sx nx cx) (y - x)) ?_
      intro ys W hR hd K hK
      have d4 : ys 4 = .pointer (some ⟨D + 1, 1, none⟩) := hd 4 (by kernel_rfl) (by decide)
      have c0 := (hR.cell (p := ⟨D + 1, 1, none⟩) (by show D + 1 < W6.heap.size; omega)).trans Ky1.out
      go_simp
      have hK2 := hK (.slice sx nx cx) _ (Below.refl _ _) rfl
      simp (config := { decide := true }) only [upd, if_true, if_false, d4] at hK2
      exact hK2
    refine ⟨?_, ?_⟩
    · refine SlotStep.lastB (by kernel_rfl) rfl (by decide) (fun A B hb h => h.trans (hb.mono h.size)) (plI_up D n2 n1 (.slice sy ny cpy) (.slice sx nx cx) (y - x)) ?_
      intro ys W hR hd K hK
      have d3 : ys 3 = .slice sy ny cpy := hd 3 (by kernel_rfl) (by decide)
      have d5 : ys 5 = .slice sx nx cx := hd 5 (by kernel_rfl) (by decide)
      go_simp
      refine (CALL.out W (hD ▸ (HW.out.trans (hR.mono (by omega))))).mono ?_
      rintro e w5 ⟨⟨v5, rfl, hm5⟩, hb5⟩
      have hK2 := hK v5 _ hb5 hm5
      simp (config := { decide := true }) only [upd, if_true, if_false, d3, d5] at hK2
      exact hK2
    refine ⟨?_, ?_⟩
    · refine SlotStep.lastB (by kernel_rfl) rfl (by decide) (fun A B hb h => h.trans (hb.mono h.size)) (plI_up D n2 n1 (.slice sy ny cpy) (.slice sx nx cx) (y - x)) ?_
      intro ys W hR hd K hK
      have d1 : ys 1 = .bool n2 := hd 1 (by kernel_rfl) (by decide)
      obtain ⟨sa, cap, b, o, hv, hrow⟩ : Mag W (ys 6) _ := hd 6 (by kernel_rfl) (by decide)
      go_simp
      have hK2 := hK (.agg #[.bool n2, ys 6]) _ (Below.refl _ _) ⟨_, rfl, sa, cap, b, o, hv, hrow⟩
      simp (config := { decide := true }) only [upd, if_true, if_false, d1, hv] at hK2
      exact hK2
    refine ⟨?_, ?_⟩
    · refine SlotStep.lastS rfl rfl ?_
      intro ys W hR hd K hK
      obtain ⟨pv, hv, sa, cap, b, o, rfl, hrow⟩ : ∃ p, ys 7 = .agg #[.bool n2, p] ∧ Mag W p _ := hd 7 (by kernel_rfl) (by decide)
      have hh := (hR.block (D + 2) (by omega)).trans HRes.out
      have f0 := cells_f0 hh
      have f1 := cells_f1 hh
      have g0 := cells_fst hh
      have g1 := cells_snd hh
      have hne := row_ne hrow hh
      go_simp
      have hK2 := hK undef _ ⟨sa, cap, b, o, HW.out.trans (((hR.mono (by omega)).setCell (p := ⟨D + 2, 0, none⟩) (by simp) _).setCell (p := ⟨D + 2, 1, none⟩) (by simp) _), set_two hh, (hrow.set ⟨D + 2, 0, none⟩ hne _).set ⟨D + 2, 1, none⟩ hne _⟩
      simp (config := { decide := true }) only [upd, if_false, hv] at hK2
      exact hK2
    trivial
    · intro L ys W hL hI
      obtain ⟨sa, cap, b, o, hb, hh, hrow⟩ := last_end (by decide) hL hI
      have r0 := cells_fst hh
      have r1 := cells_snd hh
      go_simp
      go_wp2
      refine bodyPost_ret (v := .agg #[.bool n2, .slice sa _ cap]) (by simp [results, Tryz.results71, go_sem, r0, r1]) rfl ⟨⟨_, rfl, num_mk hrow⟩, by rw [hD]; exact hb⟩
theorem times_any (v1 v2 : Value) (z1 z2 : Int) (w : World) (h1 : Num w v1 z1) (h2 : Num w v2 z2) (b1 : nd z1.natAbs ≤ 500000) (b2 : nd z2.natAbs ≤ 500000) :
    Calls Tryz.prog 66 #[v1, v2] w fun e w' => (∃ v, e = .returned v ∧ Num w' v (z1 * z2)) ∧ Below w.heap.size w w' := by
  obtain ⟨n1, m1, sx, cx, bx, ox, rfl, hx, rfl⟩ := num_open h1
  obtain ⟨n2, m2, sy, cy, by_, oy, rfl, hy, rfl⟩ := num_open h2
  rw [sv_abs] at b1 b2
  rw [sv_mul]
  exact times_core n1 n2 sx cx bx ox m1 sy cy by_ oy m2 w hx hy b1 b2
theorem plus_any (v1 v2 : Value) (z1 z2 : Int) (w : World) (h1 : Num w v1 z1) (h2 : Num w v2 z2) (b1 : nd z1.natAbs ≤ 1000000) (b2 : nd z2.natAbs ≤ 1000000) :
    Calls Tryz.prog 71 #[v1, v2] w fun e w' => (∃ v, e = .returned v ∧ Num w' v (z1 + z2)) ∧ Below w.heap.size w w' := by
  obtain ⟨n1, m1, sx, cx, bx, ox, rfl, hx, rfl⟩ := num_open h1
  obtain ⟨n2, m2, sy, cy, by_, oy, rfl, hy, rfl⟩ := num_open h2
  rw [sv_abs] at b1 b2
  by_cases hs : n1 = n2
  · subst hs
    rw [sv_same]
    exact plus_same n1 n1 sx cx bx ox m1 sy cy by_ oy m2 rfl w hx hy b1 b2
  · by_cases hl : m1 < m2
    · rw [sv_lt hs hl]
      exact plus_lt n1 n2 sx cx bx ox m1 sy cy by_ oy m2 hs hl w hx hy b1 b2
    · rw [sv_ge hs hl]
      exact plus_ge n1 n2 sx cx bx ox m1 sy cy by_ oy m2 hs hl w hx hy b1 b2
end Go.Proofs.YtbkbncapgljfaaaGreatDoor
/- Contracts of the exported functions over canonical texts: Add, Sub, Mul, Neg, Sign, Compare. -/
namespace Go.Proofs.YtbkbncapgljfaaaGreatDoor
open Go Go.RowKit Go.Shelf

/-- A canonical integer that is not too long. -/
structure Cn (s : ByteArray) : Prop where
  canon : Im.canonI s.data.toList = true
  size : s.size ≤ 100000
def iv (s : ByteArray) : Int := Im.ivL s.data.toList
def tz (z : Int) : ByteArray := ⟨(Lib.itoa z).toArray⟩
theorem iv_tz (z : Int) : iv (tz z) = z := by simp [iv, tz, Im.ivL_itoa]
theorem tz_iv {s : ByteArray} (h : Im.canonI s.data.toList = true) : tz (iv s) = s := by
  apply ext_bytes
  simp [tz, iv, Im.itoa_ivL h]
theorem canon_tz (z : Int) : Im.canonI (tz z).data.toList = true := by simp [tz, Im.canonI_itoa]
theorem dgs_len (l : List UInt8) : (Im.dgs l).length ≤ l.length := by
  unfold Im.dgs
  split
  · rw [List.length_tail]; omega
  · exact Nat.le_refl _
theorem iv_lt {s : ByteArray} (h : Im.canonI s.data.toList = true) : (iv s).natAbs < 10 ^ (Im.dgs s.data.toList).length := by
  unfold iv
  rw [ivL_abs]
  exact Im.val_lt (Im.canonL_iff.1 (Im.canonI_canon h).1).2.1
theorem pow_BB (k : Nat) : (10 : Nat) ^ k ≤ BB ^ k := Nat.pow_le_pow_left (by unfold BB; omega) k
theorem nd_iv {s : ByteArray} (h : Cn s) : nd (iv s).natAbs ≤ 100000 := by
  have h1 := iv_lt h.canon
  have h2 := pow_BB (Im.dgs s.data.toList).length
  have h3 := dgs_len s.data.toList
  have h4 := size_list s
  have h5 := h.size
  exact Nat.le_trans (Im.nd_le bb2 (Nat.lt_of_lt_of_le h1 h2)) (by omega)
theorem nd_add (a b : Int) : nd (a + b).natAbs ≤ nd a.natAbs + nd b.natAbs + 1 := by
  have h1 := Im.lt_pow_nd bb2 a.natAbs
  have h2 := Im.lt_pow_nd bb2 b.natAbs
  have h3 : BB ^ nd a.natAbs ≤ BB ^ (nd a.natAbs + nd b.natAbs) := Nat.pow_le_pow_right (by unfold BB; omega) (by omega)
  have h4 : BB ^ nd b.natAbs ≤ BB ^ (nd a.natAbs + nd b.natAbs) := Nat.pow_le_pow_right (by unfold BB; omega) (by omega)
  refine Im.nd_le bb2 ?_
  rw [Nat.pow_succ]
  show _ < BB ^ (nd a.natAbs + nd b.natAbs) * 1000000000
  change a.natAbs < BB ^ nd a.natAbs at h1
  change b.natAbs < BB ^ nd b.natAbs at h2
  generalize BB ^ (nd a.natAbs + nd b.natAbs) = K at *
  generalize BB ^ nd a.natAbs = K1 at *
  generalize BB ^ nd b.natAbs = K2 at *
  omega
theorem nd_mul (a b : Int) : nd (a * b).natAbs ≤ nd a.natAbs + nd b.natAbs := by
  refine Im.nd_le bb2 ?_
  rw [Int.natAbs_mul, Nat.pow_add]
  exact Nat.mul_lt_mul'' (Im.lt_pow_nd bb2 _) (Im.lt_pow_nd bb2 _)
theorem nd_neg (a : Int) : nd (-a).natAbs = nd a.natAbs := by rw [Int.natAbs_neg]

theorem small_iv {s : ByteArray} (h : smallB s.data.toList = true) : smallV s.data.toList = iv s ∧ -1000000000000000000 < iv s ∧ iv s < 1000000000000000000 := by
  unfold smallB at h
  rw [Bool.and_eq_true, decide_eq_true_iff] at h
  have h1 := iv_lt h.1
  have h2 : (10 : Nat) ^ (Im.dgs s.data.toList).length ≤ 10 ^ 18 := Nat.pow_le_pow_right (by decide) h.2
  refine ⟨by unfold smallV iv; rw [if_pos h], by omega, by omega⟩
theorem read_c (s : ByteArray) (h : Cn s) (w : World) :
    Calls Tryz.prog 65 #[.string s] w fun e w' => (∃ v, e = .returned v ∧ Num w' v (iv s)) ∧ Below w.heap.size w w' :=
  read_yes s (by have := h.size; omega) h.canon w
/-- How long a text of a number is. -/
theorem len_tz {z : Int} {k : Nat} (h : z.natAbs < 10 ^ k) (hk : 0 < k) : (tz z).size ≤ k + 1 := by
  rw [← size_list]
  show (Lib.itoa z).length ≤ k + 1
  by_cases h0 : z < 0
  · rw [Im.itoa_neg h0, List.length_cons]
    have := Im.dec_len h hk
    omega
  · rw [Im.itoa_nonneg (by omega), show z.toNat = z.natAbs by omega]
    have := Im.dec_len h hk
    omega
theorem cn_tz {z : Int} {k : Nat} (h : z.natAbs < 10 ^ k) (hk : 0 < k) (h5 : k ≤ 50000) : Cn (tz z) := ⟨canon_tz z, by have := len_tz h hk; omega⟩

set_option maxHeartbeats 1000000 in
theorem cmp_c_big (s t : ByteArray) (hs : Cn s) (ht : Cn t) (hb : (smallB s.data.toList && smallB t.data.toList) = false) (w : World) (G : Gi w) :
    Calls Tryz.prog 62 #[.string s, .string t] w fun e w' => e = .returned (.int .i64 (sgn (iv s - iv t))) ∧ Below w.heap.size w w' := by
  have P := Lib.hid (fun W => pair_any s t (by have := hs.size; omega) (by have := ht.size; omega) W)
  rw [hb] at P
  have RA := Lib.hid (fun W => read_c s hs W)
  have RB := Lib.hid (fun W => read_c t ht W)
  have n1 := nd_iv hs
  have n2 := nd_iv ht
  have n3 := nd_add (iv s) (-iv t)
  rw [nd_neg] at n3
  have HZ := Lib.hid (show iv s + -iv t = iv s - iv t by omega)
  have N1 := Lib.hid n1
  have N2 := Lib.hid n2
  have N3 := Lib.hid n3
  clear hs ht hb n1 n2 n3
  go_enter Tryz.func62, Tryz.ntmps62
  go_wp2_with fail
  refine (P.out _).mono ?_
  rintro e w1 ⟨rfl, hb1⟩
  go_wp2_with fail
  refine (RA.out _).mono ?_
  rintro e w2 ⟨⟨v2, rfl, h2⟩, hb2⟩
  go_wp2_with fail
  refine (RB.out _).mono ?_
  rintro e w3 ⟨⟨v3, rfl, h3⟩, hb3⟩
  have h2' := h2.call hb3
  go_wp2_with fail
  refine (negated_any v3 _ _ h3).mono ?_
  rintro e w4 ⟨⟨v4, rfl, h4⟩, hb4⟩
  have h2'' := h2'.call hb4
  go_wp2_with fail
  refine (plus_any v2 v4 _ _ _ h2'' h4 (by have := N1.out; omega) (by rw [nd_neg]; have := N2.out; omega)).mono ?_
  rintro e w5 ⟨⟨v5, rfl, h5⟩, hb5⟩
  have hb12 := hb1.trans (hb2.mono hb1.size)
  have hb13 := hb12.trans (hb3.mono hb12.size)
  have hb14 := hb13.trans (hb4.mono hb13.size)
  have hb15 := hb14.trans (hb5.mono hb14.size)
  have G5 := G.below hb15
  go_wp2_with fail
  refine (sign_any v5 _ _ h5).mono ?_
  rintro e w6 ⟨rfl, hb6⟩
  go_wp2
  go_ret
  exact ⟨by rw [HZ.out]; rfl, hb15.trans (hb6.mono hb15.size)⟩
theorem sgn_cmp (x y : Int) : Lib.compareInt x y = sgn (x - y) := by
  unfold Lib.compareInt sgn
  by_cases h1 : x < y
  · rw [if_pos h1, if_neg (by omega), if_pos (by omega)]
  · rw [if_neg h1]
    by_cases h2 : x > y
    · rw [if_pos h2, if_neg (by omega), if_neg (by omega)]
    · rw [if_neg h2, if_pos (by omega)]
set_option maxHeartbeats 1000000 in
theorem cmp_c_few (s t : ByteArray) (hs : Cn s) (ht : Cn t) (hb : (smallB s.data.toList && smallB t.data.toList) = true) (w : World) :
    Calls Tryz.prog 62 #[.string s, .string t] w fun e w' => e = .returned (.int .i64 (sgn (iv s - iv t))) ∧ Below w.heap.size w w' := by
  have P := Lib.hid (fun W => pair_any s t (by have := hs.size; omega) (by have := ht.size; omega) W)
  rw [hb] at P
  rw [Bool.and_eq_true] at hb
  obtain ⟨e1, a1, b1⟩ := small_iv hb.1
  obtain ⟨e2, a2, b2⟩ := small_iv hb.2
  rw [e1, e2] at P
  clear hs ht hb e1 e2
  rw [← sgn_cmp]
  generalize iv s = x at *
  generalize iv t = y at *
  have O := Lib.hid (fun W => Tryz.cmp_Compare_int x y W)
  go_enter Tryz.func62, Tryz.ntmps62
  go_wp2_with fail
  refine (P.out _).mono ?_
  rintro e w1 ⟨rfl, hb1⟩
  go_wp2_with fail
  refine (O.out _).mono ?_
  rintro e w2 ⟨rfl, hww⟩
  subst w2
  go_wp2
  go_ret
  exact ⟨rfl, hb1⟩
theorem cmp_c (s t : ByteArray) (hs : Cn s) (ht : Cn t) (w : World) (G : Gi w) :
    Calls Tryz.prog 62 #[.string s, .string t] w fun e w' => e = .returned (.int .i64 (sgn (iv s - iv t))) ∧ Below w.heap.size w w' := by
  cases hb : (smallB s.data.toList && smallB t.data.toList) with
  | true => exact cmp_c_few s t hs ht hb w
  | false => exact cmp_c_big s t hs ht hb w G

set_option maxHeartbeats 1000000 in
theorem mul_c (s t : ByteArray) (hs : Cn s) (ht : Cn t) (w : World) (G : Gi w) :
    Calls Tryz.prog 59 #[.string s, .string t] w fun e w' => e = .returned (.string (tz (iv s * iv t))) ∧ Below w.heap.size w w' := by
  have DS := Lib.hid (fun W => digits_any s W)
  have DT := Lib.hid (fun W => digits_any t W)
  have P := Lib.hid (fun W => pair_any s t (by have := hs.size; omega) (by have := ht.size; omega) W)
  by_cases hg : (Im.dgs s.data.toList).length + (Im.dgs t.data.toList).length ≤ 18
  · have hb1 : smallB s.data.toList = true := by unfold smallB; rw [hs.canon]; simp; omega
    have hb2 : smallB t.data.toList = true := by unfold smallB; rw [ht.canon]; simp; omega
    obtain ⟨e1, a1, b1⟩ := small_iv hb1
    obtain ⟨e2, a2, b2⟩ := small_iv hb2
    rw [hb1, hb2, e1, e2] at P
    have hp : (iv s * iv t).natAbs < 1000000000000000000 := by
      rw [Int.natAbs_mul]
      have h3 := Nat.mul_lt_mul'' (iv_lt hs.canon) (iv_lt ht.canon)
      rw [← Nat.pow_add] at h3
      have h4 : (10 : Nat) ^ ((Im.dgs s.data.toList).length + (Im.dgs t.data.toList).length) ≤ 10 ^ 18 := Nat.pow_le_pow_right (by decide) hg
      omega
    have O := Lib.hid (fun W G => of_any (iv s * iv t) (by omega) (by omega) W G)
    have hp1 : -1000000000000000000 < iv s * iv t := by omega
    have hp2 : iv s * iv t < 1000000000000000000 := by omega
    have hgi : ((Im.dgs s.data.toList).length : Int) + ((Im.dgs t.data.toList).length : Int) ≤ 18 := by omega
    clear hs ht hb1 hb2 e1 e2 hp
    generalize Im.dgs s.data.toList = ds at *
    generalize Im.dgs t.data.toList = dt at *
    generalize iv s = x at *
    generalize iv t = y at *
    go_enter Tryz.func59, Tryz.ntmps59
    go_wp2_with fail
    refine (DS.out _).mono ?_
    rintro e w1 ⟨rfl, hww⟩
    subst w1
    go_wp2_with fail
    refine (DT.out _).mono ?_
    rintro e w1 ⟨rfl, hww⟩
    subst w1
    go_wp2_with fail
    refine (P.out _).mono ?_
    rintro e w1 ⟨rfl, hb1⟩
    have G1 := G.below hb1
    go_wp2_with fail
    refine (O.out _ G1).mono ?_
    rintro e w2 ⟨rfl, hb2⟩
    go_wp2
    go_ret
    exact ⟨rfl, hb1.trans (hb2.mono hb1.size)⟩
  · have RA := Lib.hid (fun W => read_c s hs W)
    have RB := Lib.hid (fun W => read_c t ht W)
    have n1 := nd_iv hs
    have n2 := nd_iv ht
    have n3 := nd_mul (iv s) (iv t)
    have N1 := Lib.hid n1
    have N2 := Lib.hid n2
    have N3 := Lib.hid n3
    have hgi : ¬ ((Im.dgs s.data.toList).length : Int) + ((Im.dgs t.data.toList).length : Int) ≤ 18 := by omega
    have hl1 : (Im.dgs s.data.toList).length ≤ 100000 := by have := dgs_len s.data.toList; have := size_list s; have := hs.size; omega
    have hl2 : (Im.dgs t.data.toList).length ≤ 100000 := by have := dgs_len t.data.toList; have := size_list t; have := ht.size; omega
    clear hs ht n1 n2 n3
    generalize Im.dgs s.data.toList = ds at *
    generalize Im.dgs t.data.toList = dt at *
    go_enter Tryz.func59, Tryz.ntmps59
    go_wp2_with fail
    refine (DS.out _).mono ?_
    rintro e w1 ⟨rfl, hww⟩
    subst w1
    go_wp2_with fail
    refine (DT.out _).mono ?_
    rintro e w1 ⟨rfl, hww⟩
    subst w1
    go_wp2_with fail
    refine (RA.out _).mono ?_
    rintro e w2 ⟨⟨v2, rfl, h2⟩, hb2⟩
    go_wp2_with fail
    refine (RB.out _).mono ?_
    rintro e w3 ⟨⟨v3, rfl, h3⟩, hb3⟩
    have h2' := h2.call hb3
    go_wp2_with fail
    refine (times_any v2 v3 _ _ _ h2' h3 (by have := N1.out; omega) (by have := N2.out; omega)).mono ?_
    rintro e w5 ⟨⟨v5, rfl, h5⟩, hb5⟩
    have hb13 := hb2.trans (hb3.mono hb2.size)
    have hb15 := hb13.trans (hb5.mono hb13.size)
    have G5 := G.below hb15
    go_wp2_with fail
    refine (text_any v5 _ _ h5 (by have := N1.out; have := N2.out; have := N3.out; omega) G5).mono ?_
    rintro e w6 ⟨rfl, hb6⟩
    go_wp2
    go_ret
    exact ⟨rfl, hb15.trans (hb6.mono hb15.size)⟩

end Go.Proofs.YtbkbncapgljfaaaGreatDoor
