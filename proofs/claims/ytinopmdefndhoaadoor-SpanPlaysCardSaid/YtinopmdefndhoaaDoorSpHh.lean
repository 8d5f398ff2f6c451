/- What both hands can hold, by manuals. -/
import Derived.Test.YtinopmdefndhoaaDoorSpFo
namespace Go.Proofs.YtinopmdefndhoaaDoor
open Go Go.RowKit Go.Shelf

def hndB (a b : Int) (S : Nat → Nat × Nat) : Nat → Bool
  | 0 => true
  | 1 => fndU (nth (setN (S 0))) (setN (S 0)).length a b
  | 2 => holdX (nth (setN (S 0))) (setN (S 0)).length a b && holdX (nth (setN (S 1))) (setN (S 1)).length a b
  | _ => false
structure HnR (w : World) (D : Nat) (a b c d : Int) (g o : Nat) (s1 s2 t1 t2 : Nat) (A : World) : Prop where
  bel : Below D w A
  pl : PlAt A D a b c d
  x0 : A.cell? ⟨g, o, none⟩ = some (.int .u64 (s1 : Nat))
  x1 : A.cell? ⟨g, o + 1, none⟩ = some (.int .u64 (s2 : Nat))
  y0 : A.cell? ⟨g, o + 2, none⟩ = some (.int .u64 (t1 : Nat))
  y1 : A.cell? ⟨g, o + 2 + 1, none⟩ = some (.int .u64 (t2 : Nat))
theorem cell_upH {A B : World} {C g o : Nat} {v : Value} (hg : g < C) (hb : Below C A B) (h : A.cell? ⟨g, o, none⟩ = some v) : B.cell? ⟨g, o, none⟩ = some v := (hb.cell (p := ⟨g, o, none⟩) hg).trans h
theorem HnR.below {w : World} {D : Nat} {a b c d : Int} {g o s1 s2 t1 t2 C : Nat} {A B : World} (h : HnR w D a b c d g o s1 s2 t1 t2 A) (hD : w.heap.size = D) (hg : g < D) (hC : D < C) (hb : Below C A B) : HnR w D a b c d g o s1 s2 t1 t2 B :=
  ⟨h.bel.trans (hb.mono (by omega)), h.pl.below hC hb, cell_upH (by omega) hb h.x0, cell_upH (by omega) hb h.x1, cell_upH (by omega) hb h.y0, cell_upH (by omega) hb h.y1⟩
theorem HnR_up (w : World) (D : Nat) (a b c d : Int) (g o s1 s2 t1 t2 : Nat) (hD : w.heap.size = D) (hg : g < D) (X Y : World) (hb : Below X.heap.size X Y) (h : HnR w D a b c d g o s1 s2 t1 t2 X) : HnR w D a b c d g o s1 s2 t1 t2 Y :=
  h.below hD hg h.pl.lt hb
structure HnQ (w : World) (D B : Nat) (a b c d : Int) (g o : Nat) (s1 s2 : Nat) (A : World) : Prop where
  sz : B ≤ A.heap.size
  bel : Below D w A
  pl : PlAt A D a b c d
  x0 : A.cell? ⟨g, o, none⟩ = some (.int .u64 (s1 : Nat))
  x1 : A.cell? ⟨g, o + 1, none⟩ = some (.int .u64 (s2 : Nat))
theorem HnQ_st (w : World) (D B : Nat) (a b c d : Int) (g o s1 s2 : Nat) (hg : g < D) (hB : D < B) (X Y : World) (hb : Below B X Y) (h : HnQ w D B a b c d g o s1 s2 X) : HnQ w D B a b c d g o s1 s2 Y :=
  ⟨Nat.le_trans h.sz hb.size, h.bel.trans (hb.mono (by omega)), h.pl.below hB hb, cell_upH (by omega) hb h.x0, cell_upH (by omega) hb h.x1⟩
theorem HnQ_up (w : World) (D B : Nat) (a b c d : Int) (g o s1 s2 : Nat) (hg : g < D) (hB : D < B) (X Y : World) (hb : Below X.heap.size X Y) (h : HnQ w D B a b c d g o s1 s2 X) : HnQ w D B a b c d g o s1 s2 Y :=
  HnQ_st w D B a b c d g o s1 s2 hg hB X Y (hb.mono h.sz) h
def jbx (x1 x2 x3 x4 : Nat) : Nat → Option (Nat × Array Value)
  | 9 => some (11, #[.int .u64 x1, .int .u64 x2])
  | 10 => some (12, #[.int .u64 x3, .int .u64 x4])
  | _ => none
theorem jbx_at (x1 x2 x3 x4 : Nat) (j s : Nat) (k : Array Value) (h : jbx x1 x2 x3 x4 j = some (s, k)) : (j = 9 ∧ s = 11) ∨ (j = 10 ∧ s = 12) := by
  unfold jbx at h
  split at h
  · cases h; exact .inl ⟨rfl, rfl⟩
  · cases h; exact .inr ⟨rfl, rfl⟩
  · cases h
def hn5 (a b c d : Int) (g o cp s1 s2 x1 x2 x3 x4 : Nat) (f : Bool) : Nat → Value → Prop
  | 0, v => v = .agg #[.int .i64 a, .int .i64 b, .int .i64 c, .int .i64 d]
  | 1, v => v = .slice (some ⟨g, o, none⟩) 1 cp
  | 2, v => v = .pointer (some ⟨g, o, none⟩)
  | 3, v => v = .agg #[.int .u64 s1, .int .u64 s2]
  | 4, v => v = .tuple #[.agg #[.int .u64 x1, .int .u64 x2], .agg #[.int .u64 x3, .int .u64 x4], .bool f]
  | 5, v => v = .tuple #[.agg #[.int .u64 x1, .int .u64 x2], .agg #[.int .u64 x3, .int .u64 x4], .bool f]
  | 6, v => v = .agg #[.int .u64 x1, .int .u64 x2]
  | 7, v => v = .agg #[.int .u64 x3, .int .u64 x4]
  | 8, v => v = .bool f
  | 13, v => v = .bool f
  | _, _ => True

def hn8A (D : Nat) (a b c d : Int) (g o cp s1 s2 t1 t2 : Nat) (h : Bool) : Nat → Value → World → Prop
  | 0, v, _ => v = .agg #[.int .i64 a, .int .i64 b, .int .i64 c, .int .i64 d]
  | 1, v, _ => v = .slice (some ⟨g, o, none⟩) 2 cp
  | 2, v, _ => v = .pointer (some ⟨g, o, none⟩)
  | 3, v, _ => v = .agg #[.int .u64 s1, .int .u64 s2]
  | 4, v, _ => v = .bool false
  | 5, v, _ => v = .bool false
  | 6, v, _ => v = undef
  | 7, v, _ => v = undef
  | 8, v, _ => v = undef
  | 9, v, _ => v = undef
  | 10, v, _ => v = undef
  | 11, v, _ => v = .bool false
  | 12, v, _ => v = .bool false
  | _, _, _ => True

theorem hn8A_up (D : Nat) (a b c d : Int) (g o cp s1 s2 t1 t2 : Nat) (h : Bool) : ∀ (j : Nat) (v : Value) (A B : World), Below A.heap.size A B → hn8A D a b c d g o cp s1 s2 t1 t2 h j v A → hn8A D a b c d g o cp s1 s2 t1 t2 h j v B
  | 0, _, _, _, _, h => h
  | 1, _, _, _, _, h => h
  | 2, _, _, _, _, h => h
  | 3, _, _, _, _, h => h
  | 4, _, _, _, _, h => h
  | 5, _, _, _, _, h => h
  | 6, _, _, _, _, h => h
  | 7, _, _, _, _, h => h
  | 8, _, _, _, _, h => h
  | 9, _, _, _, _, h => h
  | 10, _, _, _, _, h => h
  | 11, _, _, _, _, h => h
  | 12, _, _, _, _, h => h
  | _ + 13, _, _, _, _, _ => trivial

def hn8B (D : Nat) (a b c d : Int) (g o cp s1 s2 t1 t2 : Nat) (h : Bool) : Nat → Value → World → Prop
  | 0, v, _ => v = .agg #[.int .i64 a, .int .i64 b, .int .i64 c, .int .i64 d]
  | 1, v, _ => v = .slice (some ⟨g, o, none⟩) 2 cp
  | 2, v, _ => v = .pointer (some ⟨g, o, none⟩)
  | 3, v, _ => v = .agg #[.int .u64 s1, .int .u64 s2]
  | 4, v, _ => v = .bool true
  | 5, v, _ => v = .bool true
  | 6, v, _ => v = .agg #[.int .i64 a, .int .i64 b, .int .i64 c, .int .i64 d]
  | 7, v, _ => v = .slice (some ⟨g, o, none⟩) 2 cp
  | 8, v, _ => v = .pointer (some ⟨g, o + 2, none⟩)
  | 9, v, _ => v = .agg #[.int .u64 t1, .int .u64 t2]
  | 10, v, _ => v = .bool h
  | 11, v, _ => v = .bool h
  | 12, v, _ => v = .bool h
  | _, _, _ => True

theorem hn8B_up (D : Nat) (a b c d : Int) (g o cp s1 s2 t1 t2 : Nat) (h : Bool) : ∀ (j : Nat) (v : Value) (A B : World), Below A.heap.size A B → hn8B D a b c d g o cp s1 s2 t1 t2 h j v A → hn8B D a b c d g o cp s1 s2 t1 t2 h j v B
  | 0, _, _, _, _, h => h
  | 1, _, _, _, _, h => h
  | 2, _, _, _, _, h => h
  | 3, _, _, _, _, h => h
  | 4, _, _, _, _, h => h
  | 5, _, _, _, _, h => h
  | 6, _, _, _, _, h => h
  | 7, _, _, _, _, h => h
  | 8, _, _, _, _, h => h
  | 9, _, _, _, _, h => h
  | 10, _, _, _, _, h => h
  | 11, _, _, _, _, h => h
  | 12, _, _, _, _, h => h
  | _ + 13, _, _, _, _, _ => trivial

set_option maxRecDepth 100000 in
set_option maxHeartbeats 4000000 in
theorem hnd_any (a b c d : Int) (v : Value) (n : Nat) (S : Nat → Nat × Nat) (w : World) (G : Gl w) (hb : 0 ≤ b) (hv : SetsAt w v n S) (hS : ∀ i, i < n → (S i).1 < 18446744073709551616 ∧ (S i).2 < 18446744073709551616) :
    Calls Tryd.prog 46 #[.agg #[.int .i64 a, .int .i64 b, .int .i64 c, .int .i64 d], v] w fun e w' => e = .returned (.bool (hndB a b S n)) ∧ Below w.heap.size w w' := by
  obtain ⟨va, vc, rfl, hvc⟩ := hv
  obtain ⟨D, hD⟩ : ∃ D, w.heap.size = D := ⟨_, rfl⟩
  have hwV : Below D w (w.alloc (.cells #[.int .i64 a, .int .i64 b, .int .i64 c, .int .i64 d] 23)) := (Below.refl _ _).alloc (by omega) _
  have hPV : PlAt (w.alloc (.cells #[.int .i64 a, .int .i64 b, .int .i64 c, .int .i64 d] 23)) D a b c d := heap_new hD.symm
  match n, hvc, hS with
  | 0, _, _ =>
    go_enter Tryd.func46, Tryd.ntmps46
    go_wp2
    go_ret
    exact ⟨rfl, by rw [hD]; exact hwV⟩
  | n + 3, _, _ =>
    have n0 : ¬ ((n : Int) + 3 = 0) := by omega
    have n1 : ¬ ((n : Int) + 3 = 1) := by omega
    have n2 : ¬ ((n : Int) + 3 = 2) := by omega
    go_enter Tryd.func46, Tryd.ntmps46
    go_wp2
    go_ret
    exact ⟨rfl, by rw [hD]; exact hwV⟩
  | 1, hvc, hS =>
    obtain ⟨g, o, rfl, hg, hc⟩ := hvc (by omega)
    obtain ⟨p0, p1⟩ := hc 0 (by omega)
    obtain ⟨l0, l1⟩ := hS 0 (by omega)
    obtain ⟨x1, x2, x3, x4, hf⟩ := first_b a b c d (S 0).1 (S 0).2 hb l0 l1
    have FF0 := Lib.hid hf
    have hres : hndB a b S 1 = fndU (nth (Ns.notes (S 0).1 (S 0).2)) (Ns.notes (S 0).1 (S 0).2).length a b := rfl
    rw [hres]
    clear hres hf hc hS hvc l0 l1
    generalize fndU (nth (Ns.notes (S 0).1 (S 0).2)) (Ns.notes (S 0).1 (S 0).2).length a b = f at *
    generalize (S 0).1 = s1 at *
    generalize (S 0).2 = s2 at *
    simp only [Nat.zero_mul, Nat.add_zero] at p0 p1
    obtain ⟨B, hB⟩ : ∃ B, (w.alloc (.cells #[.int .i64 a, .int .i64 b, .int .i64 c, .int .i64 d] 23)).heap.size = B := ⟨_, rfl⟩
    have hDB : D < B := by rw [← hB]; exact hPV.lt
    have hgD : g < D := by omega
    have HQ := Lib.hid (show HnQ w D B a b c d g o s1 s2 (w.alloc (.cells #[.int .i64 a, .int .i64 b, .int .i64 c, .int .i64 d] 23)) from ⟨by omega, hwV, hPV, cell_upH hgD hwV p0, cell_upH hgD hwV p1⟩)
    clear hwV hPV p0 p1 hg hB
    go_enter Tryd.func46, Tryd.ntmps46
    go_wp2_with fail
    refine wp_region_slots_at rfl rfl (fun base ys => (((((((((((base.set 15 (ys 0)).set 16 (ys 1)).set 17 (ys 2)).set 18 (ys 3)).set 19 (ys 4)).set 14 (ys 5)).set 20 (ys 6)).set 21 (ys 7)).set 22 (ys 8)).set 5 (ys 9)).set 6 (ys 10)).set 7 (ys 13)) (BxI _ B (HnQ w D B a b c d g o s1 s2) (hn5 a b c d g o vc s1 s2 x1 x2 x3 x4 f) 26 #[.int .u64 0, .int .u64 0] (jbx x1 x2 x3 x4)) (fun _ => undef) (by kernel_rfl) (BxI.start (fun j s k h => by rcases jbx_at x1 x2 x3 x4 j s k h with h | h <;> (rw [h.1]; decide)) (HnQ_up w D B a b c d g o s1 s2 hgD hDB _ _ ((Below.refl _ _).drew) HQ.out)) ?h9
    case h9 =>
      intro FF hFF
      simp only [List.set_cons_succ, List.set_cons_zero] at hFF
      subst hFF
      refine ⟨rfl, ?_, ?_⟩
      refine ⟨?_, ?_⟩
      · refine SlotStep.boxV (HnQ_up w D B a b c d g o s1 s2 hgD hDB) rfl rfl (fun j s k h => by rcases jbx_at x1 x2 x3 x4 j s k h with h | h <;> omega) ?_
        intro ys W hR hd K hK
        have c0 := cell4_0 hR.pl
        have c1 := cell4_1 hR.pl
        have c2 := cell4_2 hR.pl
        have c3 := cell4_3 hR.pl
        go_simp
        have hK2 := hK (.agg #[.int .i64 a, .int .i64 b, .int .i64 c, .int .i64 d]) _ (Below.refl _ _) rfl
        simp (config := { decide := true }) only [upd, if_true, if_false] at hK2
        exact hK2
      refine ⟨?_, ?_⟩
      · refine SlotStep.boxV (HnQ_up w D B a b c d g o s1 s2 hgD hDB) rfl rfl (fun j s k h => by rcases jbx_at x1 x2 x3 x4 j s k h with h | h <;> omega) ?_
        intro ys W hR hd K hK
        go_simp
        have hK2 := hK (.slice (some ⟨g, o, none⟩) 1 vc) _ (Below.refl _ _) rfl
        simp (config := { decide := true }) only [upd, if_true, if_false] at hK2
        exact hK2
      refine ⟨?_, ?_⟩
      · refine SlotStep.boxV (HnQ_up w D B a b c d g o s1 s2 hgD hDB) rfl rfl (fun j s k h => by rcases jbx_at x1 x2 x3 x4 j s k h with h | h <;> omega) ?_
        intro ys W hR hd K hK
        have dd1 : ys 1 = (.slice (some ⟨g, o, none⟩) 1 vc) := hd 1 (by kernel_rfl) (by decide)
        go_simp
        have hK2 := hK (.pointer (some ⟨g, o, none⟩)) _ (Below.refl _ _) rfl
        simp (config := { decide := true }) only [upd, if_true, if_false, dd1] at hK2
        exact hK2
      refine ⟨?_, ?_⟩
      · refine SlotStep.boxV (HnQ_up w D B a b c d g o s1 s2 hgD hDB) rfl rfl (fun j s k h => by rcases jbx_at x1 x2 x3 x4 j s k h with h | h <;> omega) ?_
        intro ys W hR hd K hK
        have dd2 : ys 2 = (.pointer (some ⟨g, o, none⟩)) := hd 2 (by kernel_rfl) (by decide)
        have c0 := hR.x0
        have c1 := hR.x1
        go_simp
        have hK2 := hK (.agg #[.int .u64 s1, .int .u64 s2]) _ (Below.refl _ _) rfl
        simp (config := { decide := true }) only [upd, if_true, if_false, dd2] at hK2
        exact hK2
      refine ⟨?_, ?_⟩
      · refine SlotStep.boxV (HnQ_up w D B a b c d g o s1 s2 hgD hDB) rfl rfl (fun j s k h => by rcases jbx_at x1 x2 x3 x4 j s k h with h | h <;> omega) ?_
        intro ys W hR hd K hK
        have dd0 : ys 0 = (.agg #[.int .i64 a, .int .i64 b, .int .i64 c, .int .i64 d]) := hd 0 (by kernel_rfl) (by decide)
        have dd3 : ys 3 = (.agg #[.int .u64 s1, .int .u64 s2]) := hd 3 (by kernel_rfl) (by decide)
        go_simp
        refine (FF0.out W (G.below (by rw [hD]; exact hR.bel))).mono ?_
        rintro e w5 ⟨rfl, hb5⟩
        have hK2 := hK (.tuple #[.agg #[.int .u64 x1, .int .u64 x2], .agg #[.int .u64 x3, .int .u64 x4], .bool f]) _ hb5 rfl
        simp (config := { decide := true }) only [upd, if_true, if_false, dd0, dd3] at hK2
        exact hK2
      refine ⟨?_, ?_⟩
      · refine SlotStep.boxV (HnQ_up w D B a b c d g o s1 s2 hgD hDB) rfl rfl (fun j s k h => by rcases jbx_at x1 x2 x3 x4 j s k h with h | h <;> omega) ?_
        intro ys W hR hd K hK
        have dd4 : ys 4 = (.tuple #[.agg #[.int .u64 x1, .int .u64 x2], .agg #[.int .u64 x3, .int .u64 x4], .bool f]) := hd 4 (by kernel_rfl) (by decide)
        go_simp
        have hK2 := hK (.tuple #[.agg #[.int .u64 x1, .int .u64 x2], .agg #[.int .u64 x3, .int .u64 x4], .bool f]) _ (Below.refl _ _) rfl
        simp (config := { decide := true }) only [upd, if_true, if_false, dd4] at hK2
        exact hK2
      refine ⟨?_, ?_⟩
      · refine SlotStep.boxV (HnQ_up w D B a b c d g o s1 s2 hgD hDB) rfl rfl (fun j s k h => by rcases jbx_at x1 x2 x3 x4 j s k h with h | h <;> omega) ?_
        intro ys W hR hd K hK
        have dd5 : ys 5 = (.tuple #[.agg #[.int .u64 x1, .int .u64 x2], .agg #[.int .u64 x3, .int .u64 x4], .bool f]) := hd 5 (by kernel_rfl) (by decide)
        go_simp
        have hK2 := hK (.agg #[.int .u64 x1, .int .u64 x2]) _ (Below.refl _ _) rfl
        simp (config := { decide := true }) only [upd, if_true, if_false, dd5] at hK2
        exact hK2
      refine ⟨?_, ?_⟩
      · refine SlotStep.boxV (HnQ_up w D B a b c d g o s1 s2 hgD hDB) rfl rfl (fun j s k h => by rcases jbx_at x1 x2 x3 x4 j s k h with h | h <;> omega) ?_
        intro ys W hR hd K hK
        have dd5 : ys 5 = (.tuple #[.agg #[.int .u64 x1, .int .u64 x2], .agg #[.int .u64 x3, .int .u64 x4], .bool f]) := hd 5 (by kernel_rfl) (by decide)
        go_simp
        have hK2 := hK (.agg #[.int .u64 x3, .int .u64 x4]) _ (Below.refl _ _) rfl
        simp (config := { decide := true }) only [upd, if_true, if_false, dd5] at hK2
        exact hK2
      refine ⟨?_, ?_⟩
      · refine SlotStep.boxV (HnQ_up w D B a b c d g o s1 s2 hgD hDB) rfl rfl (fun j s k h => by rcases jbx_at x1 x2 x3 x4 j s k h with h | h <;> omega) ?_
        intro ys W hR hd K hK
        have dd5 : ys 5 = (.tuple #[.agg #[.int .u64 x1, .int .u64 x2], .agg #[.int .u64 x3, .int .u64 x4], .bool f]) := hd 5 (by kernel_rfl) (by decide)
        go_simp
        have hK2 := hK (.bool f) _ (Below.refl _ _) rfl
        simp (config := { decide := true }) only [upd, if_true, if_false, dd5] at hK2
        exact hK2
      refine ⟨?_, ?_⟩
      · refine SlotStep.boxA (HnQ_up w D B a b c d g o s1 s2 hgD hDB) (fun A h => h.sz) rfl rfl rfl (by kernel_rfl) (fun j s k h => by rcases jbx_at x1 x2 x3 x4 j s k h with h | h <;> omega) (fun _ => trivial) ?_
        intro ys W hR K hK
        go_simp
        simp (config := { decide := true }) only [upd, if_true, if_false] at hK
        exact hK
      refine ⟨?_, ?_⟩
      · refine SlotStep.boxA (HnQ_up w D B a b c d g o s1 s2 hgD hDB) (fun A h => h.sz) rfl rfl rfl (by kernel_rfl) (fun j s k h => by rcases jbx_at x1 x2 x3 x4 j s k h with h | h <;> omega) (fun _ => trivial) ?_
        intro ys W hR K hK
        go_simp
        simp (config := { decide := true }) only [upd, if_true, if_false] at hK
        exact hK
      refine ⟨?_, ?_⟩
      · refine SlotStep.boxS (HnQ_st w D B a b c d g o s1 s2 hgD hDB) rfl (j := 9) (c := #[.int .u64 x1, .int .u64 x2]) rfl rfl (fun m s k h e => by rcases jbx_at x1 x2 x3 x4 m s k h with h | h <;> omega) (by kernel_rfl) (fun _ => trivial) ?_
        intro ys W b0 hR hd dB hDb hb K hK
        have dd6 : ys 6 = (.agg #[.int .u64 x1, .int .u64 x2]) := hd 6 (by kernel_rfl) (by decide)
        have r0 := cell2_0 hb
        have r1 := cell2_1 hb
        have f0 := free2_0 hb
        have f1 := free2_1 hb
        go_simp
        have hK2 := hK undef _ (((Below.refl B W).setCell (p := ⟨b0, 0, none⟩) hDb (.int .u64 x1)).setCell (p := ⟨b0, 1, none⟩) hDb (.int .u64 x2)) (set2_1 (x := .int .u64 x2) (set2_0 (x := .int .u64 x1) hb)) (fun k hk => (set_other hk).trans (set_other hk))
        simp (config := { decide := true }) only [upd, if_true, if_false, dd6, dB] at hK2
        exact hK2
      refine ⟨?_, ?_⟩
      · refine SlotStep.boxS (HnQ_st w D B a b c d g o s1 s2 hgD hDB) rfl (j := 10) (c := #[.int .u64 x3, .int .u64 x4]) rfl rfl (fun m s k h e => by rcases jbx_at x1 x2 x3 x4 m s k h with h | h <;> omega) (by kernel_rfl) (fun _ => trivial) ?_
        intro ys W b0 hR hd dB hDb hb K hK
        have dd7 : ys 7 = (.agg #[.int .u64 x3, .int .u64 x4]) := hd 7 (by kernel_rfl) (by decide)
        have r0 := cell2_0 hb
        have r1 := cell2_1 hb
        have f0 := free2_0 hb
        have f1 := free2_1 hb
        go_simp
        have hK2 := hK undef _ (((Below.refl B W).setCell (p := ⟨b0, 0, none⟩) hDb (.int .u64 x3)).setCell (p := ⟨b0, 1, none⟩) hDb (.int .u64 x4)) (set2_1 (x := .int .u64 x4) (set2_0 (x := .int .u64 x3) hb)) (fun k hk => (set_other hk).trans (set_other hk))
        simp (config := { decide := true }) only [upd, if_true, if_false, dd7, dB] at hK2
        exact hK2
      refine ⟨?_, ?_⟩
      · refine SlotStep.boxV (HnQ_up w D B a b c d g o s1 s2 hgD hDB) rfl rfl (fun j s k h => by rcases jbx_at x1 x2 x3 x4 j s k h with h | h <;> omega) ?_
        intro ys W hR hd K hK
        have dd8 : ys 8 = (.bool f) := hd 8 (by kernel_rfl) (by decide)
        go_simp
        have hK2 := hK (.bool f) _ (Below.refl _ _) rfl
        simp (config := { decide := true }) only [upd, if_true, if_false, dd8] at hK2
        exact hK2
      trivial
      · intro L ys W hL hI
        have y13 : ys 13 = .bool f := hI.vals 13 (by decide) (hL 13 (by decide))
        have HW := Lib.hid hI.rel.bel
        clear hI hL
        simp only [y13]
        go_wp2
        go_ret
        exact ⟨rfl, by rw [hD]; exact HW.out⟩
  | 2, hvc, hS =>
    obtain ⟨g, o, rfl, hg, hc⟩ := hvc (by omega)
    obtain ⟨p0, p1⟩ := hc 0 (by omega)
    obtain ⟨p2, p3⟩ := hc 1 (by omega)
    obtain ⟨l0, l1⟩ := hS 0 (by omega)
    obtain ⟨l2, l3⟩ := hS 1 (by omega)
    have h1 := fun W g => hh_any a b c d (S 0).1 (S 0).2 hb l0 l1 W g
    have H2 := Lib.hid (fun W g => hh_any a b c d (S 1).1 (S 1).2 hb l2 l3 W g)
    have hres : hndB a b S 2 = (holdX (nth (Ns.notes (S 0).1 (S 0).2)) (Ns.notes (S 0).1 (S 0).2).length a b && holdX (nth (Ns.notes (S 1).1 (S 1).2)) (Ns.notes (S 1).1 (S 1).2).length a b) := rfl
    rw [hres]
    clear hres hc hS hvc l0 l1 l2 l3
    generalize holdX (nth (Ns.notes (S 0).1 (S 0).2)) (Ns.notes (S 0).1 (S 0).2).length a b = k at *
    generalize holdX (nth (Ns.notes (S 1).1 (S 1).2)) (Ns.notes (S 1).1 (S 1).2).length a b = h at *
    generalize (S 0).1 = s1 at *
    generalize (S 0).2 = s2 at *
    generalize (S 1).1 = t1 at *
    generalize (S 1).2 = t2 at *
    simp only [Nat.zero_mul, Nat.one_mul, Nat.add_zero] at p0 p1 p2 p3
    have hgD : g < D := by omega
    have HQ := Lib.hid (show HnR w D a b c d g o s1 s2 t1 t2 (w.alloc (.cells #[.int .i64 a, .int .i64 b, .int .i64 c, .int .i64 d] 23)) from ⟨hwV, hPV, cell_upH hgD hwV p0, cell_upH hgD hwV p1, cell_upH hgD hwV p2, cell_upH hgD hwV p3⟩)
    clear hwV hPV p0 p1 p2 p3 hg
    cases k with
    | false =>
      have H1 := Lib.hid h1
      clear h1
      go_enter Tryd.func46, Tryd.ntmps46
      go_wp2_with fail
      refine wp_region_slots_at rfl rfl (fun base ys => ((((((((((((base.set 26 (ys 0)).set 27 (ys 1)).set 28 (ys 2)).set 29 (ys 3)).set 30 (ys 4)).set 31 (ys 5)).set 32 (ys 6)).set 33 (ys 7)).set 34 (ys 8)).set 35 (ys 9)).set 36 (ys 10)).set 37 (ys 11)).set 4 (ys 12)) (BelowI _ (HnR w D a b c d g o s1 s2 t1 t2) (hn8A D a b c d g o vc s1 s2 t1 t2 h)) (fun | 12 => .bool false | _ => undef) (by kernel_rfl) (below_start (HnR_up w D a b c d g o s1 s2 t1 t2 hD hgD _ _ ((Below.refl _ _).drew) HQ.out)) ?h
      case h =>
        intro FF hFF
        simp only [List.set_cons_succ, List.set_cons_zero] at hFF
        subst hFF
        refine ⟨rfl, ?_, ?_⟩
        refine ⟨?_, ?_⟩
        · refine SlotStep.below (HnR_up w D a b c d g o s1 s2 t1 t2 hD hgD) (hn8A_up D a b c d g o vc s1 s2 t1 t2 h) ?_
          intro ys W hR hd K hK
          have c0 := cell4_0 hR.pl
          have c1 := cell4_1 hR.pl
          have c2 := cell4_2 hR.pl
          have c3 := cell4_3 hR.pl
          go_simp
          have hK2 := hK (.agg #[.int .i64 a, .int .i64 b, .int .i64 c, .int .i64 d]) _ (Below.refl _ _) rfl
          simp (config := { decide := true }) only [upd, if_true, if_false] at hK2
          exact hK2
        refine ⟨?_, ?_⟩
        · refine SlotStep.below (HnR_up w D a b c d g o s1 s2 t1 t2 hD hgD) (hn8A_up D a b c d g o vc s1 s2 t1 t2 h) ?_
          intro ys W hR hd K hK
          go_simp
          have hK2 := hK (.slice (some ⟨g, o, none⟩) 2 vc) _ (Below.refl _ _) rfl
          simp (config := { decide := true }) only [upd, if_true, if_false] at hK2
          exact hK2
        refine ⟨?_, ?_⟩
        · refine SlotStep.below (HnR_up w D a b c d g o s1 s2 t1 t2 hD hgD) (hn8A_up D a b c d g o vc s1 s2 t1 t2 h) ?_
          intro ys W hR hd K hK
          have dd1 : ys 1 = (.slice (some ⟨g, o, none⟩) 2 vc) := hd 1 (by kernel_rfl) (by decide)
          go_simp
          have hK2 := hK (.pointer (some ⟨g, o, none⟩)) _ (Below.refl _ _) rfl
          simp (config := { decide := true }) only [upd, if_true, if_false, dd1] at hK2
          exact hK2
        refine ⟨?_, ?_⟩
        · refine SlotStep.below (HnR_up w D a b c d g o s1 s2 t1 t2 hD hgD) (hn8A_up D a b c d g o vc s1 s2 t1 t2 h) ?_
          intro ys W hR hd K hK
          have dd2 : ys 2 = (.pointer (some ⟨g, o, none⟩)) := hd 2 (by kernel_rfl) (by decide)
          have c0 := hR.x0
          have c1 := hR.x1
          go_simp
          have hK2 := hK (.agg #[.int .u64 s1, .int .u64 s2]) _ (Below.refl _ _) rfl
          simp (config := { decide := true }) only [upd, if_true, if_false, dd2] at hK2
          exact hK2
        refine ⟨?_, ?_⟩
        · refine SlotStep.below (HnR_up w D a b c d g o s1 s2 t1 t2 hD hgD) (hn8A_up D a b c d g o vc s1 s2 t1 t2 h) ?_
          intro ys W hR hd K hK
          have dd0 : ys 0 = (.agg #[.int .i64 a, .int .i64 b, .int .i64 c, .int .i64 d]) := hd 0 (by kernel_rfl) (by decide)
          have dd3 : ys 3 = (.agg #[.int .u64 s1, .int .u64 s2]) := hd 3 (by kernel_rfl) (by decide)
          go_simp
          refine (H1.out W (G.below (by rw [hD]; exact hR.bel))).mono ?_
          rintro e w5 ⟨rfl, hb5⟩
          have hK2 := hK (.bool false) _ hb5 rfl
          simp (config := { decide := true }) only [upd, if_true, if_false, dd0, dd3] at hK2
          exact hK2
        refine ⟨?_, ?_⟩
        · refine SlotStep.below (HnR_up w D a b c d g o s1 s2 t1 t2 hD hgD) (hn8A_up D a b c d g o vc s1 s2 t1 t2 h) ?_
          intro ys W hR hd K hK
          have dd4 : ys 4 = (.bool false) := hd 4 (by kernel_rfl) (by decide)
          go_simp
          have hK2 := hK (.bool false) _ (Below.refl _ _) rfl
          simp (config := { decide := true }) only [upd, if_true, if_false, dd4] at hK2
          exact hK2
        refine ⟨?_, ?_⟩
        · refine SlotStep.below (HnR_up w D a b c d g o s1 s2 t1 t2 hD hgD) (hn8A_up D a b c d g o vc s1 s2 t1 t2 h) ?_
          intro ys W hR hd K hK
          have dd5 : ys 5 = (.bool false) := hd 5 (by kernel_rfl) (by decide)
          go_simp
          have hK2 := hK (undef) _ (Below.refl _ _) rfl
          simp (config := { decide := true }) only [upd, if_true, if_false, dd5] at hK2
          exact hK2
        refine ⟨?_, ?_⟩
        · refine SlotStep.below (HnR_up w D a b c d g o s1 s2 t1 t2 hD hgD) (hn8A_up D a b c d g o vc s1 s2 t1 t2 h) ?_
          intro ys W hR hd K hK
          have dd5 : ys 5 = (.bool false) := hd 5 (by kernel_rfl) (by decide)
          go_simp
          have hK2 := hK (undef) _ (Below.refl _ _) rfl
          simp (config := { decide := true }) only [upd, if_true, if_false, dd5] at hK2
          exact hK2
        refine ⟨?_, ?_⟩
        · refine SlotStep.below (HnR_up w D a b c d g o s1 s2 t1 t2 hD hgD) (hn8A_up D a b c d g o vc s1 s2 t1 t2 h) ?_
          intro ys W hR hd K hK
          have dd5 : ys 5 = (.bool false) := hd 5 (by kernel_rfl) (by decide)
          have dd7 : ys 7 = (undef) := hd 7 (by kernel_rfl) (by decide)
          go_simp
          have hK2 := hK (undef) _ (Below.refl _ _) rfl
          simp (config := { decide := true }) only [upd, if_true, if_false, dd5, dd7] at hK2
          exact hK2
        refine ⟨?_, ?_⟩
        · refine SlotStep.below (HnR_up w D a b c d g o s1 s2 t1 t2 hD hgD) (hn8A_up D a b c d g o vc s1 s2 t1 t2 h) ?_
          intro ys W hR hd K hK
          have dd5 : ys 5 = (.bool false) := hd 5 (by kernel_rfl) (by decide)
          have dd8 : ys 8 = (undef) := hd 8 (by kernel_rfl) (by decide)
          go_simp
          have hK2 := hK (undef) _ (Below.refl _ _) rfl
          simp (config := { decide := true }) only [upd, if_true, if_false, dd5, dd8] at hK2
          exact hK2
        refine ⟨?_, ?_⟩
        · refine SlotStep.below (HnR_up w D a b c d g o s1 s2 t1 t2 hD hgD) (hn8A_up D a b c d g o vc s1 s2 t1 t2 h) ?_
          intro ys W hR hd K hK
          have dd5 : ys 5 = (.bool false) := hd 5 (by kernel_rfl) (by decide)
          have dd6 : ys 6 = (undef) := hd 6 (by kernel_rfl) (by decide)
          have dd9 : ys 9 = (undef) := hd 9 (by kernel_rfl) (by decide)
          go_simp
          have hK2 := hK (undef) _ (Below.refl _ _) rfl
          simp (config := { decide := true }) only [upd, if_true, if_false, dd5, dd6, dd9] at hK2
          exact hK2
        refine ⟨?_, ?_⟩
        · refine SlotStep.below (HnR_up w D a b c d g o s1 s2 t1 t2 hD hgD) (hn8A_up D a b c d g o vc s1 s2 t1 t2 h) ?_
          intro ys W hR hd K hK
          have dd5 : ys 5 = (.bool false) := hd 5 (by kernel_rfl) (by decide)
          have dd10 : ys 10 = (undef) := hd 10 (by kernel_rfl) (by decide)
          go_simp
          have hK2 := hK (.bool false) _ (Below.refl _ _) rfl
          simp (config := { decide := true }) only [upd, if_true, if_false, dd5, dd10] at hK2
          exact hK2
        refine ⟨?_, ?_⟩
        · refine SlotStep.below (HnR_up w D a b c d g o s1 s2 t1 t2 hD hgD) (hn8A_up D a b c d g o vc s1 s2 t1 t2 h) ?_
          intro ys W hR hd K hK
          have dd11 : ys 11 = (.bool false) := hd 11 (by kernel_rfl) (by decide)
          go_simp
          have hK2 := hK (.bool false) _ (Below.refl _ _) rfl
          simp (config := { decide := true }) only [upd, if_true, if_false, dd11] at hK2
          exact hK2
        trivial
        · intro L ys W hL hI
          obtain ⟨hR, hj⟩ := hI
          have y12 : ys 12 = .bool false := hj 12 (by decide) (hL 12 (by decide))
          have HW := Lib.hid hR.bel
          clear hR hj hL
          simp only [y12]
          go_wp2
          go_ret
          exact ⟨by simp, by rw [hD]; exact HW.out⟩
    | true =>
      have H1 := Lib.hid h1
      clear h1
      go_enter Tryd.func46, Tryd.ntmps46
      go_wp2_with fail
      refine wp_region_slots_at rfl rfl (fun base ys => ((((((((((((base.set 26 (ys 0)).set 27 (ys 1)).set 28 (ys 2)).set 29 (ys 3)).set 30 (ys 4)).set 31 (ys 5)).set 32 (ys 6)).set 33 (ys 7)).set 34 (ys 8)).set 35 (ys 9)).set 36 (ys 10)).set 37 (ys 11)).set 4 (ys 12)) (BelowI _ (HnR w D a b c d g o s1 s2 t1 t2) (hn8B D a b c d g o vc s1 s2 t1 t2 h)) (fun | 12 => .bool false | _ => undef) (by kernel_rfl) (below_start (HnR_up w D a b c d g o s1 s2 t1 t2 hD hgD _ _ ((Below.refl _ _).drew) HQ.out)) ?h
      case h =>
        intro FF hFF
        simp only [List.set_cons_succ, List.set_cons_zero] at hFF
        subst hFF
        refine ⟨rfl, ?_, ?_⟩
        refine ⟨?_, ?_⟩
        · refine SlotStep.below (HnR_up w D a b c d g o s1 s2 t1 t2 hD hgD) (hn8B_up D a b c d g o vc s1 s2 t1 t2 h) ?_
          intro ys W hR hd K hK
          have c0 := cell4_0 hR.pl
          have c1 := cell4_1 hR.pl
          have c2 := cell4_2 hR.pl
          have c3 := cell4_3 hR.pl
          go_simp
          have hK2 := hK (.agg #[.int .i64 a, .int .i64 b, .int .i64 c, .int .i64 d]) _ (Below.refl _ _) rfl
          simp (config := { decide := true }) only [upd, if_true, if_false] at hK2
          exact hK2
        refine ⟨?_, ?_⟩
        · refine SlotStep.below (HnR_up w D a b c d g o s1 s2 t1 t2 hD hgD) (hn8B_up D a b c d g o vc s1 s2 t1 t2 h) ?_
          intro ys W hR hd K hK
          go_simp
          have hK2 := hK (.slice (some ⟨g, o, none⟩) 2 vc) _ (Below.refl _ _) rfl
          simp (config := { decide := true }) only [upd, if_true, if_false] at hK2
          exact hK2
        refine ⟨?_, ?_⟩
        · refine SlotStep.below (HnR_up w D a b c d g o s1 s2 t1 t2 hD hgD) (hn8B_up D a b c d g o vc s1 s2 t1 t2 h) ?_
          intro ys W hR hd K hK
          have dd1 : ys 1 = (.slice (some ⟨g, o, none⟩) 2 vc) := hd 1 (by kernel_rfl) (by decide)
          go_simp
          have hK2 := hK (.pointer (some ⟨g, o, none⟩)) _ (Below.refl _ _) rfl
          simp (config := { decide := true }) only [upd, if_true, if_false, dd1] at hK2
          exact hK2
        refine ⟨?_, ?_⟩
        · refine SlotStep.below (HnR_up w D a b c d g o s1 s2 t1 t2 hD hgD) (hn8B_up D a b c d g o vc s1 s2 t1 t2 h) ?_
          intro ys W hR hd K hK
          have dd2 : ys 2 = (.pointer (some ⟨g, o, none⟩)) := hd 2 (by kernel_rfl) (by decide)
          have c0 := hR.x0
          have c1 := hR.x1
          go_simp
          have hK2 := hK (.agg #[.int .u64 s1, .int .u64 s2]) _ (Below.refl _ _) rfl
          simp (config := { decide := true }) only [upd, if_true, if_false, dd2] at hK2
          exact hK2
        refine ⟨?_, ?_⟩
        · refine SlotStep.below (HnR_up w D a b c d g o s1 s2 t1 t2 hD hgD) (hn8B_up D a b c d g o vc s1 s2 t1 t2 h) ?_
          intro ys W hR hd K hK
          have dd0 : ys 0 = (.agg #[.int .i64 a, .int .i64 b, .int .i64 c, .int .i64 d]) := hd 0 (by kernel_rfl) (by decide)
          have dd3 : ys 3 = (.agg #[.int .u64 s1, .int .u64 s2]) := hd 3 (by kernel_rfl) (by decide)
          go_simp
          refine (H1.out W (G.below (by rw [hD]; exact hR.bel))).mono ?_
          rintro e w5 ⟨rfl, hb5⟩
          have hK2 := hK (.bool true) _ hb5 rfl
          simp (config := { decide := true }) only [upd, if_true, if_false, dd0, dd3] at hK2
          exact hK2
        refine ⟨?_, ?_⟩
        · refine SlotStep.below (HnR_up w D a b c d g o s1 s2 t1 t2 hD hgD) (hn8B_up D a b c d g o vc s1 s2 t1 t2 h) ?_
          intro ys W hR hd K hK
          have dd4 : ys 4 = (.bool true) := hd 4 (by kernel_rfl) (by decide)
          go_simp
          have hK2 := hK (.bool true) _ (Below.refl _ _) rfl
          simp (config := { decide := true }) only [upd, if_true, if_false, dd4] at hK2
          exact hK2
        refine ⟨?_, ?_⟩
        · refine SlotStep.below (HnR_up w D a b c d g o s1 s2 t1 t2 hD hgD) (hn8B_up D a b c d g o vc s1 s2 t1 t2 h) ?_
          intro ys W hR hd K hK
          have dd5 : ys 5 = (.bool true) := hd 5 (by kernel_rfl) (by decide)
          have c0 := cell4_0 hR.pl
          have c1 := cell4_1 hR.pl
          have c2 := cell4_2 hR.pl
          have c3 := cell4_3 hR.pl
          go_simp
          have hK2 := hK (.agg #[.int .i64 a, .int .i64 b, .int .i64 c, .int .i64 d]) _ (Below.refl _ _) rfl
          simp (config := { decide := true }) only [upd, if_true, if_false, dd5] at hK2
          exact hK2
        refine ⟨?_, ?_⟩
        · refine SlotStep.below (HnR_up w D a b c d g o s1 s2 t1 t2 hD hgD) (hn8B_up D a b c d g o vc s1 s2 t1 t2 h) ?_
          intro ys W hR hd K hK
          have dd5 : ys 5 = (.bool true) := hd 5 (by kernel_rfl) (by decide)
          go_simp
          have hK2 := hK (.slice (some ⟨g, o, none⟩) 2 vc) _ (Below.refl _ _) rfl
          simp (config := { decide := true }) only [upd, if_true, if_false, dd5] at hK2
          exact hK2
        refine ⟨?_, ?_⟩
        · refine SlotStep.below (HnR_up w D a b c d g o s1 s2 t1 t2 hD hgD) (hn8B_up D a b c d g o vc s1 s2 t1 t2 h) ?_
          intro ys W hR hd K hK
          have dd5 : ys 5 = (.bool true) := hd 5 (by kernel_rfl) (by decide)
          have dd7 : ys 7 = (.slice (some ⟨g, o, none⟩) 2 vc) := hd 7 (by kernel_rfl) (by decide)
          go_simp
          have hK2 := hK (.pointer (some ⟨g, o + 2, none⟩)) _ (Below.refl _ _) rfl
          simp (config := { decide := true }) only [upd, if_true, if_false, dd5, dd7] at hK2
          exact hK2
        refine ⟨?_, ?_⟩
        · refine SlotStep.below (HnR_up w D a b c d g o s1 s2 t1 t2 hD hgD) (hn8B_up D a b c d g o vc s1 s2 t1 t2 h) ?_
          intro ys W hR hd K hK
          have dd5 : ys 5 = (.bool true) := hd 5 (by kernel_rfl) (by decide)
          have dd8 : ys 8 = (.pointer (some ⟨g, o + 2, none⟩)) := hd 8 (by kernel_rfl) (by decide)
          have c0 := hR.y0
          have c1 := hR.y1
          go_simp
          have hK2 := hK (.agg #[.int .u64 t1, .int .u64 t2]) _ (Below.refl _ _) rfl
          simp (config := { decide := true }) only [upd, if_true, if_false, dd5, dd8] at hK2
          exact hK2
        refine ⟨?_, ?_⟩
        · refine SlotStep.below (HnR_up w D a b c d g o s1 s2 t1 t2 hD hgD) (hn8B_up D a b c d g o vc s1 s2 t1 t2 h) ?_
          intro ys W hR hd K hK
          have dd5 : ys 5 = (.bool true) := hd 5 (by kernel_rfl) (by decide)
          have dd6 : ys 6 = (.agg #[.int .i64 a, .int .i64 b, .int .i64 c, .int .i64 d]) := hd 6 (by kernel_rfl) (by decide)
          have dd9 : ys 9 = (.agg #[.int .u64 t1, .int .u64 t2]) := hd 9 (by kernel_rfl) (by decide)
          go_simp
          refine (H2.out W (G.below (by rw [hD]; exact hR.bel))).mono ?_
          rintro e w5 ⟨rfl, hb5⟩
          have hK2 := hK (.bool h) _ hb5 rfl
          simp (config := { decide := true }) only [upd, if_true, if_false, dd5, dd6, dd9] at hK2
          exact hK2
        refine ⟨?_, ?_⟩
        · refine SlotStep.below (HnR_up w D a b c d g o s1 s2 t1 t2 hD hgD) (hn8B_up D a b c d g o vc s1 s2 t1 t2 h) ?_
          intro ys W hR hd K hK
          have dd5 : ys 5 = (.bool true) := hd 5 (by kernel_rfl) (by decide)
          have dd10 : ys 10 = (.bool h) := hd 10 (by kernel_rfl) (by decide)
          go_simp
          have hK2 := hK (.bool h) _ (Below.refl _ _) rfl
          simp (config := { decide := true }) only [upd, if_true, if_false, dd5, dd10] at hK2
          exact hK2
        refine ⟨?_, ?_⟩
        · refine SlotStep.below (HnR_up w D a b c d g o s1 s2 t1 t2 hD hgD) (hn8B_up D a b c d g o vc s1 s2 t1 t2 h) ?_
          intro ys W hR hd K hK
          have dd11 : ys 11 = (.bool h) := hd 11 (by kernel_rfl) (by decide)
          go_simp
          have hK2 := hK (.bool h) _ (Below.refl _ _) rfl
          simp (config := { decide := true }) only [upd, if_true, if_false, dd11] at hK2
          exact hK2
        trivial
        · intro L ys W hL hI
          obtain ⟨hR, hj⟩ := hI
          have y12 : ys 12 = .bool h := hj 12 (by decide) (hL 12 (by decide))
          have HW := Lib.hid hR.bel
          clear hR hj hL
          simp only [y12]
          go_wp2
          go_ret
          exact ⟨by simp, by rw [hD]; exact HW.out⟩
end Go.Proofs.YtinopmdefndhoaaDoor
