/- divide: quotient, rounded down, and remainder of numbers. -/
import Derived.Test.YthdoadkdofgenaaGreatDoorImP6
import Derived.Test.YthdoadkdofgenaaGreatDoorIvB
import Derived.Test.YthdoadkdofgenaaGreatDoorImN
import Derived.Test.YthdoadkdofgenaaGreatDoorImYs
namespace Go.Proofs.YthdoadkdofgenaaGreatDoor
open Go Go.RowKit Go.Shelf

/-- What the last region keeps. -/
structure DvR (D : Nat) (w : World) (n1 n2 : Bool) (s1 s2 q r : Value) (mq mr : Nat) (A : World) : Prop where
  below : Below D w A
  x : A.heap[D]? = some (.cells #[.bool n1, s1] 106)
  y : A.heap[D + 1]? = some (.cells #[.bool n2, s2] 106)
  a : ∃ (u : Bool) (a1 : Option Addr) (a2 a3 : Nat), A.heap[D + 1 + 1]? = some (.cells #[.bool u, .slice a1 a2 a3] 106)
  b : ∃ (u : Bool) (a1 : Option Addr) (a2 a3 : Nat), A.heap[D + 1 + 1 + 1]? = some (.cells #[.bool u, .slice a1 a2 a3] 106)
  q : Mag A q mq
  r : Mag A r mr
theorem DvR.drew {D : Nat} {w : World} {n1 n2 : Bool} {s1 s2 q r : Value} {mq mr : Nat} {A : World} (h : DvR D w n1 n2 s1 s2 q r mq mr A) : DvR D w n1 n2 s1 s2 q r mq mr A.drew :=
  ⟨h.below.trans ⟨rfl, rfl, rfl, Nat.le_refl _, fun _ _ => rfl⟩, h.x, h.y, h.a, h.b, h.q.below (B := A.heap.size) ⟨rfl, rfl, rfl, Nat.le_refl _, fun _ _ => rfl⟩ (Nat.le_refl _), h.r.below (B := A.heap.size) ⟨rfl, rfl, rfl, Nat.le_refl _, fun _ _ => rfl⟩ (Nat.le_refl _)⟩
theorem mag_two {W : World} {v : Value} {x : Nat} (h : Mag W v x) {b : Nat} {u : Bool} {a1 : Option Addr} {a2 a3 : Nat} {T : TypeId} (hb : W.heap[b]? = some (.cells #[.bool u, .slice a1 a2 a3] T)) (y z : Value) : Mag ((W.setCell ⟨b, 0, none⟩ y).setCell ⟨b, 1, none⟩ z) v x := by
  obtain ⟨sa, cap, b', o, h1, h2⟩ := h
  have hne := row_ne h2 hb
  exact ⟨sa, cap, b', o, h1, (h2.set ⟨b, 0, none⟩ hne y).set ⟨b, 1, none⟩ hne z⟩
def dvI (D : Nat) (n1 n2 ng : Bool) (q r : Value) : Nat → Value → World → Prop
  | 0, v, _ => v = .pointer (some ⟨D, 0, none⟩)
  | 1, v, _ => v = .bool n1
  | 2, v, _ => v = .pointer (some ⟨D + 1, 0, none⟩)
  | 3, v, _ => v = .bool n2
  | 4, v, _ => v = .bool ng
  | 5, v, _ => v = q
  | 6, v, _ => v = .agg #[.bool ng, q]
  | 7, v, _ => v = .pointer (some ⟨D + 1, 0, none⟩)
  | 8, v, _ => v = .bool n2
  | 9, v, _ => v = r
  | 10, v, _ => v = .agg #[.bool n2, r]
  | 11, _, A => A.heap[D + 1 + 1]? = some (.cells #[.bool ng, q] 106)
  | 12, _, A => A.heap[D + 1 + 1 + 1]? = some (.cells #[.bool n2, r] 106)
  | _, _, _ => True
def dvS (D : Nat) (w : World) (n1 n2 ng : Bool) (s1 s2 q r : Value) (mq mr : Nat) (A B : World) : Prop :=
  DvR D w n1 n2 s1 s2 q r mq mr B ∧ (A.heap[D + 1 + 1]? = some (.cells #[.bool ng, q] 106) → B.heap[D + 1 + 1]? = some (.cells #[.bool ng, q] 106)) ∧
    (A.heap[D + 1 + 1 + 1]? = some (.cells #[.bool n2, r] 106) → B.heap[D + 1 + 1 + 1]? = some (.cells #[.bool n2, r] 106))
theorem dvS_up (D : Nat) (w : World) (n1 n2 ng : Bool) (s1 s2 q r : Value) (mq mr : Nat) : ∀ (j : Nat) (v : Value) (A B : World), DvR D w n1 n2 s1 s2 q r mq mr A → dvS D w n1 n2 ng s1 s2 q r mq mr A B → dvI D n1 n2 ng q r j v A → dvI D n1 n2 ng q r j v B
  | 0, _, _, _, _, _, h => h
  | 1, _, _, _, _, _, h => h
  | 2, _, _, _, _, _, h => h
  | 3, _, _, _, _, _, h => h
  | 4, _, _, _, _, _, h => h
  | 5, _, _, _, _, _, h => h
  | 6, _, _, _, _, _, h => h
  | 7, _, _, _, _, _, h => h
  | 8, _, _, _, _, _, h => h
  | 9, _, _, _, _, _, h => h
  | 10, _, _, _, _, _, h => h
  | 11, _, _, _, _, hs, h => hs.2.1 h
  | 12, _, _, _, _, hs, h => hs.2.2 h
  | _ + 13, _, _, _, _, _, _ => trivial

set_option maxRecDepth 100000 in
set_option maxHeartbeats 4000000 in
theorem divide_same (n1 : Bool) (sx : Option Addr) (cx bx ox X : Nat) (sy : Option Addr) (cpy by_ oy Y : Nat) (hY : 0 < Y) (w : World) (hx : Row w sx (nd X) cx bx ox X) (hy : Row w sy (nd Y) cpy by_ oy Y) (hn : nd X ≤ 300000) (_hny : nd Y ≤ 300000) :
    Calls Tryz.prog 96 #[.agg #[.bool n1, .slice sx (nd X) cx], .agg #[.bool n1, .slice sy (nd Y) cpy]] w fun e w' => (∃ u v, e = .returned (.tuple #[u, v]) ∧ Num w' u (sv false (X / Y)) ∧ Num w' v (sv n1 (X % Y))) ∧ Below w.heap.size w w' := by
  have DV := Lib.hid (fun W (hb : Below w.heap.size w W) => divM_any sx cx bx ox X sy cpy by_ oy Y hY W (hx.below hb (Nat.le_refl _)) (hy.below hb (Nat.le_refl _)) hn)
  clear hx hy
  generalize nd X = nx at *
  generalize nd Y = ny at *
  generalize hMQ : X / Y = mq at *
  generalize hMR : X % Y = mr at *
  obtain ⟨D, hD⟩ : ∃ D, w.heap.size = D := ⟨_, rfl⟩
  go_enter Tryz.func96, Tryz.ntmps96
  go_wp2_with fail
  obtain ⟨W0, hW0⟩ : ∃ W0, ((((w.alloc (.cells #[.bool n1, .slice sx nx cx] 106)).alloc (.cells #[.bool n1, .slice sy ny cpy] 106)).alloc (.cells #[.bool false, .slice none 0 0] 106)).alloc (.cells #[.bool false, .slice none 0 0] 106)) = W0 := ⟨_, rfl⟩
  have hw0 : Below D w W0 := by rw [← hW0]; exact ((((Below.refl _ _).alloc (by omega) _).alloc (by simp; omega) _).alloc (by simp; omega) _).alloc (by simp; omega) _
  have h0x : W0.heap[D]? = some (.cells #[.bool n1, .slice sx nx cx] 106) := by rw [← hW0]; exact heap_up (heap_up (heap_up (heap_at hD.symm)))
  have h0y : W0.heap[D + 1]? = some (.cells #[.bool n1, .slice sy ny cpy] 106) := by rw [← hW0]; exact heap_up (heap_up (heap_at (by simp [hD])))
  have h0a : W0.heap[D + 1 + 1]? = some (.cells #[.bool false, .slice none 0 0] 106) := by rw [← hW0]; exact heap_up (heap_at (by simp [hD]))
  have h0b : W0.heap[D + 1 + 1 + 1]? = some (.cells #[.bool false, .slice none 0 0] 106) := by rw [← hW0]; exact heap_at (by simp [hD])
  have hz0 : W0.heap.size = D + 4 := by rw [← hW0]; simp [hD]
  rw [hW0]
  clear hW0
  refine (DV.out W0 (hD ▸ hw0)).mono ?_
  rintro e w1 ⟨⟨v1, v2, rfl, hm1, hm2⟩, hb1⟩
  have hw1 := hw0.trans (hb1.mono (by omega))
  have h1x := (hb1.block D (by omega)).trans h0x
  have h1y := (hb1.block (D + 1) (by omega)).trans h0y
  have h1a := (hb1.block (D + 1 + 1) (by omega)).trans h0a
  have h1b := (hb1.block (D + 1 + 1 + 1) (by omega)).trans h0b
  have hz1 : D + 4 ≤ w1.heap.size := by have := hb1.size; omega
  obtain ⟨s1, c1, b1, o1, rfl, hr1⟩ := hm1
  obtain ⟨s2, c2, b2, o2, rfl, hr2⟩ := hm2
  have k0 := cells_fst h1x
  have k1 := cells_fst h1y
  have HR := Lib.hid (show DvR D w n1 n1 (.slice sx nx cx) (.slice sy ny cpy) (.slice s1 (nd mq) c1) (.slice s2 (nd mr) c2) mq mr w1 from ⟨hw1, h1x, h1y, ⟨_, _, _, _, h1a⟩, ⟨_, _, _, _, h1b⟩, ⟨_, _, b1, o1, rfl, hr1⟩, ⟨_, _, b2, o2, rfl, hr2⟩⟩)
  clear hr1 hr2 hb1 hw1 hw0 h0x h0y h0a h0b h1x h1y h1a h1b DV
  generalize nd mq = lq at *
  generalize nd mr = lr at *
  go_wp2_with fail
  refine wp_region_slots_at rfl rfl (fun base ys => ((((((((((base.set 33 (ys 0)).set 34 (ys 1)).set 35 (ys 2)).set 36 (ys 3)).set 37 (ys 4)).set 38 (ys 5)).set 39 (ys 6)).set 40 (ys 7)).set 41 (ys 8)).set 42 (ys 9)).set 43 (ys 10)) (BelowI _ (DvR D w n1 n1 (.slice sx nx cx) (.slice sy ny cpy) (.slice s1 lq c1) (.slice s2 lr c2) mq mr) (dvI D n1 n1 false (.slice s1 lq c1) (.slice s2 lr c2))) (fun _ => undef) (by kernel_rfl) (below_start (HR.out.drew)) ?h
  case h =>
    intro F hF
    simp only [List.set_cons_succ, List.set_cons_zero] at hF
    subst hF
    refine ⟨rfl, ?_, ?_⟩
    refine ⟨?_, ?_⟩
    · refine SlotStep.rel (dvS D w n1 n1 false (.slice sx nx cx) (.slice sy ny cpy) (.slice s1 lq c1) (.slice s2 lr c2) mq mr) (fun A B h _ => h.1) (dvS_up D w n1 n1 false (.slice sx nx cx) (.slice sy ny cpy) (.slice s1 lq c1) (.slice s2 lr c2) mq mr) ?_
      intro ys W hR hd K hK
      go_simp
      have hK2 := hK (.pointer (some ⟨D, 0, none⟩)) _ ⟨hR, id, id⟩ rfl
      simp (config := { decide := true }) only [upd, if_true, if_false] at hK2
      exact hK2
    refine ⟨?_, ?_⟩
    · refine SlotStep.rel (dvS D w n1 n1 false (.slice sx nx cx) (.slice sy ny cpy) (.slice s1 lq c1) (.slice s2 lr c2) mq mr) (fun A B h _ => h.1) (dvS_up D w n1 n1 false (.slice sx nx cx) (.slice sy ny cpy) (.slice s1 lq c1) (.slice s2 lr c2) mq mr) ?_
      intro ys W hR hd K hK
      have d0 : ys 0 = .pointer (some ⟨D, 0, none⟩) := hd 0 (by kernel_rfl) (by decide)
      have c0 := cells_fst hR.x
      go_simp
      have hK2 := hK (.bool n1) _ ⟨hR, id, id⟩ rfl
      simp (config := { decide := true }) only [upd, if_true, if_false, d0] at hK2
      exact hK2
    refine ⟨?_, ?_⟩
    · refine SlotStep.rel (dvS D w n1 n1 false (.slice sx nx cx) (.slice sy ny cpy) (.slice s1 lq c1) (.slice s2 lr c2) mq mr) (fun A B h _ => h.1) (dvS_up D w n1 n1 false (.slice sx nx cx) (.slice sy ny cpy) (.slice s1 lq c1) (.slice s2 lr c2) mq mr) ?_
      intro ys W hR hd K hK
      go_simp
      have hK2 := hK (.pointer (some ⟨D + 1, 0, none⟩)) _ ⟨hR, id, id⟩ rfl
      simp (config := { decide := true }) only [upd, if_true, if_false] at hK2
      exact hK2
    refine ⟨?_, ?_⟩
    · refine SlotStep.rel (dvS D w n1 n1 false (.slice sx nx cx) (.slice sy ny cpy) (.slice s1 lq c1) (.slice s2 lr c2) mq mr) (fun A B h _ => h.1) (dvS_up D w n1 n1 false (.slice sx nx cx) (.slice sy ny cpy) (.slice s1 lq c1) (.slice s2 lr c2) mq mr) ?_
      intro ys W hR hd K hK
      have d2 : ys 2 = .pointer (some ⟨D + 1, 0, none⟩) := hd 2 (by kernel_rfl) (by decide)
      have c0 := cells_fst hR.y
      go_simp
      have hK2 := hK (.bool n1) _ ⟨hR, id, id⟩ rfl
      simp (config := { decide := true }) only [upd, if_true, if_false, d2] at hK2
      exact hK2
    refine ⟨?_, ?_⟩
    · refine SlotStep.rel (dvS D w n1 n1 false (.slice sx nx cx) (.slice sy ny cpy) (.slice s1 lq c1) (.slice s2 lr c2) mq mr) (fun A B h _ => h.1) (dvS_up D w n1 n1 false (.slice sx nx cx) (.slice sy ny cpy) (.slice s1 lq c1) (.slice s2 lr c2) mq mr) ?_
      intro ys W hR hd K hK
      have d1 : ys 1 = .bool n1 := hd 1 (by kernel_rfl) (by decide)
      have d3 : ys 3 = .bool n1 := hd 3 (by kernel_rfl) (by decide)
      go_simp
      have hK2 := hK (.bool false) _ ⟨hR, id, id⟩ rfl
      simp (config := { decide := true }) only [upd, if_true, if_false, d1, d3] at hK2
      exact hK2
    refine ⟨?_, ?_⟩
    · refine SlotStep.rel (dvS D w n1 n1 false (.slice sx nx cx) (.slice sy ny cpy) (.slice s1 lq c1) (.slice s2 lr c2) mq mr) (fun A B h _ => h.1) (dvS_up D w n1 n1 false (.slice sx nx cx) (.slice sy ny cpy) (.slice s1 lq c1) (.slice s2 lr c2) mq mr) ?_
      intro ys W hR hd K hK
      go_simp
      have hK2 := hK ((.slice s1 lq c1)) _ ⟨hR, id, id⟩ rfl
      simp (config := { decide := true }) only [upd, if_true, if_false] at hK2
      exact hK2
    refine ⟨?_, ?_⟩
    · refine SlotStep.rel (dvS D w n1 n1 false (.slice sx nx cx) (.slice sy ny cpy) (.slice s1 lq c1) (.slice s2 lr c2) mq mr) (fun A B h _ => h.1) (dvS_up D w n1 n1 false (.slice sx nx cx) (.slice sy ny cpy) (.slice s1 lq c1) (.slice s2 lr c2) mq mr) ?_
      intro ys W hR hd K hK
      have d4 : ys 4 = .bool false := hd 4 (by kernel_rfl) (by decide)
      have d5 : ys 5 = (.slice s1 lq c1) := hd 5 (by kernel_rfl) (by decide)
      go_simp
      have hK2 := hK (.agg #[.bool false, (.slice s1 lq c1)]) _ ⟨hR, id, id⟩ rfl
      simp (config := { decide := true }) only [upd, if_true, if_false, d4, d5] at hK2
      exact hK2
    refine ⟨?_, ?_⟩
    · refine SlotStep.rel (dvS D w n1 n1 false (.slice sx nx cx) (.slice sy ny cpy) (.slice s1 lq c1) (.slice s2 lr c2) mq mr) (fun A B h _ => h.1) (dvS_up D w n1 n1 false (.slice sx nx cx) (.slice sy ny cpy) (.slice s1 lq c1) (.slice s2 lr c2) mq mr) ?_
      intro ys W hR hd K hK
      go_simp
      have hK2 := hK (.pointer (some ⟨D + 1, 0, none⟩)) _ ⟨hR, id, id⟩ rfl
      simp (config := { decide := true }) only [upd, if_true, if_false] at hK2
      exact hK2
    refine ⟨?_, ?_⟩
    · refine SlotStep.rel (dvS D w n1 n1 false (.slice sx nx cx) (.slice sy ny cpy) (.slice s1 lq c1) (.slice s2 lr c2) mq mr) (fun A B h _ => h.1) (dvS_up D w n1 n1 false (.slice sx nx cx) (.slice sy ny cpy) (.slice s1 lq c1) (.slice s2 lr c2) mq mr) ?_
      intro ys W hR hd K hK
      have d7 : ys 7 = .pointer (some ⟨D + 1, 0, none⟩) := hd 7 (by kernel_rfl) (by decide)
      have c0 := cells_fst hR.y
      go_simp
      have hK2 := hK (.bool n1) _ ⟨hR, id, id⟩ rfl
      simp (config := { decide := true }) only [upd, if_true, if_false, d7] at hK2
      exact hK2
    refine ⟨?_, ?_⟩
    · refine SlotStep.rel (dvS D w n1 n1 false (.slice sx nx cx) (.slice sy ny cpy) (.slice s1 lq c1) (.slice s2 lr c2) mq mr) (fun A B h _ => h.1) (dvS_up D w n1 n1 false (.slice sx nx cx) (.slice sy ny cpy) (.slice s1 lq c1) (.slice s2 lr c2) mq mr) ?_
      intro ys W hR hd K hK
      go_simp
      have hK2 := hK ((.slice s2 lr c2)) _ ⟨hR, id, id⟩ rfl
      simp (config := { decide := true }) only [upd, if_true, if_false] at hK2
      exact hK2
    refine ⟨?_, ?_⟩
    · refine SlotStep.rel (dvS D w n1 n1 false (.slice sx nx cx) (.slice sy ny cpy) (.slice s1 lq c1) (.slice s2 lr c2) mq mr) (fun A B h _ => h.1) (dvS_up D w n1 n1 false (.slice sx nx cx) (.slice sy ny cpy) (.slice s1 lq c1) (.slice s2 lr c2) mq mr) ?_
      intro ys W hR hd K hK
      have d8 : ys 8 = .bool n1 := hd 8 (by kernel_rfl) (by decide)
      have d9 : ys 9 = (.slice s2 lr c2) := hd 9 (by kernel_rfl) (by decide)
      go_simp
      have hK2 := hK (.agg #[.bool n1, (.slice s2 lr c2)]) _ ⟨hR, id, id⟩ rfl
      simp (config := { decide := true }) only [upd, if_true, if_false, d8, d9] at hK2
      exact hK2
    refine ⟨?_, ?_⟩
    · refine SlotStep.rel (dvS D w n1 n1 false (.slice sx nx cx) (.slice sy ny cpy) (.slice s1 lq c1) (.slice s2 lr c2) mq mr) (fun A B h _ => h.1) (dvS_up D w n1 n1 false (.slice sx nx cx) (.slice sy ny cpy) (.slice s1 lq c1) (.slice s2 lr c2) mq mr) ?_
      intro ys W hR hd K hK
      have d6 : ys 6 = .agg #[.bool false, (.slice s1 lq c1)] := hd 6 (by kernel_rfl) (by decide)
      obtain ⟨u, a1, a2, a3, hh⟩ := hR.a
      have f0 := cells_f0 hh
      have f1 := cells_f1 hh
      have g0 := cells_fst hh
      have g1 := cells_snd hh
      go_simp
      have hK2 := hK undef ((W.setCell ⟨D + 1 + 1, 0, none⟩ (.bool false)).setCell ⟨D + 1 + 1, 1, none⟩ ((.slice s1 lq c1))) ⟨⟨(hR.below.setCell (p := ⟨D + 1 + 1, 0, none⟩) (by simp; omega) _).setCell (p := ⟨D + 1 + 1, 1, none⟩) (by simp; omega) _, ((set_two_else (by omega)).trans hR.x), ((set_two_else (by omega)).trans hR.y), ⟨_, _, _, _, set_two hh⟩, (hR.b.imp fun _ h => h.imp fun _ h => h.imp fun _ h => h.imp fun _ h => (set_two_else (by omega)).trans h), mag_two hR.q hh _ _, mag_two hR.r hh _ _⟩, fun _ => set_two hh, fun h => (set_two_else (by omega)).trans h⟩ (set_two hh)
      simp (config := { decide := true }) only [upd, if_false, d6] at hK2
      exact hK2
    refine ⟨?_, ?_⟩
    · refine SlotStep.rel (dvS D w n1 n1 false (.slice sx nx cx) (.slice sy ny cpy) (.slice s1 lq c1) (.slice s2 lr c2) mq mr) (fun A B h _ => h.1) (dvS_up D w n1 n1 false (.slice sx nx cx) (.slice sy ny cpy) (.slice s1 lq c1) (.slice s2 lr c2) mq mr) ?_
      intro ys W hR hd K hK
      have d10 : ys 10 = .agg #[.bool n1, (.slice s2 lr c2)] := hd 10 (by kernel_rfl) (by decide)
      obtain ⟨u, a1, a2, a3, hh⟩ := hR.b
      have f0 := cells_f0 hh
      have f1 := cells_f1 hh
      have g0 := cells_fst hh
      have g1 := cells_snd hh
      go_simp
      have hK2 := hK undef ((W.setCell ⟨D + 1 + 1 + 1, 0, none⟩ (.bool n1)).setCell ⟨D + 1 + 1 + 1, 1, none⟩ ((.slice s2 lr c2))) ⟨⟨(hR.below.setCell (p := ⟨D + 1 + 1 + 1, 0, none⟩) (by simp; omega) _).setCell (p := ⟨D + 1 + 1 + 1, 1, none⟩) (by simp; omega) _, ((set_two_else (by omega)).trans hR.x), ((set_two_else (by omega)).trans hR.y), (hR.a.imp fun _ h => h.imp fun _ h => h.imp fun _ h => h.imp fun _ h => (set_two_else (by omega)).trans h), ⟨_, _, _, _, set_two hh⟩, mag_two hR.q hh _ _, mag_two hR.r hh _ _⟩, fun h => (set_two_else (by omega)).trans h, fun _ => set_two hh⟩ (set_two hh)
      simp (config := { decide := true }) only [upd, if_false, d10] at hK2
      exact hK2
    trivial
    · intro L ys W hL hI
      obtain ⟨hR, hj⟩ := hI
      have ha : W.heap[D + 1 + 1]? = _ := hj 11 (by decide) (hL 11 (by decide))
      have hb : W.heap[D + 1 + 1 + 1]? = _ := hj 12 (by decide) (hL 12 (by decide))
      have r0 := cells_fst ha
      have r1 := cells_snd ha
      have r2 := cells_fst hb
      have r3 := cells_snd hb
      obtain ⟨sq, cq, bq, oq, hq1, hq2⟩ := hR.q
      obtain ⟨sr, cr, br, or_, hr1, hr2⟩ := hR.r
      have HA := Lib.hid (num_mk (neg := false) hq2)
      have HB := Lib.hid (num_mk (neg := n1) hr2)
      rw [← hq1] at HA
      rw [← hr1] at HB
      have HBW := Lib.hid hR.below
      clear hR hj ha hb hq1 hq2 hr1 hr2
      go_simp
      go_wp2
      refine bodyPost_ret (v := .tuple #[.agg #[.bool false, (.slice s1 lq c1)], .agg #[.bool n1, (.slice s2 lr c2)]]) (by simp [results, Tryz.results96, go_sem, r0, r1, r2, r3]) rfl ⟨⟨_, _, rfl, HA.out, HB.out⟩, by rw [hD]; exact HBW.out⟩
set_option maxRecDepth 100000 in
set_option maxHeartbeats 4000000 in
theorem divide_zero (n1 n2 : Bool) (sx : Option Addr) (cx bx ox X : Nat) (sy : Option Addr) (cpy by_ oy Y : Nat) (hY : 0 < Y) (hc : n1 ≠ n2) (hz : X % Y = 0) (w : World) (hx : Row w sx (nd X) cx bx ox X) (hy : Row w sy (nd Y) cpy by_ oy Y) (hn : nd X ≤ 300000) (_hny : nd Y ≤ 300000) :
    Calls Tryz.prog 96 #[.agg #[.bool n1, .slice sx (nd X) cx], .agg #[.bool n2, .slice sy (nd Y) cpy]] w fun e w' => (∃ u v, e = .returned (.tuple #[u, v]) ∧ Num w' u (sv true (X / Y)) ∧ Num w' v (sv n2 (X % Y))) ∧ Below w.heap.size w w' := by
  have DV := Lib.hid (fun W (hb : Below w.heap.size w W) => divM_any sx cx bx ox X sy cpy by_ oy Y hY W (hx.below hb (Nat.le_refl _)) (hy.below hb (Nat.le_refl _)) hn)
  clear hx hy
  generalize nd X = nx at *
  generalize nd Y = ny at *
  generalize hMQ : X / Y = mq at *
  generalize hMR : X % Y = mr at *
  have hl0 : nd mr = 0 := nd_pos_iff.2 hz
  have hb0 : (n1 == n2) = false := by rw [beq_eq_false_iff_ne]; exact hc
  clear hc hz
  obtain ⟨D, hD⟩ : ∃ D, w.heap.size = D := ⟨_, rfl⟩
  go_enter Tryz.func96, Tryz.ntmps96
  go_wp2_with fail
  obtain ⟨W0, hW0⟩ : ∃ W0, ((((w.alloc (.cells #[.bool n1, .slice sx nx cx] 106)).alloc (.cells #[.bool n2, .slice sy ny cpy] 106)).alloc (.cells #[.bool false, .slice none 0 0] 106)).alloc (.cells #[.bool false, .slice none 0 0] 106)) = W0 := ⟨_, rfl⟩
  have hw0 : Below D w W0 := by rw [← hW0]; exact ((((Below.refl _ _).alloc (by omega) _).alloc (by simp; omega) _).alloc (by simp; omega) _).alloc (by simp; omega) _
  have h0x : W0.heap[D]? = some (.cells #[.bool n1, .slice sx nx cx] 106) := by rw [← hW0]; exact heap_up (heap_up (heap_up (heap_at hD.symm)))
  have h0y : W0.heap[D + 1]? = some (.cells #[.bool n2, .slice sy ny cpy] 106) := by rw [← hW0]; exact heap_up (heap_up (heap_at (by simp [hD])))
  have h0a : W0.heap[D + 1 + 1]? = some (.cells #[.bool false, .slice none 0 0] 106) := by rw [← hW0]; exact heap_up (heap_at (by simp [hD]))
  have h0b : W0.heap[D + 1 + 1 + 1]? = some (.cells #[.bool false, .slice none 0 0] 106) := by rw [← hW0]; exact heap_at (by simp [hD])
  have hz0 : W0.heap.size = D + 4 := by rw [← hW0]; simp [hD]
  rw [hW0]
  clear hW0
  refine (DV.out W0 (hD ▸ hw0)).mono ?_
  rintro e w1 ⟨⟨v1, v2, rfl, hm1, hm2⟩, hb1⟩
  have hw1 := hw0.trans (hb1.mono (by omega))
  have h1x := (hb1.block D (by omega)).trans h0x
  have h1y := (hb1.block (D + 1) (by omega)).trans h0y
  have h1a := (hb1.block (D + 1 + 1) (by omega)).trans h0a
  have h1b := (hb1.block (D + 1 + 1 + 1) (by omega)).trans h0b
  have hz1 : D + 4 ≤ w1.heap.size := by have := hb1.size; omega
  obtain ⟨s1, c1, b1, o1, rfl, hr1⟩ := hm1
  obtain ⟨s2, c2, b2, o2, rfl, hr2⟩ := hm2
  have k0 := cells_fst h1x
  have k1 := cells_fst h1y
  have HR := Lib.hid (show DvR D w n1 n2 (.slice sx nx cx) (.slice sy ny cpy) (.slice s1 (nd mq) c1) (.slice s2 (nd mr) c2) mq mr w1 from ⟨hw1, h1x, h1y, ⟨_, _, _, _, h1a⟩, ⟨_, _, _, _, h1b⟩, ⟨_, _, b1, o1, rfl, hr1⟩, ⟨_, _, b2, o2, rfl, hr2⟩⟩)
  clear hr1 hr2 hb1 hw1 hw0 h0x h0y h0a h0b h1x h1y h1a h1b DV
  generalize nd mq = lq at *
  rw [hl0] at HR ⊢
  go_wp2_with fail
  refine wp_region_slots_at rfl rfl (fun base ys => ((((((((((base.set 33 (ys 0)).set 34 (ys 1)).set 35 (ys 2)).set 36 (ys 3)).set 37 (ys 4)).set 38 (ys 5)).set 39 (ys 6)).set 40 (ys 7)).set 41 (ys 8)).set 42 (ys 9)).set 43 (ys 10)) (BelowI _ (DvR D w n1 n2 (.slice sx nx cx) (.slice sy ny cpy) (.slice s1 lq c1) (.slice s2 0 c2) mq mr) (dvI D n1 n2 true (.slice s1 lq c1) (.slice s2 0 c2))) (fun _ => undef) (by kernel_rfl) (below_start (HR.out.drew)) ?h
  case h =>
    intro F hF
    simp only [List.set_cons_succ, List.set_cons_zero] at hF
    subst hF
    refine ⟨rfl, ?_, ?_⟩
    refine ⟨?_, ?_⟩
    · refine SlotStep.rel (dvS D w n1 n2 true (.slice sx nx cx) (.slice sy ny cpy) (.slice s1 lq c1) (.slice s2 0 c2) mq mr) (fun A B h _ => h.1) (dvS_up D w n1 n2 true (.slice sx nx cx) (.slice sy ny cpy) (.slice s1 lq c1) (.slice s2 0 c2) mq mr) ?_
      intro ys W hR hd K hK
      go_simp
      have hK2 := hK (.pointer (some ⟨D, 0, none⟩)) _ ⟨hR, id, id⟩ rfl
      simp (config := { decide := true }) only [upd, if_true, if_false] at hK2
      exact hK2
    refine ⟨?_, ?_⟩
    · refine SlotStep.rel (dvS D w n1 n2 true (.slice sx nx cx) (.slice sy ny cpy) (.slice s1 lq c1) (.slice s2 0 c2) mq mr) (fun A B h _ => h.1) (dvS_up D w n1 n2 true (.slice sx nx cx) (.slice sy ny cpy) (.slice s1 lq c1) (.slice s2 0 c2) mq mr) ?_
      intro ys W hR hd K hK
      have d0 : ys 0 = .pointer (some ⟨D, 0, none⟩) := hd 0 (by kernel_rfl) (by decide)
      have c0 := cells_fst hR.x
      go_simp
      have hK2 := hK (.bool n1) _ ⟨hR, id, id⟩ rfl
      simp (config := { decide := true }) only [upd, if_true, if_false, d0] at hK2
      exact hK2
    refine ⟨?_, ?_⟩
    · refine SlotStep.rel (dvS D w n1 n2 true (.slice sx nx cx) (.slice sy ny cpy) (.slice s1 lq c1) (.slice s2 0 c2) mq mr) (fun A B h _ => h.1) (dvS_up D w n1 n2 true (.slice sx nx cx) (.slice sy ny cpy) (.slice s1 lq c1) (.slice s2 0 c2) mq mr) ?_
      intro ys W hR hd K hK
      go_simp
      have hK2 := hK (.pointer (some ⟨D + 1, 0, none⟩)) _ ⟨hR, id, id⟩ rfl
      simp (config := { decide := true }) only [upd, if_true, if_false] at hK2
      exact hK2
    refine ⟨?_, ?_⟩
    · refine SlotStep.rel (dvS D w n1 n2 true (.slice sx nx cx) (.slice sy ny cpy) (.slice s1 lq c1) (.slice s2 0 c2) mq mr) (fun A B h _ => h.1) (dvS_up D w n1 n2 true (.slice sx nx cx) (.slice sy ny cpy) (.slice s1 lq c1) (.slice s2 0 c2) mq mr) ?_
      intro ys W hR hd K hK
      have d2 : ys 2 = .pointer (some ⟨D + 1, 0, none⟩) := hd 2 (by kernel_rfl) (by decide)
      have c0 := cells_fst hR.y
      go_simp
      have hK2 := hK (.bool n2) _ ⟨hR, id, id⟩ rfl
      simp (config := { decide := true }) only [upd, if_true, if_false, d2] at hK2
      exact hK2
    refine ⟨?_, ?_⟩
    · refine SlotStep.rel (dvS D w n1 n2 true (.slice sx nx cx) (.slice sy ny cpy) (.slice s1 lq c1) (.slice s2 0 c2) mq mr) (fun A B h _ => h.1) (dvS_up D w n1 n2 true (.slice sx nx cx) (.slice sy ny cpy) (.slice s1 lq c1) (.slice s2 0 c2) mq mr) ?_
      intro ys W hR hd K hK
      have d1 : ys 1 = .bool n1 := hd 1 (by kernel_rfl) (by decide)
      have d3 : ys 3 = .bool n2 := hd 3 (by kernel_rfl) (by decide)
      go_simp
      have hK2 := hK (.bool true) _ ⟨hR, id, id⟩ rfl
      simp (config := { decide := true }) only [upd, if_true, if_false, d1, d3] at hK2
      exact hK2
    refine ⟨?_, ?_⟩
    · refine SlotStep.rel (dvS D w n1 n2 true (.slice sx nx cx) (.slice sy ny cpy) (.slice s1 lq c1) (.slice s2 0 c2) mq mr) (fun A B h _ => h.1) (dvS_up D w n1 n2 true (.slice sx nx cx) (.slice sy ny cpy) (.slice s1 lq c1) (.slice s2 0 c2) mq mr) ?_
      intro ys W hR hd K hK
      go_simp
      have hK2 := hK ((.slice s1 lq c1)) _ ⟨hR, id, id⟩ rfl
      simp (config := { decide := true }) only [upd, if_true, if_false] at hK2
      exact hK2
    refine ⟨?_, ?_⟩
    · refine SlotStep.rel (dvS D w n1 n2 true (.slice sx nx cx) (.slice sy ny cpy) (.slice s1 lq c1) (.slice s2 0 c2) mq mr) (fun A B h _ => h.1) (dvS_up D w n1 n2 true (.slice sx nx cx) (.slice sy ny cpy) (.slice s1 lq c1) (.slice s2 0 c2) mq mr) ?_
      intro ys W hR hd K hK
      have d4 : ys 4 = .bool true := hd 4 (by kernel_rfl) (by decide)
      have d5 : ys 5 = (.slice s1 lq c1) := hd 5 (by kernel_rfl) (by decide)
      go_simp
      have hK2 := hK (.agg #[.bool true, (.slice s1 lq c1)]) _ ⟨hR, id, id⟩ rfl
      simp (config := { decide := true }) only [upd, if_true, if_false, d4, d5] at hK2
      exact hK2
    refine ⟨?_, ?_⟩
    · refine SlotStep.rel (dvS D w n1 n2 true (.slice sx nx cx) (.slice sy ny cpy) (.slice s1 lq c1) (.slice s2 0 c2) mq mr) (fun A B h _ => h.1) (dvS_up D w n1 n2 true (.slice sx nx cx) (.slice sy ny cpy) (.slice s1 lq c1) (.slice s2 0 c2) mq mr) ?_
      intro ys W hR hd K hK
      go_simp
      have hK2 := hK (.pointer (some ⟨D + 1, 0, none⟩)) _ ⟨hR, id, id⟩ rfl
      simp (config := { decide := true }) only [upd, if_true, if_false] at hK2
      exact hK2
    refine ⟨?_, ?_⟩
    · refine SlotStep.rel (dvS D w n1 n2 true (.slice sx nx cx) (.slice sy ny cpy) (.slice s1 lq c1) (.slice s2 0 c2) mq mr) (fun A B h _ => h.1) (dvS_up D w n1 n2 true (.slice sx nx cx) (.slice sy ny cpy) (.slice s1 lq c1) (.slice s2 0 c2) mq mr) ?_
      intro ys W hR hd K hK
      have d7 : ys 7 = .pointer (some ⟨D + 1, 0, none⟩) := hd 7 (by kernel_rfl) (by decide)
      have c0 := cells_fst hR.y
      go_simp
      have hK2 := hK (.bool n2) _ ⟨hR, id, id⟩ rfl
      simp (config := { decide := true }) only [upd, if_true, if_false, d7] at hK2
      exact hK2
    refine ⟨?_, ?_⟩
    · refine SlotStep.rel (dvS D w n1 n2 true (.slice sx nx cx) (.slice sy ny cpy) (.slice s1 lq c1) (.slice s2 0 c2) mq mr) (fun A B h _ => h.1) (dvS_up D w n1 n2 true (.slice sx nx cx) (.slice sy ny cpy) (.slice s1 lq c1) (.slice s2 0 c2) mq mr) ?_
      intro ys W hR hd K hK
      go_simp
      have hK2 := hK ((.slice s2 0 c2)) _ ⟨hR, id, id⟩ rfl
      simp (config := { decide := true }) only [upd, if_true, if_false] at hK2
      exact hK2
    refine ⟨?_, ?_⟩
    · refine SlotStep.rel (dvS D w n1 n2 true (.slice sx nx cx) (.slice sy ny cpy) (.slice s1 lq c1) (.slice s2 0 c2) mq mr) (fun A B h _ => h.1) (dvS_up D w n1 n2 true (.slice sx nx cx) (.slice sy ny cpy) (.slice s1 lq c1) (.slice s2 0 c2) mq mr) ?_
      intro ys W hR hd K hK
      have d8 : ys 8 = .bool n2 := hd 8 (by kernel_rfl) (by decide)
      have d9 : ys 9 = (.slice s2 0 c2) := hd 9 (by kernel_rfl) (by decide)
      go_simp
      have hK2 := hK (.agg #[.bool n2, (.slice s2 0 c2)]) _ ⟨hR, id, id⟩ rfl
      simp (config := { decide := true }) only [upd, if_true, if_false, d8, d9] at hK2
      exact hK2
    refine ⟨?_, ?_⟩
    · refine SlotStep.rel (dvS D w n1 n2 true (.slice sx nx cx) (.slice sy ny cpy) (.slice s1 lq c1) (.slice s2 0 c2) mq mr) (fun A B h _ => h.1) (dvS_up D w n1 n2 true (.slice sx nx cx) (.slice sy ny cpy) (.slice s1 lq c1) (.slice s2 0 c2) mq mr) ?_
      intro ys W hR hd K hK
      have d6 : ys 6 = .agg #[.bool true, (.slice s1 lq c1)] := hd 6 (by kernel_rfl) (by decide)
      obtain ⟨u, a1, a2, a3, hh⟩ := hR.a
      have f0 := cells_f0 hh
      have f1 := cells_f1 hh
      have g0 := cells_fst hh
      have g1 := cells_snd hh
      go_simp
      have hK2 := hK undef ((W.setCell ⟨D + 1 + 1, 0, none⟩ (.bool true)).setCell ⟨D + 1 + 1, 1, none⟩ ((.slice s1 lq c1))) ⟨⟨(hR.below.setCell (p := ⟨D + 1 + 1, 0, none⟩) (by simp; omega) _).setCell (p := ⟨D + 1 + 1, 1, none⟩) (by simp; omega) _, ((set_two_else (by omega)).trans hR.x), ((set_two_else (by omega)).trans hR.y), ⟨_, _, _, _, set_two hh⟩, (hR.b.imp fun _ h => h.imp fun _ h => h.imp fun _ h => h.imp fun _ h => (set_two_else (by omega)).trans h), mag_two hR.q hh _ _, mag_two hR.r hh _ _⟩, fun _ => set_two hh, fun h => (set_two_else (by omega)).trans h⟩ (set_two hh)
      simp (config := { decide := true }) only [upd, if_false, d6] at hK2
      exact hK2
    refine ⟨?_, ?_⟩
    · refine SlotStep.rel (dvS D w n1 n2 true (.slice sx nx cx) (.slice sy ny cpy) (.slice s1 lq c1) (.slice s2 0 c2) mq mr) (fun A B h _ => h.1) (dvS_up D w n1 n2 true (.slice sx nx cx) (.slice sy ny cpy) (.slice s1 lq c1) (.slice s2 0 c2) mq mr) ?_
      intro ys W hR hd K hK
      have d10 : ys 10 = .agg #[.bool n2, (.slice s2 0 c2)] := hd 10 (by kernel_rfl) (by decide)
      obtain ⟨u, a1, a2, a3, hh⟩ := hR.b
      have f0 := cells_f0 hh
      have f1 := cells_f1 hh
      have g0 := cells_fst hh
      have g1 := cells_snd hh
      go_simp
      have hK2 := hK undef ((W.setCell ⟨D + 1 + 1 + 1, 0, none⟩ (.bool n2)).setCell ⟨D + 1 + 1 + 1, 1, none⟩ ((.slice s2 0 c2))) ⟨⟨(hR.below.setCell (p := ⟨D + 1 + 1 + 1, 0, none⟩) (by simp; omega) _).setCell (p := ⟨D + 1 + 1 + 1, 1, none⟩) (by simp; omega) _, ((set_two_else (by omega)).trans hR.x), ((set_two_else (by omega)).trans hR.y), (hR.a.imp fun _ h => h.imp fun _ h => h.imp fun _ h => h.imp fun _ h => (set_two_else (by omega)).trans h), ⟨_, _, _, _, set_two hh⟩, mag_two hR.q hh _ _, mag_two hR.r hh _ _⟩, fun h => (set_two_else (by omega)).trans h, fun _ => set_two hh⟩ (set_two hh)
      simp (config := { decide := true }) only [upd, if_false, d10] at hK2
      exact hK2
    trivial
    · intro L ys W hL hI
      obtain ⟨hR, hj⟩ := hI
      have ha : W.heap[D + 1 + 1]? = _ := hj 11 (by decide) (hL 11 (by decide))
      have hb : W.heap[D + 1 + 1 + 1]? = _ := hj 12 (by decide) (hL 12 (by decide))
      have r0 := cells_fst ha
      have r1 := cells_snd ha
      have r2 := cells_fst hb
      have r3 := cells_snd hb
      obtain ⟨sq, cq, bq, oq, hq1, hq2⟩ := hR.q
      obtain ⟨sr, cr, br, or_, hr1, hr2⟩ := hR.r
      have HA := Lib.hid (num_mk (neg := true) hq2)
      have HB := Lib.hid (num_mk (neg := n2) hr2)
      rw [← hq1] at HA
      rw [← hr1] at HB
      have HBW := Lib.hid hR.below
      clear hR hj ha hb hq1 hq2 hr1 hr2
      go_simp
      go_wp2
      refine bodyPost_ret (v := .tuple #[.agg #[.bool true, (.slice s1 lq c1)], .agg #[.bool n2, (.slice s2 0 c2)]]) (by simp [results, Tryz.results96, go_sem, r0, r1, r2, r3]) rfl ⟨⟨_, _, rfl, HA.out, HB.out⟩, by rw [hD]; exact HBW.out⟩
set_option maxRecDepth 100000 in
set_option maxHeartbeats 4000000 in
theorem divide_turned (n1 n2 : Bool) (sx : Option Addr) (cx bx ox X : Nat) (sy : Option Addr) (cpy by_ oy Y : Nat) (hY : 0 < Y) (hc : n1 ≠ n2) (hr0 : X % Y ≠ 0) (w : World) (hx : Row w sx (nd X) cx bx ox X) (hy : Row w sy (nd Y) cpy by_ oy Y) (hn : nd X ≤ 300000) (hny : nd Y ≤ 300000) :
    Calls Tryz.prog 96 #[.agg #[.bool n1, .slice sx (nd X) cx], .agg #[.bool n2, .slice sy (nd Y) cpy]] w fun e w' => (∃ u v, e = .returned (.tuple #[u, v]) ∧ Num w' u (sv true (X / Y + 1)) ∧ Num w' v (sv n2 (Y - X % Y))) ∧ Below w.heap.size w w' := by
  have DV := Lib.hid (fun W (hb : Below w.heap.size w W) => divM_any sx cx bx ox X sy cpy by_ oy Y hY W (hx.below hb (Nat.le_refl _)) (hy.below hb (Nat.le_refl _)) hn)
  have hlt : X % Y ≤ Y := Nat.le_of_lt (Nat.mod_lt X hY)
  have hrn : 0 < nd (X % Y) := Nat.pos_of_ne_zero (fun e => hr0 (nd_pos_iff.1 e))
  have hqn : nd (X / Y) ≤ 300000 := Nat.le_trans (Im.nd_mono bb2 (Nat.div_le_self X Y)) hn
  have h1n : nd 1 = 1 := Im.nd_unique bb2 0 1 (by rw [Nat.pow_zero]; exact Nat.le_refl 1) (by rw [Nat.zero_add, Nat.pow_one]; exact Nat.lt_of_lt_of_le (by decide) bb2)
  have AD := Lib.hid (fun (sq : Option Addr) (cq bq oq : Nat) (W : World) (hq : Row W sq (nd (X / Y)) cq bq oq (X / Y)) => add_any sq cq bq oq (X / Y) (some ⟨W.heap.size, 0, none⟩) 1 W.heap.size 0 1 (W.alloc (.cells #[.int .u64 (1 : Nat)] 98)) (hq.below ((Below.refl _ W).alloc (Nat.le_refl _) _) (Nat.le_refl _)) (by rw [h1n]; exact row_piece W (by decide)) (by omega) (by omega))
  rw [h1n] at AD
  have SB := Lib.hid (fun (sr : Option Addr) (cr br or_ : Nat) (W : World) (hb : Below w.heap.size w W) (hr : Row W sr (nd (X % Y)) cr br or_ (X % Y)) => sub_any sy cpy by_ oy Y sr cr br or_ (X % Y) W (hy.below hb (Nat.le_refl _)) hr hlt (by omega))
  clear hx hy
  generalize nd X = nx at *
  generalize nd Y = ny at *
  generalize X / Y = mq0 at *
  generalize X % Y = mr0 at *
  generalize hMQ : mq0 + 1 = mq at *
  generalize hMR : Y - mr0 = mr at *
  have hb0 : (n1 == n2) = false := by rw [beq_eq_false_iff_ne]; exact hc
  clear hc hr0 hlt h1n hqn
  have hri : (0 : Int) < (nd mr0 : Int) := by omega
  obtain ⟨D, hD⟩ : ∃ D, w.heap.size = D := ⟨_, rfl⟩
  go_enter Tryz.func96, Tryz.ntmps96
  go_wp2_with fail
  obtain ⟨W0, hW0⟩ : ∃ W0, ((((w.alloc (.cells #[.bool n1, .slice sx nx cx] 106)).alloc (.cells #[.bool n2, .slice sy ny cpy] 106)).alloc (.cells #[.bool false, .slice none 0 0] 106)).alloc (.cells #[.bool false, .slice none 0 0] 106)) = W0 := ⟨_, rfl⟩
  have hw0 : Below D w W0 := by rw [← hW0]; exact ((((Below.refl _ _).alloc (by omega) _).alloc (by simp; omega) _).alloc (by simp; omega) _).alloc (by simp; omega) _
  have h0x : W0.heap[D]? = some (.cells #[.bool n1, .slice sx nx cx] 106) := by rw [← hW0]; exact heap_up (heap_up (heap_up (heap_at hD.symm)))
  have h0y : W0.heap[D + 1]? = some (.cells #[.bool n2, .slice sy ny cpy] 106) := by rw [← hW0]; exact heap_up (heap_up (heap_at (by simp [hD])))
  have h0a : W0.heap[D + 1 + 1]? = some (.cells #[.bool false, .slice none 0 0] 106) := by rw [← hW0]; exact heap_up (heap_at (by simp [hD]))
  have h0b : W0.heap[D + 1 + 1 + 1]? = some (.cells #[.bool false, .slice none 0 0] 106) := by rw [← hW0]; exact heap_at (by simp [hD])
  have hz0 : W0.heap.size = D + 4 := by rw [← hW0]; simp [hD]
  rw [hW0]
  clear hW0
  refine (DV.out W0 (hD ▸ hw0)).mono ?_
  rintro e w1 ⟨⟨v1, v2, rfl, hm1, hm2⟩, hb1⟩
  have hw1 := hw0.trans (hb1.mono (by omega))
  have h1x := (hb1.block D (by omega)).trans h0x
  have h1y := (hb1.block (D + 1) (by omega)).trans h0y
  have h1a := (hb1.block (D + 1 + 1) (by omega)).trans h0a
  have h1b := (hb1.block (D + 1 + 1 + 1) (by omega)).trans h0b
  have hz1 : D + 4 ≤ w1.heap.size := by have := hb1.size; omega
  obtain ⟨s1, c1, b1, o1, rfl, hr1⟩ := hm1
  obtain ⟨s2, c2, b2, o2, rfl, hr2⟩ := hm2
  have k0 := cells_fst h1x
  have k1 := cells_fst h1y
  have hr1' := hr1
  generalize nd mq0 = lq0 at *
  generalize nd mr0 = lr0 at *
  have k2 := cells_snd h1y
  have e1 : ((1 : Nat) : Int) = 1 := rfl
  clear hr1
  go_wp2_with fail
  refine (AD.out s1 c1 b1 o1 w1 hr1').mono ?_
  rintro e w2 ⟨⟨v2, rfl, hm2⟩, hb2⟩
  have hba : Below w1.heap.size w1 w2 := ((Below.refl _ w1).alloc (Nat.le_refl _) _).trans (hb2.mono (by simp))
  have hw2 := hw1.trans (hba.mono (by omega))
  have h2x := (hba.block D (by omega)).trans h1x
  have h2y := (hba.block (D + 1) (by omega)).trans h1y
  have h2a := (hba.block (D + 1 + 1) (by omega)).trans h1a
  have h2b := (hba.block (D + 1 + 1 + 1) (by omega)).trans h1b
  have hz2 : D + 4 ≤ w2.heap.size := by have := hba.size; omega
  have hr2' := hr2.below hba (Nat.le_refl _)
  have k3 := cells_snd h2y
  clear hr2 hb1 hw1 hw0 h0x h0y h0a h0b h1x h1y h1a h1b k0 k1 k2 hb2 hr1'
  go_wp2_with fail
  refine (SB.out s2 c2 b2 o2 w2 (hD ▸ hw2) hr2').mono ?_
  rintro e w3 ⟨⟨v3, rfl, hm3⟩, hb3⟩
  have hm2' := Mag.below hm2 hb3 (Nat.le_refl _)
  obtain ⟨t1, d1, f1, p1, rfl, hq⟩ := hm2'
  obtain ⟨t2, d2, f2, p2, rfl, hr⟩ := hm3
  have HR := Lib.hid (show DvR D w n1 n2 (.slice sx nx cx) (.slice sy ny cpy) (.slice t1 (nd mq) d1) (.slice t2 (nd mr) d2) mq mr w3 from ⟨hw2.trans (hb3.mono (by omega)), (hb3.block D (by omega)).trans h2x, (hb3.block (D + 1) (by omega)).trans h2y, ⟨_, _, _, _, (hb3.block (D + 1 + 1) (by omega)).trans h2a⟩, ⟨_, _, _, _, (hb3.block (D + 1 + 1 + 1) (by omega)).trans h2b⟩, ⟨_, _, f1, p1, rfl, hq⟩, ⟨_, _, f2, p2, rfl, hr⟩⟩)
  clear hr2' hm2 hba hw2 h2x h2y h2a h2b hb3 k3 hq hr DV AD SB hz2 hz1
  generalize nd mq = lq at *
  generalize nd mr = lr at *
  go_wp2_with fail
  refine wp_region_slots_at rfl rfl (fun base ys => ((((((((((base.set 33 (ys 0)).set 34 (ys 1)).set 35 (ys 2)).set 36 (ys 3)).set 37 (ys 4)).set 38 (ys 5)).set 39 (ys 6)).set 40 (ys 7)).set 41 (ys 8)).set 42 (ys 9)).set 43 (ys 10)) (BelowI _ (DvR D w n1 n2 (.slice sx nx cx) (.slice sy ny cpy) (.slice t1 lq d1) (.slice t2 lr d2) mq mr) (dvI D n1 n2 true (.slice t1 lq d1) (.slice t2 lr d2))) (fun _ => undef) (by kernel_rfl) (below_start (HR.out.drew)) ?h
  case h =>
    intro F hF
    simp only [List.set_cons_succ, List.set_cons_zero] at hF
    subst hF
    refine ⟨rfl, ?_, ?_⟩
    refine ⟨?_, ?_⟩
    · refine SlotStep.rel (dvS D w n1 n2 true (.slice sx nx cx) (.slice sy ny cpy) (.slice t1 lq d1) (.slice t2 lr d2) mq mr) (fun A B h _ => h.1) (dvS_up D w n1 n2 true (.slice sx nx cx) (.slice sy ny cpy) (.slice t1 lq d1) (.slice t2 lr d2) mq mr) ?_
      intro ys W hR hd K hK
      go_simp
      have hK2 := hK (.pointer (some ⟨D, 0, none⟩)) _ ⟨hR, id, id⟩ rfl
      simp (config := { decide := true }) only [upd, if_true, if_false] at hK2
      exact hK2
    refine ⟨?_, ?_⟩
    · refine SlotStep.rel (dvS D w n1 n2 true (.slice sx nx cx) (.slice sy ny cpy) (.slice t1 lq d1) (.slice t2 lr d2) mq mr) (fun A B h _ => h.1) (dvS_up D w n1 n2 true (.slice sx nx cx) (.slice sy ny cpy) (.slice t1 lq d1) (.slice t2 lr d2) mq mr) ?_
      intro ys W hR hd K hK
      have d0 : ys 0 = .pointer (some ⟨D, 0, none⟩) := hd 0 (by kernel_rfl) (by decide)
      have c0 := cells_fst hR.x
      go_simp
      have hK2 := hK (.bool n1) _ ⟨hR, id, id⟩ rfl
      simp (config := { decide := true }) only [upd, if_true, if_false, d0] at hK2
      exact hK2
    refine ⟨?_, ?_⟩
    · refine SlotStep.rel (dvS D w n1 n2 true (.slice sx nx cx) (.slice sy ny cpy) (.slice t1 lq d1) (.slice t2 lr d2) mq mr) (fun A B h _ => h.1) (dvS_up D w n1 n2 true (.slice sx nx cx) (.slice sy ny cpy) (.slice t1 lq d1) (.slice t2 lr d2) mq mr) ?_
      intro ys W hR hd K hK
      go_simp
      have hK2 := hK (.pointer (some ⟨D + 1, 0, none⟩)) _ ⟨hR, id, id⟩ rfl
      simp (config := { decide := true }) only [upd, if_true, if_false] at hK2
      exact hK2
    refine ⟨?_, ?_⟩
    · refine SlotStep.rel (dvS D w n1 n2 true (.slice sx nx cx) (.slice sy ny cpy) (.slice t1 lq d1) (.slice t2 lr d2) mq mr) (fun A B h _ => h.1) (dvS_up D w n1 n2 true (.slice sx nx cx) (.slice sy ny cpy) (.slice t1 lq d1) (.slice t2 lr d2) mq mr) ?_
      intro ys W hR hd K hK
      have d2 : ys 2 = .pointer (some ⟨D + 1, 0, none⟩) := hd 2 (by kernel_rfl) (by decide)
      have c0 := cells_fst hR.y
      go_simp
      have hK2 := hK (.bool n2) _ ⟨hR, id, id⟩ rfl
      simp (config := { decide := true }) only [upd, if_true, if_false, d2] at hK2
      exact hK2
    refine ⟨?_, ?_⟩
    · refine SlotStep.rel (dvS D w n1 n2 true (.slice sx nx cx) (.slice sy ny cpy) (.slice t1 lq d1) (.slice t2 lr d2) mq mr) (fun A B h _ => h.1) (dvS_up D w n1 n2 true (.slice sx nx cx) (.slice sy ny cpy) (.slice t1 lq d1) (.slice t2 lr d2) mq mr) ?_
      intro ys W hR hd K hK
      have d1 : ys 1 = .bool n1 := hd 1 (by kernel_rfl) (by decide)
      have d3 : ys 3 = .bool n2 := hd 3 (by kernel_rfl) (by decide)
      go_simp
      have hK2 := hK (.bool true) _ ⟨hR, id, id⟩ rfl
      simp (config := { decide := true }) only [upd, if_true, if_false, d1, d3] at hK2
      exact hK2
    refine ⟨?_, ?_⟩
    · refine SlotStep.rel (dvS D w n1 n2 true (.slice sx nx cx) (.slice sy ny cpy) (.slice t1 lq d1) (.slice t2 lr d2) mq mr) (fun A B h _ => h.1) (dvS_up D w n1 n2 true (.slice sx nx cx) (.slice sy ny cpy) (.slice t1 lq d1) (.slice t2 lr d2) mq mr) ?_
      intro ys W hR hd K hK
      go_simp
      have hK2 := hK ((.slice t1 lq d1)) _ ⟨hR, id, id⟩ rfl
      simp (config := { decide := true }) only [upd, if_true, if_false] at hK2
      exact hK2
    refine ⟨?_, ?_⟩
    · refine SlotStep.rel (dvS D w n1 n2 true (.slice sx nx cx) (.slice sy ny cpy) (.slice t1 lq d1) (.slice t2 lr d2) mq mr) (fun A B h _ => h.1) (dvS_up D w n1 n2 true (.slice sx nx cx) (.slice sy ny cpy) (.slice t1 lq d1) (.slice t2 lr d2) mq mr) ?_
      intro ys W hR hd K hK
      have d4 : ys 4 = .bool true := hd 4 (by kernel_rfl) (by decide)
      have d5 : ys 5 = (.slice t1 lq d1) := hd 5 (by kernel_rfl) (by decide)
      go_simp
      have hK2 := hK (.agg #[.bool true, (.slice t1 lq d1)]) _ ⟨hR, id, id⟩ rfl
      simp (config := { decide := true }) only [upd, if_true, if_false, d4, d5] at hK2
      exact hK2
    refine ⟨?_, ?_⟩
    · refine SlotStep.rel (dvS D w n1 n2 true (.slice sx nx cx) (.slice sy ny cpy) (.slice t1 lq d1) (.slice t2 lr d2) mq mr) (fun A B h _ => h.1) (dvS_up D w n1 n2 true (.slice sx nx cx) (.slice sy ny cpy) (.slice t1 lq d1) (.slice t2 lr d2) mq mr) ?_
      intro ys W hR hd K hK
      go_simp
      have hK2 := hK (.pointer (some ⟨D + 1, 0, none⟩)) _ ⟨hR, id, id⟩ rfl
      simp (config := { decide := true }) only [upd, if_true, if_false] at hK2
      exact hK2
    refine ⟨?_, ?_⟩
    · refine SlotStep.rel (dvS D w n1 n2 true (.slice sx nx cx) (.slice sy ny cpy) (.slice t1 lq d1) (.slice t2 lr d2) mq mr) (fun A B h _ => h.1) (dvS_up D w n1 n2 true (.slice sx nx cx) (.slice sy ny cpy) (.slice t1 lq d1) (.slice t2 lr d2) mq mr) ?_
      intro ys W hR hd K hK
      have d7 : ys 7 = .pointer (some ⟨D + 1, 0, none⟩) := hd 7 (by kernel_rfl) (by decide)
      have c0 := cells_fst hR.y
      go_simp
      have hK2 := hK (.bool n2) _ ⟨hR, id, id⟩ rfl
      simp (config := { decide := true }) only [upd, if_true, if_false, d7] at hK2
      exact hK2
    refine ⟨?_, ?_⟩
    · refine SlotStep.rel (dvS D w n1 n2 true (.slice sx nx cx) (.slice sy ny cpy) (.slice t1 lq d1) (.slice t2 lr d2) mq mr) (fun A B h _ => h.1) (dvS_up D w n1 n2 true (.slice sx nx cx) (.slice sy ny cpy) (.slice t1 lq d1) (.slice t2 lr d2) mq mr) ?_
      intro ys W hR hd K hK
      go_simp
      have hK2 := hK ((.slice t2 lr d2)) _ ⟨hR, id, id⟩ rfl
      simp (config := { decide := true }) only [upd, if_true, if_false] at hK2
      exact hK2
    refine ⟨?_, ?_⟩
    · refine SlotStep.rel (dvS D w n1 n2 true (.slice sx nx cx) (.slice sy ny cpy) (.slice t1 lq d1) (.slice t2 lr d2) mq mr) (fun A B h _ => h.1) (dvS_up D w n1 n2 true (.slice sx nx cx) (.slice sy ny cpy) (.slice t1 lq d1) (.slice t2 lr d2) mq mr) ?_
      intro ys W hR hd K hK
      have d8 : ys 8 = .bool n2 := hd 8 (by kernel_rfl) (by decide)
      have d9 : ys 9 = (.slice t2 lr d2) := hd 9 (by kernel_rfl) (by decide)
      go_simp
      have hK2 := hK (.agg #[.bool n2, (.slice t2 lr d2)]) _ ⟨hR, id, id⟩ rfl
      simp (config := { decide := true }) only [upd, if_true, if_false, d8, d9] at hK2
      exact hK2
    refine ⟨?_, ?_⟩
    · refine SlotStep.rel (dvS D w n1 n2 true (.slice sx nx cx) (.slice sy ny cpy) (.slice t1 lq d1) (.slice t2 lr d2) mq mr) (fun A B h _ => h.1) (dvS_up D w n1 n2 true (.slice sx nx cx) (.slice sy ny cpy) (.slice t1 lq d1) (.slice t2 lr d2) mq mr) ?_
      intro ys W hR hd K hK
      have d6 : ys 6 = .agg #[.bool true, (.slice t1 lq d1)] := hd 6 (by kernel_rfl) (by decide)
      obtain ⟨u, a1, a2, a3, hh⟩ := hR.a
      have f0 := cells_f0 hh
      have f1 := cells_f1 hh
      have g0 := cells_fst hh
      have g1 := cells_snd hh
      go_simp
      have hK2 := hK undef ((W.setCell ⟨D + 1 + 1, 0, none⟩ (.bool true)).setCell ⟨D + 1 + 1, 1, none⟩ ((.slice t1 lq d1))) ⟨⟨(hR.below.setCell (p := ⟨D + 1 + 1, 0, none⟩) (by simp; omega) _).setCell (p := ⟨D + 1 + 1, 1, none⟩) (by simp; omega) _, ((set_two_else (by omega)).trans hR.x), ((set_two_else (by omega)).trans hR.y), ⟨_, _, _, _, set_two hh⟩, (hR.b.imp fun _ h => h.imp fun _ h => h.imp fun _ h => h.imp fun _ h => (set_two_else (by omega)).trans h), mag_two hR.q hh _ _, mag_two hR.r hh _ _⟩, fun _ => set_two hh, fun h => (set_two_else (by omega)).trans h⟩ (set_two hh)
      simp (config := { decide := true }) only [upd, if_false, d6] at hK2
      exact hK2
    refine ⟨?_, ?_⟩
    · refine SlotStep.rel (dvS D w n1 n2 true (.slice sx nx cx) (.slice sy ny cpy) (.slice t1 lq d1) (.slice t2 lr d2) mq mr) (fun A B h _ => h.1) (dvS_up D w n1 n2 true (.slice sx nx cx) (.slice sy ny cpy) (.slice t1 lq d1) (.slice t2 lr d2) mq mr) ?_
      intro ys W hR hd K hK
      have d10 : ys 10 = .agg #[.bool n2, (.slice t2 lr d2)] := hd 10 (by kernel_rfl) (by decide)
      obtain ⟨u, a1, a2, a3, hh⟩ := hR.b
      have f0 := cells_f0 hh
      have f1 := cells_f1 hh
      have g0 := cells_fst hh
      have g1 := cells_snd hh
      go_simp
      have hK2 := hK undef ((W.setCell ⟨D + 1 + 1 + 1, 0, none⟩ (.bool n2)).setCell ⟨D + 1 + 1 + 1, 1, none⟩ ((.slice t2 lr d2))) ⟨⟨(hR.below.setCell (p := ⟨D + 1 + 1 + 1, 0, none⟩) (by simp; omega) _).setCell (p := ⟨D + 1 + 1 + 1, 1, none⟩) (by simp; omega) _, ((set_two_else (by omega)).trans hR.x), ((set_two_else (by omega)).trans hR.y), (hR.a.imp fun _ h => h.imp fun _ h => h.imp fun _ h => h.imp fun _ h => (set_two_else (by omega)).trans h), ⟨_, _, _, _, set_two hh⟩, mag_two hR.q hh _ _, mag_two hR.r hh _ _⟩, fun h => (set_two_else (by omega)).trans h, fun _ => set_two hh⟩ (set_two hh)
      simp (config := { decide := true }) only [upd, if_false, d10] at hK2
      exact hK2
    trivial
    · intro L ys W hL hI
      obtain ⟨hR, hj⟩ := hI
      have ha : W.heap[D + 1 + 1]? = _ := hj 11 (by decide) (hL 11 (by decide))
      have hb : W.heap[D + 1 + 1 + 1]? = _ := hj 12 (by decide) (hL 12 (by decide))
      have r0 := cells_fst ha
      have r1 := cells_snd ha
      have r2 := cells_fst hb
      have r3 := cells_snd hb
      obtain ⟨sq, cq, bq, oq, hq1, hq2⟩ := hR.q
      obtain ⟨sr, cr, br, or_, hr1, hr2⟩ := hR.r
      have HA := Lib.hid (num_mk (neg := true) hq2)
      have HB := Lib.hid (num_mk (neg := n2) hr2)
      rw [← hq1] at HA
      rw [← hr1] at HB
      have HBW := Lib.hid hR.below
      clear hR hj ha hb hq1 hq2 hr1 hr2
      go_simp
      go_wp2
      refine bodyPost_ret (v := .tuple #[.agg #[.bool true, (.slice t1 lq d1)], .agg #[.bool n2, (.slice t2 lr d2)]]) (by simp [results, Tryz.results96, go_sem, r0, r1, r2, r3]) rfl ⟨⟨_, _, rfl, HA.out, HB.out⟩, by rw [hD]; exact HBW.out⟩
theorem divide_any (u v : Value) (x y : Int) (w : World) (hx : Num w u x) (hy : Num w v y) (h0 : y ≠ 0) (hn : nd x.natAbs ≤ 300000) (hny : nd y.natAbs ≤ 300000) :
    Calls Tryz.prog 96 #[u, v] w fun e w' => (∃ a b, e = .returned (.tuple #[a, b]) ∧ Num w' a (dvQ x y) ∧ Num w' b (dvR x y)) ∧ Below w.heap.size w w' := by
  obtain ⟨n1, X, sx, cx, bx, ox, rfl, rx, rfl⟩ := num_open hx
  obtain ⟨n2, Y, sy, cy, by_, oy, rfl, ry, rfl⟩ := num_open hy
  clear hx hy
  rw [sv_abs] at hn hny
  have hY : 0 < Y := by
    rcases Nat.eq_zero_or_pos Y with h | h
    · exfalso; apply h0; rw [h]; cases n2 <;> rfl
    · exact h
  have hl := Nat.mod_lt X hY
  have hd := Nat.div_add_mod X Y
  have hdi : (Y : Int) * ((X / Y : Nat) : Int) + ((X % Y : Nat) : Int) = (X : Int) := by rw [← Int.natCast_mul]; omega
  have fit : ∀ q r : Int, q * sv n2 Y + r = sv n1 X → ((0 < sv n2 Y → 0 ≤ r ∧ r < sv n2 Y) ∧ (sv n2 Y < 0 → sv n2 Y < r ∧ r ≤ 0)) → q = dvQ (sv n1 X) (sv n2 Y) ∧ r = dvR (sv n1 X) (sv n2 Y) := fun q r e1 e2 => dv_unique e1 (dv_sum _ _) e2 (dv_ends _ _ h0) h0
  by_cases hs : n1 = n2
  · subst hs
    obtain ⟨e1, e2⟩ := fit (sv false (X / Y)) (sv n1 (X % Y)) (by
      rw [Int.mul_comm] at hdi
      cases n1 <;> simp only [sv, Int.mul_neg, if_true, Bool.false_eq_true, if_false]
      · exact hdi
      · omega) (by cases n1 <;> simp [sv] <;> omega)
    rw [← e1, ← e2]
    exact divide_same n1 sx cx bx ox X sy cy by_ oy Y hY w rx ry hn hny
  · by_cases hz : X % Y = 0
    · obtain ⟨e1, e2⟩ := fit (sv true (X / Y)) (sv n2 (X % Y)) (by
        rw [hz, Int.mul_comm] at hdi
        rw [hz]
        cases n1 <;> cases n2 <;> simp only [sv, Int.neg_mul, Int.mul_neg, if_true, Bool.false_eq_true, if_false] at hs ⊢
        · exact absurd trivial hs
        · omega
        · omega
        · exact absurd trivial hs) (by rw [hz]; cases n2 <;> simp [sv] <;> omega)
      rw [← e1, ← e2]
      exact divide_zero n1 n2 sx cx bx ox X sy cy by_ oy Y hY hs hz w rx ry hn hny
    · obtain ⟨e1, e2⟩ := fit (sv true (X / Y + 1)) (sv n2 (Y - X % Y)) (by
        have e3 : ((Y - X % Y : Nat) : Int) = (Y : Int) - ((X % Y : Nat) : Int) := by omega
        have e4 : (((X / Y + 1 : Nat) : Int)) * (Y : Int) = (Y : Int) * ((X / Y : Nat) : Int) + (Y : Int) := by rw [Int.natCast_add, Int.add_mul, Int.mul_comm]; simp
        cases n1 <;> cases n2 <;> simp only [sv, Int.neg_mul, Int.mul_neg, if_true, Bool.false_eq_true, if_false, e3, e4] at hs ⊢
        · exact absurd trivial hs
        · omega
        · omega
        · exact absurd trivial hs) (by cases n2 <;> simp [sv] <;> omega)
      rw [← e1, ← e2]
      exact divide_turned n1 n2 sx cx bx ox X sy cy by_ oy Y hY hs hz w rx ry hn hny
end Go.Proofs.YthdoadkdofgenaaGreatDoor
