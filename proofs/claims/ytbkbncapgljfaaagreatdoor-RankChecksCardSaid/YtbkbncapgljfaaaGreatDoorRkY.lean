/- The contract of rank's Slice. -/
import Derived.Test.YtbkbncapgljfaaaGreatDoorRkX
namespace Go.Proofs.YtbkbncapgljfaaaGreatDoor
open Go Go.RowKit Go.Shelf

/-- A part of a slice of ints. -/
theorem wd_sub {W : World} {g o n cap k p : Nat} {X : Nat → Int} (h : Wd W (.slice (some ⟨g, o, none⟩) n cap) n X) (hk : k + p ≤ n) (hp : 0 < p) : Wd W (.slice (some ⟨g, o + k, none⟩) p (cap - k)) p (fun j => X (k + j)) := by
  rcases h with ⟨h0, _⟩ | ⟨g', o', cap', e, h1, h2, h3⟩
  · omega
  · cases e
    exact .inr ⟨g, o + k, cap - k, rfl, by omega, h2, fun j hj => by rw [Nat.add_assoc]; exact h3 (k + j) (by omega)⟩


theorem sl_at (g o n cp k p : Nat) (h1 : 0 < p) (h2 : k + p ≤ n) (h3 : n ≤ cp) (W : World) : (Instr.sliceAt 24 (.slice (some ⟨g, o, none⟩) n cp) (some (.int .i64 (k : Int))) (some (.int .i64 ((k : Int) + (p : Int)))) none).run Tryz.prog W = .ok (.slice (some ⟨g, o + k, none⟩) p (cp - k)) W := by
  have e1 : ((k : Int) + (p : Int)).toNat = k + p := by omega
  have e2 : ¬ cp = k := by omega
  have hu := Tryz.underlying24
  have e3 : (k : Int) + (p : Int) ≤ (cp : Int) := by omega
  have e4 : 0 ≤ (k : Int) + (p : Int) := by omega
  by_cases h0 : k = 0
  · subst h0
    simp [go_sem, Instr.sliceAt, run_slice_lh, hu, sliced, e1, e2, Addr.add, e3, e4]
    intro h
    omega
  · simp [go_sem, Instr.sliceAt, run_slice_lh, hu, sliced, e1, e2, Addr.add, e3, e4, h0]
set_option maxRecDepth 100000 in
theorem slice_changed (nm tn : ByteArray) (a b f : Int) (g o n cp : Nat) (X : Nat → Int) (k p : Nat) (hp1 : 1 ≤ p) (hp2 : p + k ≤ n) (W : World) (hW : Wd W (.slice (some ⟨g, o, none⟩) n cp) n X) (q : Nat) (hq : W.heap[q]? = some (.cells #[.slice (some ⟨g, o + k, none⟩) p (cp - k)] 24)) (hn1 : n ≤ 128 := by omega) :
    Calls Tryz.prog 42 #[.agg #[.string nm, .string tn, .int .i64 a, .int .i64 b, .int .i64 f, .slice (some ⟨g, o, none⟩) n cp], .int .i64 (f + k), .slice (some ⟨q, 0, none⟩) 1 1] W fun e w' => (∃ sr cr, e = .returned (.agg #[.string nm, .string tn, .int .i64 a, .int .i64 b, .int .i64 (f + k), .slice sr p cr]) ∧ w'.ownsRow W.heap.size 3 1 (.slice sr p cr) p (rowL (fun j => X (k + j)) p)) ∧ Below W.heap.size W w' := by
  have hs := wd_sub hW (k := k) (p := p) (by omega) (by omega)
  refine (changed_c nm tn a b f (f + k) (.slice (some ⟨g, o, none⟩) n cp) q 1 1 (fun _ => .slice (some ⟨g, o + k, none⟩) p (cp - k)) (fun _ => p) (fun _ j => X (k + j)) ⟨_, _, _, rfl⟩ (by decide) (by decide) (fun _ _ => hp1) (by simp [sumN]; omega) W (Array.getElem?_eq_some_iff.1 hq).1 (fun j hj => by obtain rfl : j = 0 := (by omega); simp [World.cell?, hq]) (fun _ _ => hs)).mono ?_
  rintro e w' ⟨⟨sr, mr, cr, rfl, hrow⟩, hb⟩
  rw [cat_one] at hrow
  simp only [sumN, Nat.zero_add] at hrow
  obtain ⟨rfl, _⟩ := wd_own hrow
  exact ⟨⟨sr, cr, rfl, hrow⟩, hb⟩

set_option maxRecDepth 100000 in
set_option maxHeartbeats 4000000 in
theorem slice_bad (nm tn : ByteArray) (a b f : Int) (sa : Option Addr) (n cp : Nat) (X : Nat → Int) (k p z : Int) (s1 : nm.size ≤ 1099511627776) (s2 : tn.size ≤ 1099511627776) (hn : n ≤ 1099511627776) (hz : cpE (rkE nm tn a b f n X) k n = z) (hne : ¬ z = 0) (w : World) (hW1 : Wd w (.slice sa n cp) n X) :
    Calls Tryz.prog 24 #[.agg #[.string nm, .string tn, .int .i64 a, .int .i64 b, .int .i64 f, .slice sa n cp], .int .i64 k, .int .i64 p] w fun e w' => e = .returned (.tuple #[.agg #[.string ⟨#[]⟩, .string ⟨#[]⟩, .int .i64 0, .int .i64 0, .int .i64 0, .slice none 0 0], .int .i64 z]) ∧ Below w.heap.size w w' := by
  have CP := Lib.hid (fun W h => cpipe_c nm tn a b f (.slice sa n cp) n X k s1 s2 hn W h)
  rw [hz] at CP
  clear hz
  have hW := Lib.hid hW1
  clear hW1
  obtain ⟨D, hD⟩ : ∃ D, w.heap.size = D := ⟨_, rfl⟩
  go_enter Tryz.func24, Tryz.ntmps24
  have ld1 : ((w.alloc (.cells #[.string nm, .string tn, .int .i64 a, .int .i64 b, .int .i64 f, .slice sa n cp] 26)).alloc (.cells #[.string ⟨#[]⟩, .string ⟨#[]⟩, .int .i64 0, .int .i64 0, .int .i64 0, .slice none 0 0] 26)).heap[D]? = some (.cells #[.string nm, .string tn, .int .i64 a, .int .i64 b, .int .i64 f, .slice sa n cp] 26) := (heap_old (o := .cells #[.string ⟨#[]⟩, .string ⟨#[]⟩, .int .i64 0, .int .i64 0, .int .i64 0, .slice none 0 0] 26) (heap_new (by first | omega | (simp; omega))))
  have y1_0 := cell6_0 ld1
  have y1_1 := cell6_1 ld1
  have y1_2 := cell6_2 ld1
  have y1_3 := cell6_3 ld1
  have y1_4 := cell6_4 ld1
  have y1_5 := cell6_5 ld1
  clear ld1
  have W1 : Wd ((w.alloc (.cells #[.string nm, .string tn, .int .i64 a, .int .i64 b, .int .i64 f, .slice sa n cp] 26)).alloc (.cells #[.string ⟨#[]⟩, .string ⟨#[]⟩, .int .i64 0, .int .i64 0, .int .i64 0, .slice none 0 0] 26)) (.slice sa n cp) n X := hW.out.below (by first | exact (((Below.refl _ w).alloc (by first | omega | (simp; omega)) (.cells #[.string nm, .string tn, .int .i64 a, .int .i64 b, .int .i64 f, .slice sa n cp] 26)).alloc (by first | omega | (simp; omega)) (.cells #[.string ⟨#[]⟩, .string ⟨#[]⟩, .int .i64 0, .int .i64 0, .int .i64 0, .slice none 0 0] 26)) | (rw [hD]; exact (((Below.refl _ w).alloc (by first | omega | (simp; omega)) (.cells #[.string nm, .string tn, .int .i64 a, .int .i64 b, .int .i64 f, .slice sa n cp] 26)).alloc (by first | omega | (simp; omega)) (.cells #[.string ⟨#[]⟩, .string ⟨#[]⟩, .int .i64 0, .int .i64 0, .int .i64 0, .slice none 0 0] 26))))
  go_wp2_with fail
  refine (CP.out _ W1).mono ?_
  rintro e v2 ⟨rfl, hb_v2⟩
  have cR_v2 : v2.heap[D]? = some (.cells #[.string nm, .string tn, .int .i64 a, .int .i64 b, .int .i64 f, .slice sa n cp] 26) := (hb_v2.block (D) (Array.getElem?_eq_some_iff.1 (show ((w.alloc (.cells #[.string nm, .string tn, .int .i64 a, .int .i64 b, .int .i64 f, .slice sa n cp] 26)).alloc (.cells #[.string ⟨#[]⟩, .string ⟨#[]⟩, .int .i64 0, .int .i64 0, .int .i64 0, .slice none 0 0] 26)).heap[D]? = some (.cells #[.string nm, .string tn, .int .i64 a, .int .i64 b, .int .i64 f, .slice sa n cp] 26) from (heap_old (o := .cells #[.string ⟨#[]⟩, .string ⟨#[]⟩, .int .i64 0, .int .i64 0, .int .i64 0, .slice none 0 0] 26) (heap_new (by first | omega | (simp; omega)))))).1).trans (heap_old (o := .cells #[.string ⟨#[]⟩, .string ⟨#[]⟩, .int .i64 0, .int .i64 0, .int .i64 0, .slice none 0 0] 26) (heap_new (by first | omega | (simp; omega))))
  have cZ_v2 : v2.heap[D + 1]? = some (.cells #[.string ⟨#[]⟩, .string ⟨#[]⟩, .int .i64 0, .int .i64 0, .int .i64 0, .slice none 0 0] 26) := (hb_v2.block (D + 1) (Array.getElem?_eq_some_iff.1 (show ((w.alloc (.cells #[.string nm, .string tn, .int .i64 a, .int .i64 b, .int .i64 f, .slice sa n cp] 26)).alloc (.cells #[.string ⟨#[]⟩, .string ⟨#[]⟩, .int .i64 0, .int .i64 0, .int .i64 0, .slice none 0 0] 26)).heap[D + 1]? = some (.cells #[.string ⟨#[]⟩, .string ⟨#[]⟩, .int .i64 0, .int .i64 0, .int .i64 0, .slice none 0 0] 26) from (heap_new (by first | omega | (simp; omega))))).1).trans (heap_new (by first | omega | (simp; omega)))
  have hw_v2 : Below D w v2 := ((((Below.refl _ w).alloc (by first | omega | (simp; omega)) (.cells #[.string nm, .string tn, .int .i64 a, .int .i64 b, .int .i64 f, .slice sa n cp] 26)).alloc (by first | omega | (simp; omega)) (.cells #[.string ⟨#[]⟩, .string ⟨#[]⟩, .int .i64 0, .int .i64 0, .int .i64 0, .slice none 0 0] 26))).trans (hb_v2.mono (by first | omega | (simp; omega)))
  clear hb_v2 y1_0 y1_1 y1_2 y1_3 y1_4 y1_5
  have hp := cZ_v2
  obtain ⟨f0, f1, f2, f3, f4, f5⟩ := free6_at hp
  obtain ⟨g0, g1, g2, g3, g4, g5⟩ := cell6_at hp
  have hE := set6_all (x0 := .string ⟨#[]⟩) (x1 := .string ⟨#[]⟩) (x2 := .int .i64 0) (x3 := .int .i64 0) (x4 := .int .i64 0) (x5 := .slice none 0 0) hp
  have HW := Lib.hid (below6 (hw_v2) (show D ≤ D + 1 by omega) (.string ⟨#[]⟩) (.string ⟨#[]⟩) (.int .i64 0) (.int .i64 0) (.int .i64 0) (.slice none 0 0))
  obtain ⟨U, hU⟩ : ∃ U, ((((((v2.setCell ⟨D + 1, 0, none⟩ (.string ⟨#[]⟩)).setCell ⟨D + 1, 1, none⟩ (.string ⟨#[]⟩)).setCell ⟨D + 1, 2, none⟩ (.int .i64 0)).setCell ⟨D + 1, 3, none⟩ (.int .i64 0)).setCell ⟨D + 1, 4, none⟩ (.int .i64 0)).setCell ⟨D + 1, 5, none⟩ (.slice none 0 0)) = U := ⟨_, rfl⟩
  rw [hU] at hE HW
  obtain ⟨z0, z1, z2, z3, z4, z5⟩ := cell6_at hE
  have HUU := Lib.hid hU
  clear hU hE hp
  go_wp2
  rw [HUU.out]
  exact bodyPost_ret (v := .tuple #[.agg #[.string ⟨#[]⟩, .string ⟨#[]⟩, .int .i64 0, .int .i64 0, .int .i64 0, .slice none 0 0], .int .i64 z]) (by simp [results, Tryz.results24, go_sem, z0, z1, z2, z3, z4, z5]) rfl ⟨rfl, by first | exact HW.out | (rw [hD]; exact HW.out)⟩

set_option maxRecDepth 100000 in
set_option maxHeartbeats 4000000 in
theorem slice_range (nm tn : ByteArray) (a b f : Int) (sa : Option Addr) (n cp : Nat) (X : Nat → Int) (k p : Int) (s1 : nm.size ≤ 1099511627776) (s2 : tn.size ≤ 1099511627776) (hn : n ≤ 1099511627776) (hz : cpE (rkE nm tn a b f n X) k n = 0) (hp : ¬ (1 ≤ p ∧ p ≤ n - k)) (w : World) (hW1 : Wd w (.slice sa n cp) n X) :
    Calls Tryz.prog 24 #[.agg #[.string nm, .string tn, .int .i64 a, .int .i64 b, .int .i64 f, .slice sa n cp], .int .i64 k, .int .i64 p] w fun e w' => e = .returned (.tuple #[.agg #[.string ⟨#[]⟩, .string ⟨#[]⟩, .int .i64 0, .int .i64 0, .int .i64 0, .slice none 0 0], .int .i64 3]) ∧ Below w.heap.size w w' := by
  have CP := Lib.hid (fun W h => cpipe_c nm tn a b f (.slice sa n cp) n X k s1 s2 hn W h)
  obtain ⟨h0, hk1, hk2⟩ := cp_ok hz
  obtain ⟨_, _, _, _, _, hn1, _⟩ := rk_ok h0
  rw [hz] at CP
  have q1 := wrap_in (q := (n : Int) - k) (by omega) (by omega)
  clear hz h0
  have hW := Lib.hid hW1
  clear hW1
  obtain ⟨D, hD⟩ : ∃ D, w.heap.size = D := ⟨_, rfl⟩
  rcases (show p < 1 ∨ (¬ p < 1 ∧ (n : Int) - k < p) by omega) with g1 | ⟨g1, g2⟩
  · skip
    go_enter Tryz.func24, Tryz.ntmps24
    have ld1 : ((w.alloc (.cells #[.string nm, .string tn, .int .i64 a, .int .i64 b, .int .i64 f, .slice sa n cp] 26)).alloc (.cells #[.string ⟨#[]⟩, .string ⟨#[]⟩, .int .i64 0, .int .i64 0, .int .i64 0, .slice none 0 0] 26)).heap[D]? = some (.cells #[.string nm, .string tn, .int .i64 a, .int .i64 b, .int .i64 f, .slice sa n cp] 26) := (heap_old (o := .cells #[.string ⟨#[]⟩, .string ⟨#[]⟩, .int .i64 0, .int .i64 0, .int .i64 0, .slice none 0 0] 26) (heap_new (by first | omega | (simp; omega))))
    have y1_0 := cell6_0 ld1
    have y1_1 := cell6_1 ld1
    have y1_2 := cell6_2 ld1
    have y1_3 := cell6_3 ld1
    have y1_4 := cell6_4 ld1
    have y1_5 := cell6_5 ld1
    clear ld1
    have W2 : Wd ((w.alloc (.cells #[.string nm, .string tn, .int .i64 a, .int .i64 b, .int .i64 f, .slice sa n cp] 26)).alloc (.cells #[.string ⟨#[]⟩, .string ⟨#[]⟩, .int .i64 0, .int .i64 0, .int .i64 0, .slice none 0 0] 26)) (.slice sa n cp) n X := hW.out.below (by first | exact (((Below.refl _ w).alloc (by first | omega | (simp; omega)) (.cells #[.string nm, .string tn, .int .i64 a, .int .i64 b, .int .i64 f, .slice sa n cp] 26)).alloc (by first | omega | (simp; omega)) (.cells #[.string ⟨#[]⟩, .string ⟨#[]⟩, .int .i64 0, .int .i64 0, .int .i64 0, .slice none 0 0] 26)) | (rw [hD]; exact (((Below.refl _ w).alloc (by first | omega | (simp; omega)) (.cells #[.string nm, .string tn, .int .i64 a, .int .i64 b, .int .i64 f, .slice sa n cp] 26)).alloc (by first | omega | (simp; omega)) (.cells #[.string ⟨#[]⟩, .string ⟨#[]⟩, .int .i64 0, .int .i64 0, .int .i64 0, .slice none 0 0] 26))))
    go_wp2_with fail
    refine (CP.out _ W2).mono ?_
    rintro e v2 ⟨rfl, hb_v2⟩
    have cR_v2 : v2.heap[D]? = some (.cells #[.string nm, .string tn, .int .i64 a, .int .i64 b, .int .i64 f, .slice sa n cp] 26) := (hb_v2.block (D) (Array.getElem?_eq_some_iff.1 (show ((w.alloc (.cells #[.string nm, .string tn, .int .i64 a, .int .i64 b, .int .i64 f, .slice sa n cp] 26)).alloc (.cells #[.string ⟨#[]⟩, .string ⟨#[]⟩, .int .i64 0, .int .i64 0, .int .i64 0, .slice none 0 0] 26)).heap[D]? = some (.cells #[.string nm, .string tn, .int .i64 a, .int .i64 b, .int .i64 f, .slice sa n cp] 26) from (heap_old (o := .cells #[.string ⟨#[]⟩, .string ⟨#[]⟩, .int .i64 0, .int .i64 0, .int .i64 0, .slice none 0 0] 26) (heap_new (by first | omega | (simp; omega)))))).1).trans (heap_old (o := .cells #[.string ⟨#[]⟩, .string ⟨#[]⟩, .int .i64 0, .int .i64 0, .int .i64 0, .slice none 0 0] 26) (heap_new (by first | omega | (simp; omega))))
    have cZ_v2 : v2.heap[D + 1]? = some (.cells #[.string ⟨#[]⟩, .string ⟨#[]⟩, .int .i64 0, .int .i64 0, .int .i64 0, .slice none 0 0] 26) := (hb_v2.block (D + 1) (Array.getElem?_eq_some_iff.1 (show ((w.alloc (.cells #[.string nm, .string tn, .int .i64 a, .int .i64 b, .int .i64 f, .slice sa n cp] 26)).alloc (.cells #[.string ⟨#[]⟩, .string ⟨#[]⟩, .int .i64 0, .int .i64 0, .int .i64 0, .slice none 0 0] 26)).heap[D + 1]? = some (.cells #[.string ⟨#[]⟩, .string ⟨#[]⟩, .int .i64 0, .int .i64 0, .int .i64 0, .slice none 0 0] 26) from (heap_new (by first | omega | (simp; omega))))).1).trans (heap_new (by first | omega | (simp; omega)))
    have hw_v2 : Below D w v2 := ((((Below.refl _ w).alloc (by first | omega | (simp; omega)) (.cells #[.string nm, .string tn, .int .i64 a, .int .i64 b, .int .i64 f, .slice sa n cp] 26)).alloc (by first | omega | (simp; omega)) (.cells #[.string ⟨#[]⟩, .string ⟨#[]⟩, .int .i64 0, .int .i64 0, .int .i64 0, .slice none 0 0] 26))).trans (hb_v2.mono (by first | omega | (simp; omega)))
    clear hb_v2 y1_0 y1_1 y1_2 y1_3 y1_4 y1_5
    have ld3 : v2.heap[D]? = some (.cells #[.string nm, .string tn, .int .i64 a, .int .i64 b, .int .i64 f, .slice sa n cp] 26) := cR_v2
    have y3_0 := cell6_0 ld3
    have y3_1 := cell6_1 ld3
    have y3_2 := cell6_2 ld3
    have y3_3 := cell6_3 ld3
    have y3_4 := cell6_4 ld3
    have y3_5 := cell6_5 ld3
    clear ld3
    have hp := cZ_v2
    obtain ⟨f0, f1, f2, f3, f4, f5⟩ := free6_at hp
    obtain ⟨g0, g1, g2, g3, g4, g5⟩ := cell6_at hp
    have hE := set6_all (x0 := .string ⟨#[]⟩) (x1 := .string ⟨#[]⟩) (x2 := .int .i64 0) (x3 := .int .i64 0) (x4 := .int .i64 0) (x5 := .slice none 0 0) hp
    have HW := Lib.hid (below6 (hw_v2) (show D ≤ D + 1 by omega) (.string ⟨#[]⟩) (.string ⟨#[]⟩) (.int .i64 0) (.int .i64 0) (.int .i64 0) (.slice none 0 0))
    obtain ⟨U, hU⟩ : ∃ U, ((((((v2.setCell ⟨D + 1, 0, none⟩ (.string ⟨#[]⟩)).setCell ⟨D + 1, 1, none⟩ (.string ⟨#[]⟩)).setCell ⟨D + 1, 2, none⟩ (.int .i64 0)).setCell ⟨D + 1, 3, none⟩ (.int .i64 0)).setCell ⟨D + 1, 4, none⟩ (.int .i64 0)).setCell ⟨D + 1, 5, none⟩ (.slice none 0 0)) = U := ⟨_, rfl⟩
    rw [hU] at hE HW
    obtain ⟨z0, z1, z2, z3, z4, z5⟩ := cell6_at hE
    have HUU := Lib.hid hU
    clear hU hE hp
    go_wp2
    rw [HUU.out]
    exact bodyPost_ret (v := .tuple #[.agg #[.string ⟨#[]⟩, .string ⟨#[]⟩, .int .i64 0, .int .i64 0, .int .i64 0, .slice none 0 0], .int .i64 3]) (by simp [results, Tryz.results24, go_sem, z0, z1, z2, z3, z4, z5]) rfl ⟨rfl, by first | exact HW.out | (rw [hD]; exact HW.out)⟩
  · skip
    go_enter Tryz.func24, Tryz.ntmps24
    have ld1 : ((w.alloc (.cells #[.string nm, .string tn, .int .i64 a, .int .i64 b, .int .i64 f, .slice sa n cp] 26)).alloc (.cells #[.string ⟨#[]⟩, .string ⟨#[]⟩, .int .i64 0, .int .i64 0, .int .i64 0, .slice none 0 0] 26)).heap[D]? = some (.cells #[.string nm, .string tn, .int .i64 a, .int .i64 b, .int .i64 f, .slice sa n cp] 26) := (heap_old (o := .cells #[.string ⟨#[]⟩, .string ⟨#[]⟩, .int .i64 0, .int .i64 0, .int .i64 0, .slice none 0 0] 26) (heap_new (by first | omega | (simp; omega))))
    have y1_0 := cell6_0 ld1
    have y1_1 := cell6_1 ld1
    have y1_2 := cell6_2 ld1
    have y1_3 := cell6_3 ld1
    have y1_4 := cell6_4 ld1
    have y1_5 := cell6_5 ld1
    clear ld1
    have W3 : Wd ((w.alloc (.cells #[.string nm, .string tn, .int .i64 a, .int .i64 b, .int .i64 f, .slice sa n cp] 26)).alloc (.cells #[.string ⟨#[]⟩, .string ⟨#[]⟩, .int .i64 0, .int .i64 0, .int .i64 0, .slice none 0 0] 26)) (.slice sa n cp) n X := hW.out.below (by first | exact (((Below.refl _ w).alloc (by first | omega | (simp; omega)) (.cells #[.string nm, .string tn, .int .i64 a, .int .i64 b, .int .i64 f, .slice sa n cp] 26)).alloc (by first | omega | (simp; omega)) (.cells #[.string ⟨#[]⟩, .string ⟨#[]⟩, .int .i64 0, .int .i64 0, .int .i64 0, .slice none 0 0] 26)) | (rw [hD]; exact (((Below.refl _ w).alloc (by first | omega | (simp; omega)) (.cells #[.string nm, .string tn, .int .i64 a, .int .i64 b, .int .i64 f, .slice sa n cp] 26)).alloc (by first | omega | (simp; omega)) (.cells #[.string ⟨#[]⟩, .string ⟨#[]⟩, .int .i64 0, .int .i64 0, .int .i64 0, .slice none 0 0] 26))))
    go_wp2_with fail
    refine (CP.out _ W3).mono ?_
    rintro e v2 ⟨rfl, hb_v2⟩
    have cR_v2 : v2.heap[D]? = some (.cells #[.string nm, .string tn, .int .i64 a, .int .i64 b, .int .i64 f, .slice sa n cp] 26) := (hb_v2.block (D) (Array.getElem?_eq_some_iff.1 (show ((w.alloc (.cells #[.string nm, .string tn, .int .i64 a, .int .i64 b, .int .i64 f, .slice sa n cp] 26)).alloc (.cells #[.string ⟨#[]⟩, .string ⟨#[]⟩, .int .i64 0, .int .i64 0, .int .i64 0, .slice none 0 0] 26)).heap[D]? = some (.cells #[.string nm, .string tn, .int .i64 a, .int .i64 b, .int .i64 f, .slice sa n cp] 26) from (heap_old (o := .cells #[.string ⟨#[]⟩, .string ⟨#[]⟩, .int .i64 0, .int .i64 0, .int .i64 0, .slice none 0 0] 26) (heap_new (by first | omega | (simp; omega)))))).1).trans (heap_old (o := .cells #[.string ⟨#[]⟩, .string ⟨#[]⟩, .int .i64 0, .int .i64 0, .int .i64 0, .slice none 0 0] 26) (heap_new (by first | omega | (simp; omega))))
    have cZ_v2 : v2.heap[D + 1]? = some (.cells #[.string ⟨#[]⟩, .string ⟨#[]⟩, .int .i64 0, .int .i64 0, .int .i64 0, .slice none 0 0] 26) := (hb_v2.block (D + 1) (Array.getElem?_eq_some_iff.1 (show ((w.alloc (.cells #[.string nm, .string tn, .int .i64 a, .int .i64 b, .int .i64 f, .slice sa n cp] 26)).alloc (.cells #[.string ⟨#[]⟩, .string ⟨#[]⟩, .int .i64 0, .int .i64 0, .int .i64 0, .slice none 0 0] 26)).heap[D + 1]? = some (.cells #[.string ⟨#[]⟩, .string ⟨#[]⟩, .int .i64 0, .int .i64 0, .int .i64 0, .slice none 0 0] 26) from (heap_new (by first | omega | (simp; omega))))).1).trans (heap_new (by first | omega | (simp; omega)))
    have hw_v2 : Below D w v2 := ((((Below.refl _ w).alloc (by first | omega | (simp; omega)) (.cells #[.string nm, .string tn, .int .i64 a, .int .i64 b, .int .i64 f, .slice sa n cp] 26)).alloc (by first | omega | (simp; omega)) (.cells #[.string ⟨#[]⟩, .string ⟨#[]⟩, .int .i64 0, .int .i64 0, .int .i64 0, .slice none 0 0] 26))).trans (hb_v2.mono (by first | omega | (simp; omega)))
    clear hb_v2 y1_0 y1_1 y1_2 y1_3 y1_4 y1_5
    have ld3 : v2.heap[D]? = some (.cells #[.string nm, .string tn, .int .i64 a, .int .i64 b, .int .i64 f, .slice sa n cp] 26) := cR_v2
    have y3_0 := cell6_0 ld3
    have y3_1 := cell6_1 ld3
    have y3_2 := cell6_2 ld3
    have y3_3 := cell6_3 ld3
    have y3_4 := cell6_4 ld3
    have y3_5 := cell6_5 ld3
    clear ld3
    have hp := cZ_v2
    obtain ⟨f0, f1, f2, f3, f4, f5⟩ := free6_at hp
    obtain ⟨g0, g1, g2, g3, g4, g5⟩ := cell6_at hp
    have hE := set6_all (x0 := .string ⟨#[]⟩) (x1 := .string ⟨#[]⟩) (x2 := .int .i64 0) (x3 := .int .i64 0) (x4 := .int .i64 0) (x5 := .slice none 0 0) hp
    have HW := Lib.hid (below6 (hw_v2) (show D ≤ D + 1 by omega) (.string ⟨#[]⟩) (.string ⟨#[]⟩) (.int .i64 0) (.int .i64 0) (.int .i64 0) (.slice none 0 0))
    obtain ⟨U, hU⟩ : ∃ U, ((((((v2.setCell ⟨D + 1, 0, none⟩ (.string ⟨#[]⟩)).setCell ⟨D + 1, 1, none⟩ (.string ⟨#[]⟩)).setCell ⟨D + 1, 2, none⟩ (.int .i64 0)).setCell ⟨D + 1, 3, none⟩ (.int .i64 0)).setCell ⟨D + 1, 4, none⟩ (.int .i64 0)).setCell ⟨D + 1, 5, none⟩ (.slice none 0 0)) = U := ⟨_, rfl⟩
    rw [hU] at hE HW
    obtain ⟨z0, z1, z2, z3, z4, z5⟩ := cell6_at hE
    have HUU := Lib.hid hU
    clear hU hE hp
    go_wp2
    rw [HUU.out]
    exact bodyPost_ret (v := .tuple #[.agg #[.string ⟨#[]⟩, .string ⟨#[]⟩, .int .i64 0, .int .i64 0, .int .i64 0, .slice none 0 0], .int .i64 3]) (by simp [results, Tryz.results24, go_sem, z0, z1, z2, z3, z4, z5]) rfl ⟨rfl, by first | exact HW.out | (rw [hD]; exact HW.out)⟩
def slcI (D : Nat) (nm tn : ByteArray) (a b f : Int) (g o n cp k p : Nat) (X : Nat → Int) : Nat → Value → World → Prop
  | 0, v, _ => v = .agg #[.string nm, .string tn, .int .i64 a, .int .i64 b, .int .i64 f, .slice (some ⟨g, o, none⟩) n cp]
  | 1, v, _ => v = .pointer (some ⟨D, 4, none⟩)
  | 2, v, _ => v = .int .i64 f
  | 3, v, _ => v = .int .i64 (k : Int)
  | 4, v, _ => v = .int .i64 (f + k)
  | 5, v, _ => v = .pointer (some ⟨D, 5, none⟩)
  | 6, v, _ => v = .slice (some ⟨g, o, none⟩) n cp
  | 7, v, _ => v = .int .i64 (k : Int)
  | 8, v, _ => v = .int .i64 (k : Int)
  | 9, v, _ => v = .int .i64 (p : Int)
  | 10, v, _ => v = .int .i64 ((k : Int) + (p : Int))
  | 11, v, _ => v = .slice (some ⟨g, o + k, none⟩) p (cp - k)
  | 12, v, W => ∃ q, v = .slice (some ⟨q, 0, none⟩) 1 1 ∧ W.heap[q]? = some (.cells #[.slice (some ⟨g, o + k, none⟩) p (cp - k)] 24)
  | 13, v, W => ∃ sr cr, v = .agg #[.string nm, .string tn, .int .i64 a, .int .i64 b, .int .i64 (f + k), .slice sr p cr] ∧ W.ownsRow (D + 2) 3 1 (.slice sr p cr) p (rowL (fun j => X (k + j)) p)
  | 15, v, _ => v = .int .i64 0
  | _, _, _ => True
theorem slcI_up (D : Nat) (nm tn : ByteArray) (a b f : Int) (g o n cp k p : Nat) (X : Nat → Int) : ∀ (j : Nat) (v : Value) (A B : World), Below A.heap.size A B → slcI D nm tn a b f g o n cp k p X j v A → slcI D nm tn a b f g o n cp k p X j v B
  | 0, _, _, _, _, h => h
  | 1, _, _, _, _, h => h
  | 2, _, _, _, _, h => h
  | 3, _, _, _, _, h => h
  | 4, _, _, _, _, h => h
  | 5, _, _, _, _, h => h
  | 6, _, _, _, _, h => h
  | 7, _, _, _, _, h => h
  | 8, _, _, _, _, h => h
  | 9, _, _, _, _, h => h
  | 10, _, _, _, _, h => h
  | 11, _, _, _, _, h => h
  | 12, _, _, _, hb, h => (by obtain ⟨q, h1, h2⟩ := h; exact ⟨q, h1, (hb.block q (Array.getElem?_eq_some_iff.1 h2).1).trans h2⟩)
  | 13, _, _, _, hb, h => (by obtain ⟨sr, cr, h1, h2⟩ := h; exact ⟨sr, cr, h1, owns_below h2 hb⟩)
  | 14, _, _, _, _, h => h
  | 15, _, _, _, _, h => h
  | _ + 16, _, _, _, _, _ => trivial
def slcJ (D : Nat) (nm tn : ByteArray) (a b f : Int) (g o n cp k p : Nat) (X : Nat → Int) : Nat → Value → Prop
  | 15, v => v = .int .i64 0
  | _, _ => True
theorem slcJ_of (D : Nat) (nm tn : ByteArray) (a b f : Int) (g o n cp k p : Nat) (X : Nat → Int) : ∀ (j : Nat) (v : Value) (A : World), slcI D nm tn a b f g o n cp k p X j v A → slcJ D nm tn a b f g o n cp k p X j v
  | 0, _, _, _ => trivial
  | 1, _, _, _ => trivial
  | 2, _, _, _ => trivial
  | 3, _, _, _ => trivial
  | 4, _, _, _ => trivial
  | 5, _, _, _ => trivial
  | 6, _, _, _ => trivial
  | 7, _, _, _ => trivial
  | 8, _, _, _ => trivial
  | 9, _, _, _ => trivial
  | 10, _, _, _ => trivial
  | 11, _, _, _ => trivial
  | 12, _, _, _ => trivial
  | 13, _, _, _ => trivial
  | 14, _, _, _ => trivial
  | 15, _, _, h => h
  | _ + 16, _, _, _ => trivial


set_option maxRecDepth 100000 in
set_option maxHeartbeats 4000000 in
theorem slice_ok (nm tn : ByteArray) (a b f : Int) (sa : Option Addr) (n cp : Nat) (X : Nat → Int) (k p : Nat) (s1 : nm.size ≤ 1099511627776) (s2 : tn.size ≤ 1099511627776) (hn : n ≤ 1099511627776) (hz : cpE (rkE nm tn a b f n X) k n = 0) (hp1 : 1 ≤ p) (hp2 : p + k ≤ n) (w : World) (hW1 : Wd w ( .slice sa n cp) n X) :
    Calls Tryz.prog 24 #[.agg #[.string nm, .string tn, .int .i64 a, .int .i64 b, .int .i64 f,  .slice sa n cp], .int .i64 (k : Int), .int .i64 (p : Int)] w fun e w' => (∃ sr cr, e = .returned (.tuple #[.agg #[.string nm, .string tn, .int .i64 a, .int .i64 b, .int .i64 (f + k), .slice sr p cr], .int .i64 0]) ∧ Wd w' (.slice sr p cr) p (fun j => X (k + j))) ∧ Below w.heap.size w w' := by
  have CP := Lib.hid (fun W h => cpipe_c nm tn a b f ( .slice sa n cp) n X k s1 s2 hn W h)
  obtain ⟨h0, hk1, hk2⟩ := cp_ok hz
  obtain ⟨_, _, _, hf, _, hn1, _⟩ := rk_ok h0
  rw [hz] at CP
  obtain ⟨g, o, cc, e0, hc, hg, c0⟩ := hW1.at (show k < n by omega)
  cases e0
  have q1 := wrap_in (q := (n : Int) - (k : Int)) (by omega) (by omega)
  have HQ1 := Lib.hid (wrap_in (q := f + (k : Int)) (by omega) (by omega))
  have HQ2 := Lib.hid (wrap_in (q := (k : Int) + (p : Int)) (by omega) (by omega))
  have HSL := Lib.hid (fun W => sl_at g o n cp k p (by omega) (by omega) hc W)
  have g1 : ¬ (p : Int) < 1 := by omega
  have g2 : ¬ (n : Int) - (k : Int) < (p : Int) := by omega
  have CC := Lib.hid (fun (V W : World) (hV : Wd V (.slice (some ⟨g, o, none⟩) n cp) n X) (hR : Below V.heap.size V W) (q : Nat) (hq : W.heap[q]? = some (.cells #[.slice (some ⟨g, o + k, none⟩) p (cp - k)] 24)) => slice_changed nm tn a b f g o n cp X k p hp1 hp2 W (hV.below hR) q hq)
  clear hz h0 hc hg c0 hf
  have hW := Lib.hid hW1
  clear hW1
  obtain ⟨D, hD⟩ : ∃ D, w.heap.size = D := ⟨_, rfl⟩
  go_enter Tryz.func24, Tryz.ntmps24
  have ld1 : ((w.alloc (.cells #[.string nm, .string tn, .int .i64 a, .int .i64 b, .int .i64 f, .slice (some ⟨g, o, none⟩) n cp] 26)).alloc (.cells #[.string ⟨#[]⟩, .string ⟨#[]⟩, .int .i64 0, .int .i64 0, .int .i64 0, .slice none 0 0] 26)).heap[D]? = some (.cells #[.string nm, .string tn, .int .i64 a, .int .i64 b, .int .i64 f, .slice (some ⟨g, o, none⟩) n cp] 26) := (heap_old (o := .cells #[.string ⟨#[]⟩, .string ⟨#[]⟩, .int .i64 0, .int .i64 0, .int .i64 0, .slice none 0 0] 26) (heap_new (by first | omega | (simp; omega))))
  have y1_0 := cell6_0 ld1
  have y1_1 := cell6_1 ld1
  have y1_2 := cell6_2 ld1
  have y1_3 := cell6_3 ld1
  have y1_4 := cell6_4 ld1
  have y1_5 := cell6_5 ld1
  clear ld1
  have W4 : Wd ((w.alloc (.cells #[.string nm, .string tn, .int .i64 a, .int .i64 b, .int .i64 f, .slice (some ⟨g, o, none⟩) n cp] 26)).alloc (.cells #[.string ⟨#[]⟩, .string ⟨#[]⟩, .int .i64 0, .int .i64 0, .int .i64 0, .slice none 0 0] 26)) (.slice (some ⟨g, o, none⟩) n cp) n X := hW.out.below (by first | exact (((Below.refl _ w).alloc (by first | omega | (simp; omega)) (.cells #[.string nm, .string tn, .int .i64 a, .int .i64 b, .int .i64 f, .slice (some ⟨g, o, none⟩) n cp] 26)).alloc (by first | omega | (simp; omega)) (.cells #[.string ⟨#[]⟩, .string ⟨#[]⟩, .int .i64 0, .int .i64 0, .int .i64 0, .slice none 0 0] 26)) | (rw [hD]; exact (((Below.refl _ w).alloc (by first | omega | (simp; omega)) (.cells #[.string nm, .string tn, .int .i64 a, .int .i64 b, .int .i64 f, .slice (some ⟨g, o, none⟩) n cp] 26)).alloc (by first | omega | (simp; omega)) (.cells #[.string ⟨#[]⟩, .string ⟨#[]⟩, .int .i64 0, .int .i64 0, .int .i64 0, .slice none 0 0] 26))))
  go_wp2_with fail
  refine (CP.out _ W4).mono ?_
  rintro e v2 ⟨rfl, hb_v2⟩
  have cR_v2 : v2.heap[D]? = some (.cells #[.string nm, .string tn, .int .i64 a, .int .i64 b, .int .i64 f, .slice (some ⟨g, o, none⟩) n cp] 26) := (hb_v2.block (D) (Array.getElem?_eq_some_iff.1 (show ((w.alloc (.cells #[.string nm, .string tn, .int .i64 a, .int .i64 b, .int .i64 f, .slice (some ⟨g, o, none⟩) n cp] 26)).alloc (.cells #[.string ⟨#[]⟩, .string ⟨#[]⟩, .int .i64 0, .int .i64 0, .int .i64 0, .slice none 0 0] 26)).heap[D]? = some (.cells #[.string nm, .string tn, .int .i64 a, .int .i64 b, .int .i64 f, .slice (some ⟨g, o, none⟩) n cp] 26) from (heap_old (o := .cells #[.string ⟨#[]⟩, .string ⟨#[]⟩, .int .i64 0, .int .i64 0, .int .i64 0, .slice none 0 0] 26) (heap_new (by first | omega | (simp; omega)))))).1).trans (heap_old (o := .cells #[.string ⟨#[]⟩, .string ⟨#[]⟩, .int .i64 0, .int .i64 0, .int .i64 0, .slice none 0 0] 26) (heap_new (by first | omega | (simp; omega))))
  have cZ_v2 : v2.heap[D + 1]? = some (.cells #[.string ⟨#[]⟩, .string ⟨#[]⟩, .int .i64 0, .int .i64 0, .int .i64 0, .slice none 0 0] 26) := (hb_v2.block (D + 1) (Array.getElem?_eq_some_iff.1 (show ((w.alloc (.cells #[.string nm, .string tn, .int .i64 a, .int .i64 b, .int .i64 f, .slice (some ⟨g, o, none⟩) n cp] 26)).alloc (.cells #[.string ⟨#[]⟩, .string ⟨#[]⟩, .int .i64 0, .int .i64 0, .int .i64 0, .slice none 0 0] 26)).heap[D + 1]? = some (.cells #[.string ⟨#[]⟩, .string ⟨#[]⟩, .int .i64 0, .int .i64 0, .int .i64 0, .slice none 0 0] 26) from (heap_new (by first | omega | (simp; omega))))).1).trans (heap_new (by first | omega | (simp; omega)))
  have hw_v2 : Below D w v2 := ((((Below.refl _ w).alloc (by first | omega | (simp; omega)) (.cells #[.string nm, .string tn, .int .i64 a, .int .i64 b, .int .i64 f, .slice (some ⟨g, o, none⟩) n cp] 26)).alloc (by first | omega | (simp; omega)) (.cells #[.string ⟨#[]⟩, .string ⟨#[]⟩, .int .i64 0, .int .i64 0, .int .i64 0, .slice none 0 0] 26))).trans (hb_v2.mono (by first | omega | (simp; omega)))
  clear hb_v2 y1_0 y1_1 y1_2 y1_3 y1_4 y1_5
  have ld3 : v2.heap[D]? = some (.cells #[.string nm, .string tn, .int .i64 a, .int .i64 b, .int .i64 f, .slice (some ⟨g, o, none⟩) n cp] 26) := cR_v2
  have y3_0 := cell6_0 ld3
  have y3_1 := cell6_1 ld3
  have y3_2 := cell6_2 ld3
  have y3_3 := cell6_3 ld3
  have y3_4 := cell6_4 ld3
  have y3_5 := cell6_5 ld3
  clear ld3
  have W5 : Wd v2 (.slice (some ⟨g, o, none⟩) n cp) n X := hW.out.below (by first | exact hw_v2 | (rw [hD]; exact hw_v2))
  have HV := Lib.hid (show v2.heap[D]? = _ ∧ v2.heap[D + 1]? = _ ∧ D + 2 ≤ v2.heap.size from ⟨cR_v2, cZ_v2, by have := (Array.getElem?_eq_some_iff.1 cZ_v2).1; omega⟩)
  have HB := Lib.hid hw_v2
  have CC := Lib.hid (fun W hR q hq => CC.out v2 W W5 hR q hq)
  go_upto_region 6 with fail
  clear W5 cR_v2 cZ_v2 hw_v2 y3_0 y3_1 y3_2 y3_3 y3_4 y3_5
  refine wp_region_slots_at rfl rfl (fun base ys => ((((((((((((((base.set 28 (ys 0)).set 29 (ys 1)).set 30 (ys 2)).set 31 (ys 3)).set 32 (ys 4)).set 33 (ys 5)).set 34 (ys 6)).set 35 (ys 7)).set 36 (ys 8)).set 37 (ys 9)).set 38 (ys 10)).set 39 (ys 11)).set 40 (ys 12)).set 41 (ys 13)).set 7 (ys 15)) (StI _ 14 12 (Below v2.heap.size v2) (slcI D nm tn a b f g o n cp k p X) (slcJ D nm tn a b f g o n cp k p X) (fun _ A => ∃ sr cr, A.ownsRow (D + 2) 3 1 (.slice sr p cr) p (rowL (fun j => X (k + j)) p) ∧ A.heap[D + 1]? = some (.cells #[.string nm, .string tn, .int .i64 a, .int .i64 b, .int .i64 (f + k), .slice sr p cr] 26) ∧ Below D w A)) (fun | 15 => .int .i64 0 | _ => undef) (by kernel_rfl) (st_start (by decide) ((Below.refl _ _).trans ⟨rfl, rfl, rfl, Nat.le_refl _, fun _ _ => rfl⟩)) ?h
  case h =>
    intro FF hFF
    simp only [List.set_cons_succ, List.set_cons_zero] at hFF
    subst hFF
    refine ⟨rfl, ?_, ?_⟩
    refine ⟨?_, ?_⟩
    · refine SlotStep.stB rfl (by decide) (fun L hc h => (clo_at hc 13 0 rfl (by kernel_rfl) (clo_at hc 14 13 rfl (by kernel_rfl) h))) (fun A B hb h => h.trans (hb.mono h.size)) (slcI_up D nm tn a b f g o n cp k p X) ?_
      intro ys W hR hd K hK
      have hl := (hR.block D (Array.getElem?_eq_some_iff.1 HV.out.1).1).trans HV.out.1
      obtain ⟨c0, c1, c2, c3, c4, c5⟩ := cell6_at hl
      clear hl
      go_simp
      have hK2 := hK (.agg #[.string nm, .string tn, .int .i64 a, .int .i64 b, .int .i64 f, .slice (some ⟨g, o, none⟩) n cp]) _ (Below.refl _ _) rfl
      simp (config := { decide := true }) only [upd, if_true, if_false] at hK2
      exact hK2
    refine ⟨?_, ?_⟩
    · refine SlotStep.stB rfl (by decide) (fun L hc h => (clo_at hc 2 1 rfl (by kernel_rfl) (clo_at hc 4 2 rfl (by kernel_rfl) (clo_at hc 13 4 rfl (by kernel_rfl) (clo_at hc 14 13 rfl (by kernel_rfl) h))))) (fun A B hb h => h.trans (hb.mono h.size)) (slcI_up D nm tn a b f g o n cp k p X) ?_
      intro ys W hR hd K hK
      go_simp
      have hK2 := hK (.pointer (some ⟨D, 4, none⟩)) _ (Below.refl _ _) rfl
      simp (config := { decide := true }) only [upd, if_true, if_false] at hK2
      exact hK2
    refine ⟨?_, ?_⟩
    · refine SlotStep.stB rfl (by decide) (fun L hc h => (clo_at hc 4 2 rfl (by kernel_rfl) (clo_at hc 13 4 rfl (by kernel_rfl) (clo_at hc 14 13 rfl (by kernel_rfl) h)))) (fun A B hb h => h.trans (hb.mono h.size)) (slcI_up D nm tn a b f g o n cp k p X) ?_
      intro ys W hR hd K hK
      have dd1 : ys 1 = (.pointer (some ⟨D, 4, none⟩)) := hd 1 (by kernel_rfl) (by decide)
      have hl := (hR.block D (Array.getElem?_eq_some_iff.1 HV.out.1).1).trans HV.out.1
      obtain ⟨c0, c1, c2, c3, c4, c5⟩ := cell6_at hl
      clear hl
      go_simp
      have hK2 := hK (.int .i64 f) _ (Below.refl _ _) rfl
      simp (config := { decide := true }) only [upd, if_true, if_false, dd1] at hK2
      exact hK2
    refine ⟨?_, ?_⟩
    · refine SlotStep.stB rfl (by decide) (fun L hc h => (clo_at hc 4 3 rfl (by kernel_rfl) (clo_at hc 13 4 rfl (by kernel_rfl) (clo_at hc 14 13 rfl (by kernel_rfl) h)))) (fun A B hb h => h.trans (hb.mono h.size)) (slcI_up D nm tn a b f g o n cp k p X) ?_
      intro ys W hR hd K hK
      go_simp
      have hK2 := hK (.int .i64 (k : Int)) _ (Below.refl _ _) rfl
      simp (config := { decide := true }) only [upd, if_true, if_false] at hK2
      exact hK2
    refine ⟨?_, ?_⟩
    · refine SlotStep.stB rfl (by decide) (fun L hc h => (clo_at hc 13 4 rfl (by kernel_rfl) (clo_at hc 14 13 rfl (by kernel_rfl) h))) (fun A B hb h => h.trans (hb.mono h.size)) (slcI_up D nm tn a b f g o n cp k p X) ?_
      intro ys W hR hd K hK
      have dd2 : ys 2 = (.int .i64 f) := hd 2 (by kernel_rfl) (by decide)
      have dd3 : ys 3 = (.int .i64 (k : Int)) := hd 3 (by kernel_rfl) (by decide)
      have wq := HQ1.out
      go_simp
      have hK2 := hK (.int .i64 (f + k)) _ (Below.refl _ _) rfl
      simp (config := { decide := true }) only [upd, if_true, if_false, dd2, dd3] at hK2
      exact hK2
    refine ⟨?_, ?_⟩
    · refine SlotStep.stB rfl (by decide) (fun L hc h => (clo_at hc 6 5 rfl (by kernel_rfl) (clo_at hc 11 6 rfl (by kernel_rfl) (clo_at hc 12 11 rfl (by kernel_rfl) (clo_at hc 13 12 rfl (by kernel_rfl) (clo_at hc 14 13 rfl (by kernel_rfl) h)))))) (fun A B hb h => h.trans (hb.mono h.size)) (slcI_up D nm tn a b f g o n cp k p X) ?_
      intro ys W hR hd K hK
      go_simp
      have hK2 := hK (.pointer (some ⟨D, 5, none⟩)) _ (Below.refl _ _) rfl
      simp (config := { decide := true }) only [upd, if_true, if_false] at hK2
      exact hK2
    refine ⟨?_, ?_⟩
    · refine SlotStep.stB rfl (by decide) (fun L hc h => (clo_at hc 11 6 rfl (by kernel_rfl) (clo_at hc 12 11 rfl (by kernel_rfl) (clo_at hc 13 12 rfl (by kernel_rfl) (clo_at hc 14 13 rfl (by kernel_rfl) h))))) (fun A B hb h => h.trans (hb.mono h.size)) (slcI_up D nm tn a b f g o n cp k p X) ?_
      intro ys W hR hd K hK
      have dd5 : ys 5 = (.pointer (some ⟨D, 5, none⟩)) := hd 5 (by kernel_rfl) (by decide)
      have hl := (hR.block D (Array.getElem?_eq_some_iff.1 HV.out.1).1).trans HV.out.1
      obtain ⟨c0, c1, c2, c3, c4, c5⟩ := cell6_at hl
      clear hl
      go_simp
      have hK2 := hK (.slice (some ⟨g, o, none⟩) n cp) _ (Below.refl _ _) rfl
      simp (config := { decide := true }) only [upd, if_true, if_false, dd5] at hK2
      exact hK2
    refine ⟨?_, ?_⟩
    · refine SlotStep.stB rfl (by decide) (fun L hc h => (clo_at hc 11 7 rfl (by kernel_rfl) (clo_at hc 12 11 rfl (by kernel_rfl) (clo_at hc 13 12 rfl (by kernel_rfl) (clo_at hc 14 13 rfl (by kernel_rfl) h))))) (fun A B hb h => h.trans (hb.mono h.size)) (slcI_up D nm tn a b f g o n cp k p X) ?_
      intro ys W hR hd K hK
      go_simp
      have hK2 := hK (.int .i64 (k : Int)) _ (Below.refl _ _) rfl
      simp (config := { decide := true }) only [upd, if_true, if_false] at hK2
      exact hK2
    refine ⟨?_, ?_⟩
    · refine SlotStep.stB rfl (by decide) (fun L hc h => (clo_at hc 10 8 rfl (by kernel_rfl) (clo_at hc 11 10 rfl (by kernel_rfl) (clo_at hc 12 11 rfl (by kernel_rfl) (clo_at hc 13 12 rfl (by kernel_rfl) (clo_at hc 14 13 rfl (by kernel_rfl) h)))))) (fun A B hb h => h.trans (hb.mono h.size)) (slcI_up D nm tn a b f g o n cp k p X) ?_
      intro ys W hR hd K hK
      go_simp
      have hK2 := hK (.int .i64 (k : Int)) _ (Below.refl _ _) rfl
      simp (config := { decide := true }) only [upd, if_true, if_false] at hK2
      exact hK2
    refine ⟨?_, ?_⟩
    · refine SlotStep.stB rfl (by decide) (fun L hc h => (clo_at hc 10 9 rfl (by kernel_rfl) (clo_at hc 11 10 rfl (by kernel_rfl) (clo_at hc 12 11 rfl (by kernel_rfl) (clo_at hc 13 12 rfl (by kernel_rfl) (clo_at hc 14 13 rfl (by kernel_rfl) h)))))) (fun A B hb h => h.trans (hb.mono h.size)) (slcI_up D nm tn a b f g o n cp k p X) ?_
      intro ys W hR hd K hK
      go_simp
      have hK2 := hK (.int .i64 (p : Int)) _ (Below.refl _ _) rfl
      simp (config := { decide := true }) only [upd, if_true, if_false] at hK2
      exact hK2
    refine ⟨?_, ?_⟩
    · refine SlotStep.stB rfl (by decide) (fun L hc h => (clo_at hc 11 10 rfl (by kernel_rfl) (clo_at hc 12 11 rfl (by kernel_rfl) (clo_at hc 13 12 rfl (by kernel_rfl) (clo_at hc 14 13 rfl (by kernel_rfl) h))))) (fun A B hb h => h.trans (hb.mono h.size)) (slcI_up D nm tn a b f g o n cp k p X) ?_
      intro ys W hR hd K hK
      have dd8 : ys 8 = (.int .i64 (k : Int)) := hd 8 (by kernel_rfl) (by decide)
      have dd9 : ys 9 = (.int .i64 (p : Int)) := hd 9 (by kernel_rfl) (by decide)
      have wq := HQ2.out
      go_simp
      have hK2 := hK (.int .i64 ((k : Int) + (p : Int))) _ (Below.refl _ _) rfl
      simp (config := { decide := true }) only [upd, if_true, if_false, dd8, dd9] at hK2
      exact hK2
    refine ⟨?_, ?_⟩
    · refine SlotStep.stB rfl (by decide) (fun L hc h => (clo_at hc 12 11 rfl (by kernel_rfl) (clo_at hc 13 12 rfl (by kernel_rfl) (clo_at hc 14 13 rfl (by kernel_rfl) h)))) (fun A B hb h => h.trans (hb.mono h.size)) (slcI_up D nm tn a b f g o n cp k p X) ?_
      intro ys W hR hd K hK
      have dd6 : ys 6 = (.slice (some ⟨g, o, none⟩) n cp) := hd 6 (by kernel_rfl) (by decide)
      have dd7 : ys 7 = (.int .i64 (k : Int)) := hd 7 (by kernel_rfl) (by decide)
      have dd10 : ys 10 = (.int .i64 ((k : Int) + (p : Int))) := hd 10 (by kernel_rfl) (by decide)
      have hs := HSL.out W
      go_simp
      have hK2 := hK (.slice (some ⟨g, o + k, none⟩) p (cp - k)) _ (Below.refl _ _) rfl
      simp (config := { decide := true }) only [upd, if_true, if_false, dd6, dd7, dd10] at hK2
      exact hK2
    refine ⟨?_, ?_⟩
    · refine SlotStep.stB rfl (by decide) (fun L hc h => (clo_at hc 13 12 rfl (by kernel_rfl) (clo_at hc 14 13 rfl (by kernel_rfl) h))) (fun A B hb h => h.trans (hb.mono h.size)) (slcI_up D nm tn a b f g o n cp k p X) ?_
      intro ys W hR hd K hK
      have dd11 : ys 11 = (.slice (some ⟨g, o + k, none⟩) p (cp - k)) := hd 11 (by kernel_rfl) (by decide)
      go_simp
      have hK2 := hK (.slice (some ⟨W.heap.size, 0, none⟩) 1 1) _ ((Below.refl _ W).alloc (Nat.le_refl _) (.cells #[.slice (some ⟨g, o + k, none⟩) p (cp - k)] 24)) ⟨_, rfl, heap_new rfl⟩
      simp (config := { decide := true }) only [upd, if_true, if_false, dd11] at hK2
      exact hK2
    refine ⟨?_, ?_⟩
    · refine SlotStep.stB rfl (by decide) (fun L hc h => (clo_at hc 14 13 rfl (by kernel_rfl) h)) (fun A B hb h => h.trans (hb.mono h.size)) (slcI_up D nm tn a b f g o n cp k p X) ?_
      intro ys W hR hd K hK
      have dd0 : ys 0 = (.agg #[.string nm, .string tn, .int .i64 a, .int .i64 b, .int .i64 f, .slice (some ⟨g, o, none⟩) n cp]) := hd 0 (by kernel_rfl) (by decide)
      have dd4 : ys 4 = (.int .i64 (f + k)) := hd 4 (by kernel_rfl) (by decide)
      obtain ⟨q, dd12, hq⟩ : ∃ q, ys 12 = .slice (some ⟨q, 0, none⟩) 1 1 ∧ W.heap[q]? = some (.cells #[.slice (some ⟨g, o + k, none⟩) p (cp - k)] 24) := hd 12 (by kernel_rfl) (by decide)
      have HC := CC.out W hR q hq
      clear hq
      go_simp
      refine (HC).mono ?_
      rintro e w5 ⟨⟨sr, cr, rfl, hm5⟩, hb5⟩
      have hK2 := hK (.agg #[.string nm, .string tn, .int .i64 a, .int .i64 b, .int .i64 (f + k), .slice sr p cr]) _ hb5 ⟨sr, cr, rfl, owns_base hm5 (Nat.le_trans HV.out.2.2 hR.size)⟩
      simp (config := { decide := true }) only [upd, if_true, if_false, dd0, dd4, dd12] at hK2
      exact hK2
    refine ⟨?_, ?_⟩
    · refine SlotStep.stS rfl rfl (by decide) (slcJ_of D nm tn a b f g o n cp k p X) (fun _ => trivial) ?_
      intro ys W hR hd K hK
      obtain ⟨sr, cr, dd13, hrow⟩ : ∃ sr cr, ys 13 = .agg #[.string nm, .string tn, .int .i64 a, .int .i64 b, .int .i64 (f + k), .slice sr p cr] ∧ W.ownsRow (D + 2) 3 1 (.slice sr p cr) p (rowL (fun j => X (k + j)) p) := hd 13 (by kernel_rfl) (by decide)
      have hl := (hR.block (D + 1) (Array.getElem?_eq_some_iff.1 HV.out.2.1).1).trans HV.out.2.1
      obtain ⟨c0, c1, c2, c3, c4, c5⟩ := cell6_at hl
      obtain ⟨f0, f1, f2, f3, f4, f5⟩ := free6_at hl
      have HL := Lib.hid hl
      have HO := Lib.hid hrow
      have HWW := Lib.hid (HB.out.trans (hR.mono (by have := HB.out.size; omega)))
      clear hl hrow
      go_simp
      have hK2 := hK undef _ ⟨sr, cr, owns_set (owns_set (owns_set (owns_set (owns_set (owns_set HO.out (by omega)) (by omega)) (by omega)) (by omega)) (by omega)) (by omega), set6_all HL.out, below6 HWW.out (by omega) _ _ _ _ _ _⟩
      simp (config := { decide := true }) only [upd, if_true, if_false, dd13] at hK2
      exact hK2
    refine ⟨?_, ?_⟩
    · refine SlotStep.stP rfl (by decide) (by decide) (slcJ_of D nm tn a b f g o n cp k p X) ?_
      intro ys W hd K hK
      go_simp
      have hK2 := hK (.int .i64 0) rfl (fun _ => rfl)
      simp (config := { decide := true }) only [upd, if_true, if_false] at hK2
      exact hK2
    trivial
    · intro L5 ys5 U hL5 hI5
      obtain ⟨⟨sr, cr, hw9, hp9, hb9⟩, hj⟩ := st_end (by decide) hL5 hI5
      have d15 : ys5 15 = .int .i64 0 := hj 15 (by decide)
      have HF := Lib.hid (And.intro hw9 hb9)
      obtain ⟨d0, d1, d2, d3, d4, d5⟩ := cell6_at hp9
      simp only [d15]
      clear hw9 hb9 hI5 hL5 hp9 hj d15
      go_wp2
      exact bodyPost_ret (v := .tuple #[.agg #[.string nm, .string tn, .int .i64 a, .int .i64 b, .int .i64 (f + k), .slice sr p cr], .int .i64 0]) (by simp [results, Tryz.results24, go_sem, d0, d1, d2, d3, d4, d5]) rfl ⟨⟨sr, cr, rfl, (wd_own HF.out.1).2⟩, by first | exact HF.out.2 | (rw [hD]; exact HF.out.2)⟩
end Go.Proofs.YtbkbncapgljfaaaGreatDoor
