/- Contracts of rank's Repitch. -/
import Derived.Test.YtbkbncapgljfaaaGreatDoorRkK
namespace Go.Proofs.YtbkbncapgljfaaaGreatDoor
open Go Go.RowKit Go.Shelf

theorem set2_at {W : World} {b : Nat} {c0 c1 c2 c3 c4 c5 x y : Value} {T : TypeId} (h : W.heap[b]? = some (.cells #[c0, c1, c2, c3, c4, c5] T)) :
    ((W.setCell ⟨b, 2, none⟩ x).setCell ⟨b, 3, none⟩ y).heap[b]? = some (.cells #[c0, c1, x, y, c4, c5] T) := set6_3 (set6_2 h)


set_option maxRecDepth 100000 in
set_option maxHeartbeats 4000000 in
theorem repitch_bad (nm tn : ByteArray) (a b f : Int) (sa : Option Addr) (n cp : Nat) (X : Nat → Int) (c d : Int) (s1 : nm.size ≤ 1099511627776) (s2 : tn.size ≤ 1099511627776) (hn : n ≤ 1099511627776) (z : Int) (h1 : rkE nm tn a b f n X = z) (h2 : ¬ z = 0) (w : World) (hW1 : Wd w (.slice sa n cp) n X) :
    Calls Tryz.prog 29 #[.agg #[.string nm, .string tn, .int .i64 a, .int .i64 b, .int .i64 f, .slice sa n cp], .agg #[.int .i64 c, .int .i64 d]] w fun e w' => e = .returned (.tuple #[.agg #[.string ⟨#[]⟩, .string ⟨#[]⟩, .int .i64 0, .int .i64 0, .int .i64 0, .slice none 0 0], .int .i64 z]) ∧ Below w.heap.size w w' := by
  have CK := Lib.hid (fun W h => rcheck_c nm tn a b f (.slice sa n cp) n X s1 s2 hn W h)
  rw [h1] at CK
  clear h1
  have hW := Lib.hid hW1
  clear hW1
  obtain ⟨D, hD⟩ : ∃ D, w.heap.size = D := ⟨_, rfl⟩
  go_enter Tryz.func29, Tryz.ntmps29
  have ld1 : (((w.alloc (.cells #[.string nm, .string tn, .int .i64 a, .int .i64 b, .int .i64 f, .slice sa n cp] 26)).alloc (.cells #[.int .i64 c, .int .i64 d] 23)).alloc (.cells #[.string ⟨#[]⟩, .string ⟨#[]⟩, .int .i64 0, .int .i64 0, .int .i64 0, .slice none 0 0] 26)).heap[D]? = some (.cells #[.string nm, .string tn, .int .i64 a, .int .i64 b, .int .i64 f, .slice sa n cp] 26) := (heap_old (o := .cells #[.string ⟨#[]⟩, .string ⟨#[]⟩, .int .i64 0, .int .i64 0, .int .i64 0, .slice none 0 0] 26) (heap_old (o := .cells #[.int .i64 c, .int .i64 d] 23) (heap_new (by first | omega | (simp; omega)))))
  have y1_0 := cell6_0 ld1
  have y1_1 := cell6_1 ld1
  have y1_2 := cell6_2 ld1
  have y1_3 := cell6_3 ld1
  have y1_4 := cell6_4 ld1
  have y1_5 := cell6_5 ld1
  clear ld1
  have W1 : Wd (((w.alloc (.cells #[.string nm, .string tn, .int .i64 a, .int .i64 b, .int .i64 f, .slice sa n cp] 26)).alloc (.cells #[.int .i64 c, .int .i64 d] 23)).alloc (.cells #[.string ⟨#[]⟩, .string ⟨#[]⟩, .int .i64 0, .int .i64 0, .int .i64 0, .slice none 0 0] 26)) (.slice sa n cp) n X := hW.out.below (by first | exact ((((Below.refl _ w).alloc (by first | omega | (simp; omega)) (.cells #[.string nm, .string tn, .int .i64 a, .int .i64 b, .int .i64 f, .slice sa n cp] 26)).alloc (by first | omega | (simp; omega)) (.cells #[.int .i64 c, .int .i64 d] 23)).alloc (by first | omega | (simp; omega)) (.cells #[.string ⟨#[]⟩, .string ⟨#[]⟩, .int .i64 0, .int .i64 0, .int .i64 0, .slice none 0 0] 26)) | (rw [hD]; exact ((((Below.refl _ w).alloc (by first | omega | (simp; omega)) (.cells #[.string nm, .string tn, .int .i64 a, .int .i64 b, .int .i64 f, .slice sa n cp] 26)).alloc (by first | omega | (simp; omega)) (.cells #[.int .i64 c, .int .i64 d] 23)).alloc (by first | omega | (simp; omega)) (.cells #[.string ⟨#[]⟩, .string ⟨#[]⟩, .int .i64 0, .int .i64 0, .int .i64 0, .slice none 0 0] 26))))
  go_wp2_with fail
  refine (CK.out _ W1).mono ?_
  rintro e v2 ⟨rfl, hb_v2⟩
  have cR_v2 : v2.heap[D]? = some (.cells #[.string nm, .string tn, .int .i64 a, .int .i64 b, .int .i64 f, .slice sa n cp] 26) := (hb_v2.block (D) (Array.getElem?_eq_some_iff.1 (show (((w.alloc (.cells #[.string nm, .string tn, .int .i64 a, .int .i64 b, .int .i64 f, .slice sa n cp] 26)).alloc (.cells #[.int .i64 c, .int .i64 d] 23)).alloc (.cells #[.string ⟨#[]⟩, .string ⟨#[]⟩, .int .i64 0, .int .i64 0, .int .i64 0, .slice none 0 0] 26)).heap[D]? = some (.cells #[.string nm, .string tn, .int .i64 a, .int .i64 b, .int .i64 f, .slice sa n cp] 26) from (heap_old (o := .cells #[.string ⟨#[]⟩, .string ⟨#[]⟩, .int .i64 0, .int .i64 0, .int .i64 0, .slice none 0 0] 26) (heap_old (o := .cells #[.int .i64 c, .int .i64 d] 23) (heap_new (by first | omega | (simp; omega))))))).1).trans (heap_old (o := .cells #[.string ⟨#[]⟩, .string ⟨#[]⟩, .int .i64 0, .int .i64 0, .int .i64 0, .slice none 0 0] 26) (heap_old (o := .cells #[.int .i64 c, .int .i64 d] 23) (heap_new (by first | omega | (simp; omega)))))
  have cF_v2 : v2.heap[D + 1]? = some (.cells #[.int .i64 c, .int .i64 d] 23) := (hb_v2.block (D + 1) (Array.getElem?_eq_some_iff.1 (show (((w.alloc (.cells #[.string nm, .string tn, .int .i64 a, .int .i64 b, .int .i64 f, .slice sa n cp] 26)).alloc (.cells #[.int .i64 c, .int .i64 d] 23)).alloc (.cells #[.string ⟨#[]⟩, .string ⟨#[]⟩, .int .i64 0, .int .i64 0, .int .i64 0, .slice none 0 0] 26)).heap[D + 1]? = some (.cells #[.int .i64 c, .int .i64 d] 23) from (heap_old (o := .cells #[.string ⟨#[]⟩, .string ⟨#[]⟩, .int .i64 0, .int .i64 0, .int .i64 0, .slice none 0 0] 26) (heap_new (by first | omega | (simp; omega)))))).1).trans (heap_old (o := .cells #[.string ⟨#[]⟩, .string ⟨#[]⟩, .int .i64 0, .int .i64 0, .int .i64 0, .slice none 0 0] 26) (heap_new (by first | omega | (simp; omega))))
  have cZ_v2 : v2.heap[D + 1 + 1]? = some (.cells #[.string ⟨#[]⟩, .string ⟨#[]⟩, .int .i64 0, .int .i64 0, .int .i64 0, .slice none 0 0] 26) := (hb_v2.block (D + 1 + 1) (Array.getElem?_eq_some_iff.1 (show (((w.alloc (.cells #[.string nm, .string tn, .int .i64 a, .int .i64 b, .int .i64 f, .slice sa n cp] 26)).alloc (.cells #[.int .i64 c, .int .i64 d] 23)).alloc (.cells #[.string ⟨#[]⟩, .string ⟨#[]⟩, .int .i64 0, .int .i64 0, .int .i64 0, .slice none 0 0] 26)).heap[D + 1 + 1]? = some (.cells #[.string ⟨#[]⟩, .string ⟨#[]⟩, .int .i64 0, .int .i64 0, .int .i64 0, .slice none 0 0] 26) from (heap_new (by first | omega | (simp; omega))))).1).trans (heap_new (by first | omega | (simp; omega)))
  have hw_v2 : Below D w v2 := (((((Below.refl _ w).alloc (by first | omega | (simp; omega)) (.cells #[.string nm, .string tn, .int .i64 a, .int .i64 b, .int .i64 f, .slice sa n cp] 26)).alloc (by first | omega | (simp; omega)) (.cells #[.int .i64 c, .int .i64 d] 23)).alloc (by first | omega | (simp; omega)) (.cells #[.string ⟨#[]⟩, .string ⟨#[]⟩, .int .i64 0, .int .i64 0, .int .i64 0, .slice none 0 0] 26))).trans (hb_v2.mono (by first | omega | (simp; omega)))
  clear hb_v2 y1_0 y1_1 y1_2 y1_3 y1_4 y1_5
  have hp := cZ_v2
  obtain ⟨f0, f1, f2, f3, f4, f5⟩ := free6_at hp
  obtain ⟨g0, g1, g2, g3, g4, g5⟩ := cell6_at hp
  have hE := set6_all (x0 := .string ⟨#[]⟩) (x1 := .string ⟨#[]⟩) (x2 := .int .i64 0) (x3 := .int .i64 0) (x4 := .int .i64 0) (x5 := .slice none 0 0) hp
  have HW := Lib.hid (below6 (hw_v2) (show D ≤ D + 1 + 1 by omega) (.string ⟨#[]⟩) (.string ⟨#[]⟩) (.int .i64 0) (.int .i64 0) (.int .i64 0) (.slice none 0 0))
  obtain ⟨U, hU⟩ : ∃ U, ((((((v2.setCell ⟨D + 1 + 1, 0, none⟩ (.string ⟨#[]⟩)).setCell ⟨D + 1 + 1, 1, none⟩ (.string ⟨#[]⟩)).setCell ⟨D + 1 + 1, 2, none⟩ (.int .i64 0)).setCell ⟨D + 1 + 1, 3, none⟩ (.int .i64 0)).setCell ⟨D + 1 + 1, 4, none⟩ (.int .i64 0)).setCell ⟨D + 1 + 1, 5, none⟩ (.slice none 0 0)) = U := ⟨_, rfl⟩
  rw [hU] at hE HW
  obtain ⟨z0, z1, z2, z3, z4, z5⟩ := cell6_at hE
  have HUU := Lib.hid hU
  clear hU hE hp
  go_wp2
  rw [HUU.out]
  exact bodyPost_ret (v := .tuple #[.agg #[.string ⟨#[]⟩, .string ⟨#[]⟩, .int .i64 0, .int .i64 0, .int .i64 0, .slice none 0 0], .int .i64 z]) (by simp [results, Tryz.results29, go_sem, z0, z1, z2, z3, z4, z5]) rfl ⟨rfl, by first | exact HW.out | (rw [hD]; exact HW.out)⟩

set_option maxRecDepth 100000 in
set_option maxHeartbeats 4000000 in
theorem repitch_feet (nm tn : ByteArray) (a b f : Int) (sa : Option Addr) (n cp : Nat) (X : Nat → Int) (c d : Int) (s1 : nm.size ≤ 1099511627776) (s2 : tn.size ≤ 1099511627776) (hn : n ≤ 1099511627776) (z : Int) (h1 : rkE nm tn a b f n X = 0) (h2 : pk c d = z) (h3 : ¬ z = 0) (w : World) (hW1 : Wd w (.slice sa n cp) n X) :
    Calls Tryz.prog 29 #[.agg #[.string nm, .string tn, .int .i64 a, .int .i64 b, .int .i64 f, .slice sa n cp], .agg #[.int .i64 c, .int .i64 d]] w fun e w' => e = .returned (.tuple #[.agg #[.string ⟨#[]⟩, .string ⟨#[]⟩, .int .i64 0, .int .i64 0, .int .i64 0, .slice none 0 0], .int .i64 z]) ∧ Below w.heap.size w w' := by
  have CK := Lib.hid (fun W h => rcheck_c nm tn a b f (.slice sa n cp) n X s1 s2 hn W h)
  rw [h1] at CK
  have SH := Lib.hid (fun W => pshift_bad c d a b z (by unfold pk2; rw [if_neg (by rw [h2]; exact h3), h2]) h3 W)
  clear h1 h2
  have hW := Lib.hid hW1
  clear hW1
  obtain ⟨D, hD⟩ : ∃ D, w.heap.size = D := ⟨_, rfl⟩
  go_enter Tryz.func29, Tryz.ntmps29
  have ld1 : (((w.alloc (.cells #[.string nm, .string tn, .int .i64 a, .int .i64 b, .int .i64 f, .slice sa n cp] 26)).alloc (.cells #[.int .i64 c, .int .i64 d] 23)).alloc (.cells #[.string ⟨#[]⟩, .string ⟨#[]⟩, .int .i64 0, .int .i64 0, .int .i64 0, .slice none 0 0] 26)).heap[D]? = some (.cells #[.string nm, .string tn, .int .i64 a, .int .i64 b, .int .i64 f, .slice sa n cp] 26) := (heap_old (o := .cells #[.string ⟨#[]⟩, .string ⟨#[]⟩, .int .i64 0, .int .i64 0, .int .i64 0, .slice none 0 0] 26) (heap_old (o := .cells #[.int .i64 c, .int .i64 d] 23) (heap_new (by first | omega | (simp; omega)))))
  have y1_0 := cell6_0 ld1
  have y1_1 := cell6_1 ld1
  have y1_2 := cell6_2 ld1
  have y1_3 := cell6_3 ld1
  have y1_4 := cell6_4 ld1
  have y1_5 := cell6_5 ld1
  clear ld1
  have W2 : Wd (((w.alloc (.cells #[.string nm, .string tn, .int .i64 a, .int .i64 b, .int .i64 f, .slice sa n cp] 26)).alloc (.cells #[.int .i64 c, .int .i64 d] 23)).alloc (.cells #[.string ⟨#[]⟩, .string ⟨#[]⟩, .int .i64 0, .int .i64 0, .int .i64 0, .slice none 0 0] 26)) (.slice sa n cp) n X := hW.out.below (by first | exact ((((Below.refl _ w).alloc (by first | omega | (simp; omega)) (.cells #[.string nm, .string tn, .int .i64 a, .int .i64 b, .int .i64 f, .slice sa n cp] 26)).alloc (by first | omega | (simp; omega)) (.cells #[.int .i64 c, .int .i64 d] 23)).alloc (by first | omega | (simp; omega)) (.cells #[.string ⟨#[]⟩, .string ⟨#[]⟩, .int .i64 0, .int .i64 0, .int .i64 0, .slice none 0 0] 26)) | (rw [hD]; exact ((((Below.refl _ w).alloc (by first | omega | (simp; omega)) (.cells #[.string nm, .string tn, .int .i64 a, .int .i64 b, .int .i64 f, .slice sa n cp] 26)).alloc (by first | omega | (simp; omega)) (.cells #[.int .i64 c, .int .i64 d] 23)).alloc (by first | omega | (simp; omega)) (.cells #[.string ⟨#[]⟩, .string ⟨#[]⟩, .int .i64 0, .int .i64 0, .int .i64 0, .slice none 0 0] 26))))
  go_wp2_with fail
  refine (CK.out _ W2).mono ?_
  rintro e v2 ⟨rfl, hb_v2⟩
  have cR_v2 : v2.heap[D]? = some (.cells #[.string nm, .string tn, .int .i64 a, .int .i64 b, .int .i64 f, .slice sa n cp] 26) := (hb_v2.block (D) (Array.getElem?_eq_some_iff.1 (show (((w.alloc (.cells #[.string nm, .string tn, .int .i64 a, .int .i64 b, .int .i64 f, .slice sa n cp] 26)).alloc (.cells #[.int .i64 c, .int .i64 d] 23)).alloc (.cells #[.string ⟨#[]⟩, .string ⟨#[]⟩, .int .i64 0, .int .i64 0, .int .i64 0, .slice none 0 0] 26)).heap[D]? = some (.cells #[.string nm, .string tn, .int .i64 a, .int .i64 b, .int .i64 f, .slice sa n cp] 26) from (heap_old (o := .cells #[.string ⟨#[]⟩, .string ⟨#[]⟩, .int .i64 0, .int .i64 0, .int .i64 0, .slice none 0 0] 26) (heap_old (o := .cells #[.int .i64 c, .int .i64 d] 23) (heap_new (by first | omega | (simp; omega))))))).1).trans (heap_old (o := .cells #[.string ⟨#[]⟩, .string ⟨#[]⟩, .int .i64 0, .int .i64 0, .int .i64 0, .slice none 0 0] 26) (heap_old (o := .cells #[.int .i64 c, .int .i64 d] 23) (heap_new (by first | omega | (simp; omega)))))
  have cF_v2 : v2.heap[D + 1]? = some (.cells #[.int .i64 c, .int .i64 d] 23) := (hb_v2.block (D + 1) (Array.getElem?_eq_some_iff.1 (show (((w.alloc (.cells #[.string nm, .string tn, .int .i64 a, .int .i64 b, .int .i64 f, .slice sa n cp] 26)).alloc (.cells #[.int .i64 c, .int .i64 d] 23)).alloc (.cells #[.string ⟨#[]⟩, .string ⟨#[]⟩, .int .i64 0, .int .i64 0, .int .i64 0, .slice none 0 0] 26)).heap[D + 1]? = some (.cells #[.int .i64 c, .int .i64 d] 23) from (heap_old (o := .cells #[.string ⟨#[]⟩, .string ⟨#[]⟩, .int .i64 0, .int .i64 0, .int .i64 0, .slice none 0 0] 26) (heap_new (by first | omega | (simp; omega)))))).1).trans (heap_old (o := .cells #[.string ⟨#[]⟩, .string ⟨#[]⟩, .int .i64 0, .int .i64 0, .int .i64 0, .slice none 0 0] 26) (heap_new (by first | omega | (simp; omega))))
  have cZ_v2 : v2.heap[D + 1 + 1]? = some (.cells #[.string ⟨#[]⟩, .string ⟨#[]⟩, .int .i64 0, .int .i64 0, .int .i64 0, .slice none 0 0] 26) := (hb_v2.block (D + 1 + 1) (Array.getElem?_eq_some_iff.1 (show (((w.alloc (.cells #[.string nm, .string tn, .int .i64 a, .int .i64 b, .int .i64 f, .slice sa n cp] 26)).alloc (.cells #[.int .i64 c, .int .i64 d] 23)).alloc (.cells #[.string ⟨#[]⟩, .string ⟨#[]⟩, .int .i64 0, .int .i64 0, .int .i64 0, .slice none 0 0] 26)).heap[D + 1 + 1]? = some (.cells #[.string ⟨#[]⟩, .string ⟨#[]⟩, .int .i64 0, .int .i64 0, .int .i64 0, .slice none 0 0] 26) from (heap_new (by first | omega | (simp; omega))))).1).trans (heap_new (by first | omega | (simp; omega)))
  have hw_v2 : Below D w v2 := (((((Below.refl _ w).alloc (by first | omega | (simp; omega)) (.cells #[.string nm, .string tn, .int .i64 a, .int .i64 b, .int .i64 f, .slice sa n cp] 26)).alloc (by first | omega | (simp; omega)) (.cells #[.int .i64 c, .int .i64 d] 23)).alloc (by first | omega | (simp; omega)) (.cells #[.string ⟨#[]⟩, .string ⟨#[]⟩, .int .i64 0, .int .i64 0, .int .i64 0, .slice none 0 0] 26))).trans (hb_v2.mono (by first | omega | (simp; omega)))
  clear hb_v2 y1_0 y1_1 y1_2 y1_3 y1_4 y1_5
  have ld3 : v2.heap[D]? = some (.cells #[.string nm, .string tn, .int .i64 a, .int .i64 b, .int .i64 f, .slice sa n cp] 26) := cR_v2
  have y3_0 := cell6_0 ld3
  have y3_1 := cell6_1 ld3
  have y3_2 := cell6_2 ld3
  have y3_3 := cell6_3 ld3
  have y3_4 := cell6_4 ld3
  have y3_5 := cell6_5 ld3
  clear ld3
  have ld4 : v2.heap[D + 1]? = some (.cells #[.int .i64 c, .int .i64 d] 23) := cF_v2
  have y4_0 := cell2_0 ld4
  have y4_1 := cell2_1 ld4
  clear ld4
  go_wp2_with fail
  refine (SH.out _).mono ?_
  rintro e v5 ⟨rfl, hb_v5⟩
  have hs_v5 := hw_v2.size
  have cR_v5 : v5.heap[D]? = some (.cells #[.string nm, .string tn, .int .i64 a, .int .i64 b, .int .i64 f, .slice sa n cp] 26) := (hb_v5.block (D) (Array.getElem?_eq_some_iff.1 (show v2.heap[D]? = some (.cells #[.string nm, .string tn, .int .i64 a, .int .i64 b, .int .i64 f, .slice sa n cp] 26) from cR_v2)).1).trans cR_v2
  have cF_v5 : v5.heap[D + 1]? = some (.cells #[.int .i64 c, .int .i64 d] 23) := (hb_v5.block (D + 1) (Array.getElem?_eq_some_iff.1 (show v2.heap[D + 1]? = some (.cells #[.int .i64 c, .int .i64 d] 23) from cF_v2)).1).trans cF_v2
  have cZ_v5 : v5.heap[D + 1 + 1]? = some (.cells #[.string ⟨#[]⟩, .string ⟨#[]⟩, .int .i64 0, .int .i64 0, .int .i64 0, .slice none 0 0] 26) := (hb_v5.block (D + 1 + 1) (Array.getElem?_eq_some_iff.1 (show v2.heap[D + 1 + 1]? = some (.cells #[.string ⟨#[]⟩, .string ⟨#[]⟩, .int .i64 0, .int .i64 0, .int .i64 0, .slice none 0 0] 26) from cZ_v2)).1).trans cZ_v2
  have hw_v5 : Below D w v5 := (hw_v2).trans (hb_v5.mono (by first | omega | (simp; omega)))
  clear cR_v2 cF_v2 cZ_v2 hb_v5 y3_0 y3_1 y3_2 y3_3 y3_4 y3_5 y4_0 y4_1 hw_v2 hs_v5
  have hp := cZ_v5
  obtain ⟨f0, f1, f2, f3, f4, f5⟩ := free6_at hp
  obtain ⟨g0, g1, g2, g3, g4, g5⟩ := cell6_at hp
  have hE := set6_all (x0 := .string ⟨#[]⟩) (x1 := .string ⟨#[]⟩) (x2 := .int .i64 0) (x3 := .int .i64 0) (x4 := .int .i64 0) (x5 := .slice none 0 0) hp
  have HW := Lib.hid (below6 (hw_v5) (show D ≤ D + 1 + 1 by omega) (.string ⟨#[]⟩) (.string ⟨#[]⟩) (.int .i64 0) (.int .i64 0) (.int .i64 0) (.slice none 0 0))
  obtain ⟨U, hU⟩ : ∃ U, ((((((v5.setCell ⟨D + 1 + 1, 0, none⟩ (.string ⟨#[]⟩)).setCell ⟨D + 1 + 1, 1, none⟩ (.string ⟨#[]⟩)).setCell ⟨D + 1 + 1, 2, none⟩ (.int .i64 0)).setCell ⟨D + 1 + 1, 3, none⟩ (.int .i64 0)).setCell ⟨D + 1 + 1, 4, none⟩ (.int .i64 0)).setCell ⟨D + 1 + 1, 5, none⟩ (.slice none 0 0)) = U := ⟨_, rfl⟩
  rw [hU] at hE HW
  obtain ⟨z0, z1, z2, z3, z4, z5⟩ := cell6_at hE
  have HUU := Lib.hid hU
  clear hU hE hp
  go_wp2
  rw [HUU.out]
  exact bodyPost_ret (v := .tuple #[.agg #[.string ⟨#[]⟩, .string ⟨#[]⟩, .int .i64 0, .int .i64 0, .int .i64 0, .slice none 0 0], .int .i64 z]) (by simp [results, Tryz.results29, go_sem, z0, z1, z2, z3, z4, z5]) rfl ⟨rfl, by first | exact HW.out | (rw [hD]; exact HW.out)⟩

set_option maxRecDepth 100000 in
set_option maxHeartbeats 4000000 in
theorem repitch_range (nm tn : ByteArray) (a b f : Int) (sa : Option Addr) (n cp : Nat) (X : Nat → Int) (c d : Int) (s1 : nm.size ≤ 1099511627776) (s2 : tn.size ≤ 1099511627776) (hn : n ≤ 1099511627776) (s : Int) (h1 : rkE nm tn a b f n X = 0) (h2 : pk c d = 0) (h3 : ShI (a * d) (b * c) s) (h4 : ¬ (-256 ≤ f - s ∧ f - s ≤ 256)) (w : World) (hW1 : Wd w (.slice sa n cp) n X) (G : Gi w) :
    Calls Tryz.prog 29 #[.agg #[.string nm, .string tn, .int .i64 a, .int .i64 b, .int .i64 f, .slice sa n cp], .agg #[.int .i64 c, .int .i64 d]] w fun e w' => e = .returned (.tuple #[.agg #[.string ⟨#[]⟩, .string ⟨#[]⟩, .int .i64 0, .int .i64 0, .int .i64 0, .slice none 0 0], .int .i64 3]) ∧ Below w.heap.size w w' := by
  have CK := Lib.hid (fun W h => rcheck_c nm tn a b f (.slice sa n cp) n X s1 s2 hn W h)
  rw [h1] at CK
  obtain ⟨_, _, hp, hf, hn0, hn1, _⟩ := rk_ok h1
  obtain ⟨m1, m2⟩ := pr_bd h2 hp
  obtain ⟨m3, m4⟩ := pr_bd hp h2
  have bs := sh_of_eq h3 (by first | exact m3 | (rw [Int.mul_comm]; exact m3) | exact m1 | (rw [Int.mul_comm]; exact m1)) (by first | exact m4 | (rw [Int.mul_comm]; exact m4) | exact m2 | (rw [Int.mul_comm]; exact m2)) (by first | exact m1 | (rw [Int.mul_comm]; exact m1) | exact m3 | (rw [Int.mul_comm]; exact m3)) (by first | exact m2 | (rw [Int.mul_comm]; exact m2) | exact m4 | (rw [Int.mul_comm]; exact m4))
  have SH := Lib.hid (fun W G => pshift_ok c d a b s h2 hp h3 W G)
  have q1 := wrap_in (q := f - s) (by omega) (by omega)
  have FI := Lib.hid (fun (W : World) => show Calls Tryz.prog 35 #[.int .i64 (f - s)] W (fun e w' => e = .returned (.bool false) ∧ Below W.heap.size W w') from (isFirst_c (f - s) W).mono (by rintro e w' ⟨h1, rfl⟩; exact ⟨by rw [h1, decide_eq_false h4], Below.refl _ _⟩))
  clear h1 h2 h3 h4 hp hf hn0 hn1 m1 m2 m3 m4 bs
  have hW := Lib.hid hW1
  clear hW1
  obtain ⟨D, hD⟩ : ∃ D, w.heap.size = D := ⟨_, rfl⟩
  go_enter Tryz.func29, Tryz.ntmps29
  have ld1 : (((w.alloc (.cells #[.string nm, .string tn, .int .i64 a, .int .i64 b, .int .i64 f, .slice sa n cp] 26)).alloc (.cells #[.int .i64 c, .int .i64 d] 23)).alloc (.cells #[.string ⟨#[]⟩, .string ⟨#[]⟩, .int .i64 0, .int .i64 0, .int .i64 0, .slice none 0 0] 26)).heap[D]? = some (.cells #[.string nm, .string tn, .int .i64 a, .int .i64 b, .int .i64 f, .slice sa n cp] 26) := (heap_old (o := .cells #[.string ⟨#[]⟩, .string ⟨#[]⟩, .int .i64 0, .int .i64 0, .int .i64 0, .slice none 0 0] 26) (heap_old (o := .cells #[.int .i64 c, .int .i64 d] 23) (heap_new (by first | omega | (simp; omega)))))
  have y1_0 := cell6_0 ld1
  have y1_1 := cell6_1 ld1
  have y1_2 := cell6_2 ld1
  have y1_3 := cell6_3 ld1
  have y1_4 := cell6_4 ld1
  have y1_5 := cell6_5 ld1
  clear ld1
  have W3 : Wd (((w.alloc (.cells #[.string nm, .string tn, .int .i64 a, .int .i64 b, .int .i64 f, .slice sa n cp] 26)).alloc (.cells #[.int .i64 c, .int .i64 d] 23)).alloc (.cells #[.string ⟨#[]⟩, .string ⟨#[]⟩, .int .i64 0, .int .i64 0, .int .i64 0, .slice none 0 0] 26)) (.slice sa n cp) n X := hW.out.below (by first | exact ((((Below.refl _ w).alloc (by first | omega | (simp; omega)) (.cells #[.string nm, .string tn, .int .i64 a, .int .i64 b, .int .i64 f, .slice sa n cp] 26)).alloc (by first | omega | (simp; omega)) (.cells #[.int .i64 c, .int .i64 d] 23)).alloc (by first | omega | (simp; omega)) (.cells #[.string ⟨#[]⟩, .string ⟨#[]⟩, .int .i64 0, .int .i64 0, .int .i64 0, .slice none 0 0] 26)) | (rw [hD]; exact ((((Below.refl _ w).alloc (by first | omega | (simp; omega)) (.cells #[.string nm, .string tn, .int .i64 a, .int .i64 b, .int .i64 f, .slice sa n cp] 26)).alloc (by first | omega | (simp; omega)) (.cells #[.int .i64 c, .int .i64 d] 23)).alloc (by first | omega | (simp; omega)) (.cells #[.string ⟨#[]⟩, .string ⟨#[]⟩, .int .i64 0, .int .i64 0, .int .i64 0, .slice none 0 0] 26))))
  go_wp2_with fail
  refine (CK.out _ W3).mono ?_
  rintro e v2 ⟨rfl, hb_v2⟩
  have cR_v2 : v2.heap[D]? = some (.cells #[.string nm, .string tn, .int .i64 a, .int .i64 b, .int .i64 f, .slice sa n cp] 26) := (hb_v2.block (D) (Array.getElem?_eq_some_iff.1 (show (((w.alloc (.cells #[.string nm, .string tn, .int .i64 a, .int .i64 b, .int .i64 f, .slice sa n cp] 26)).alloc (.cells #[.int .i64 c, .int .i64 d] 23)).alloc (.cells #[.string ⟨#[]⟩, .string ⟨#[]⟩, .int .i64 0, .int .i64 0, .int .i64 0, .slice none 0 0] 26)).heap[D]? = some (.cells #[.string nm, .string tn, .int .i64 a, .int .i64 b, .int .i64 f, .slice sa n cp] 26) from (heap_old (o := .cells #[.string ⟨#[]⟩, .string ⟨#[]⟩, .int .i64 0, .int .i64 0, .int .i64 0, .slice none 0 0] 26) (heap_old (o := .cells #[.int .i64 c, .int .i64 d] 23) (heap_new (by first | omega | (simp; omega))))))).1).trans (heap_old (o := .cells #[.string ⟨#[]⟩, .string ⟨#[]⟩, .int .i64 0, .int .i64 0, .int .i64 0, .slice none 0 0] 26) (heap_old (o := .cells #[.int .i64 c, .int .i64 d] 23) (heap_new (by first | omega | (simp; omega)))))
  have cF_v2 : v2.heap[D + 1]? = some (.cells #[.int .i64 c, .int .i64 d] 23) := (hb_v2.block (D + 1) (Array.getElem?_eq_some_iff.1 (show (((w.alloc (.cells #[.string nm, .string tn, .int .i64 a, .int .i64 b, .int .i64 f, .slice sa n cp] 26)).alloc (.cells #[.int .i64 c, .int .i64 d] 23)).alloc (.cells #[.string ⟨#[]⟩, .string ⟨#[]⟩, .int .i64 0, .int .i64 0, .int .i64 0, .slice none 0 0] 26)).heap[D + 1]? = some (.cells #[.int .i64 c, .int .i64 d] 23) from (heap_old (o := .cells #[.string ⟨#[]⟩, .string ⟨#[]⟩, .int .i64 0, .int .i64 0, .int .i64 0, .slice none 0 0] 26) (heap_new (by first | omega | (simp; omega)))))).1).trans (heap_old (o := .cells #[.string ⟨#[]⟩, .string ⟨#[]⟩, .int .i64 0, .int .i64 0, .int .i64 0, .slice none 0 0] 26) (heap_new (by first | omega | (simp; omega))))
  have cZ_v2 : v2.heap[D + 1 + 1]? = some (.cells #[.string ⟨#[]⟩, .string ⟨#[]⟩, .int .i64 0, .int .i64 0, .int .i64 0, .slice none 0 0] 26) := (hb_v2.block (D + 1 + 1) (Array.getElem?_eq_some_iff.1 (show (((w.alloc (.cells #[.string nm, .string tn, .int .i64 a, .int .i64 b, .int .i64 f, .slice sa n cp] 26)).alloc (.cells #[.int .i64 c, .int .i64 d] 23)).alloc (.cells #[.string ⟨#[]⟩, .string ⟨#[]⟩, .int .i64 0, .int .i64 0, .int .i64 0, .slice none 0 0] 26)).heap[D + 1 + 1]? = some (.cells #[.string ⟨#[]⟩, .string ⟨#[]⟩, .int .i64 0, .int .i64 0, .int .i64 0, .slice none 0 0] 26) from (heap_new (by first | omega | (simp; omega))))).1).trans (heap_new (by first | omega | (simp; omega)))
  have hw_v2 : Below D w v2 := (((((Below.refl _ w).alloc (by first | omega | (simp; omega)) (.cells #[.string nm, .string tn, .int .i64 a, .int .i64 b, .int .i64 f, .slice sa n cp] 26)).alloc (by first | omega | (simp; omega)) (.cells #[.int .i64 c, .int .i64 d] 23)).alloc (by first | omega | (simp; omega)) (.cells #[.string ⟨#[]⟩, .string ⟨#[]⟩, .int .i64 0, .int .i64 0, .int .i64 0, .slice none 0 0] 26))).trans (hb_v2.mono (by first | omega | (simp; omega)))
  clear hb_v2 y1_0 y1_1 y1_2 y1_3 y1_4 y1_5
  have ld3 : v2.heap[D]? = some (.cells #[.string nm, .string tn, .int .i64 a, .int .i64 b, .int .i64 f, .slice sa n cp] 26) := cR_v2
  have y3_0 := cell6_0 ld3
  have y3_1 := cell6_1 ld3
  have y3_2 := cell6_2 ld3
  have y3_3 := cell6_3 ld3
  have y3_4 := cell6_4 ld3
  have y3_5 := cell6_5 ld3
  clear ld3
  have ld4 : v2.heap[D + 1]? = some (.cells #[.int .i64 c, .int .i64 d] 23) := cF_v2
  have y4_0 := cell2_0 ld4
  have y4_1 := cell2_1 ld4
  clear ld4
  have G4 : Gi v2 := G.below (by first | exact hw_v2 | (rw [hD]; exact hw_v2))
  go_wp2_with fail
  refine (SH.out _ G4).mono ?_
  rintro e v5 ⟨rfl, hb_v5⟩
  have hs_v5 := hw_v2.size
  have cR_v5 : v5.heap[D]? = some (.cells #[.string nm, .string tn, .int .i64 a, .int .i64 b, .int .i64 f, .slice sa n cp] 26) := (hb_v5.block (D) (Array.getElem?_eq_some_iff.1 (show v2.heap[D]? = some (.cells #[.string nm, .string tn, .int .i64 a, .int .i64 b, .int .i64 f, .slice sa n cp] 26) from cR_v2)).1).trans cR_v2
  have cF_v5 : v5.heap[D + 1]? = some (.cells #[.int .i64 c, .int .i64 d] 23) := (hb_v5.block (D + 1) (Array.getElem?_eq_some_iff.1 (show v2.heap[D + 1]? = some (.cells #[.int .i64 c, .int .i64 d] 23) from cF_v2)).1).trans cF_v2
  have cZ_v5 : v5.heap[D + 1 + 1]? = some (.cells #[.string ⟨#[]⟩, .string ⟨#[]⟩, .int .i64 0, .int .i64 0, .int .i64 0, .slice none 0 0] 26) := (hb_v5.block (D + 1 + 1) (Array.getElem?_eq_some_iff.1 (show v2.heap[D + 1 + 1]? = some (.cells #[.string ⟨#[]⟩, .string ⟨#[]⟩, .int .i64 0, .int .i64 0, .int .i64 0, .slice none 0 0] 26) from cZ_v2)).1).trans cZ_v2
  have hw_v5 : Below D w v5 := (hw_v2).trans (hb_v5.mono (by first | omega | (simp; omega)))
  clear cR_v2 cF_v2 cZ_v2 hb_v5 y3_0 y3_1 y3_2 y3_3 y3_4 y3_5 y4_0 y4_1 hw_v2 hs_v5
  have ld6 : v5.heap[D]? = some (.cells #[.string nm, .string tn, .int .i64 a, .int .i64 b, .int .i64 f, .slice sa n cp] 26) := cR_v5
  have y6_0 := cell6_0 ld6
  have y6_1 := cell6_1 ld6
  have y6_2 := cell6_2 ld6
  have y6_3 := cell6_3 ld6
  have y6_4 := cell6_4 ld6
  have y6_5 := cell6_5 ld6
  clear ld6
  go_wp2_with fail
  refine (FI.out _).mono ?_
  rintro e v7 ⟨rfl, hb_v7⟩
  have hs_v7 := hw_v5.size
  have cR_v7 : v7.heap[D]? = some (.cells #[.string nm, .string tn, .int .i64 a, .int .i64 b, .int .i64 f, .slice sa n cp] 26) := (hb_v7.block (D) (Array.getElem?_eq_some_iff.1 (show v5.heap[D]? = some (.cells #[.string nm, .string tn, .int .i64 a, .int .i64 b, .int .i64 f, .slice sa n cp] 26) from cR_v5)).1).trans cR_v5
  have cF_v7 : v7.heap[D + 1]? = some (.cells #[.int .i64 c, .int .i64 d] 23) := (hb_v7.block (D + 1) (Array.getElem?_eq_some_iff.1 (show v5.heap[D + 1]? = some (.cells #[.int .i64 c, .int .i64 d] 23) from cF_v5)).1).trans cF_v5
  have cZ_v7 : v7.heap[D + 1 + 1]? = some (.cells #[.string ⟨#[]⟩, .string ⟨#[]⟩, .int .i64 0, .int .i64 0, .int .i64 0, .slice none 0 0] 26) := (hb_v7.block (D + 1 + 1) (Array.getElem?_eq_some_iff.1 (show v5.heap[D + 1 + 1]? = some (.cells #[.string ⟨#[]⟩, .string ⟨#[]⟩, .int .i64 0, .int .i64 0, .int .i64 0, .slice none 0 0] 26) from cZ_v5)).1).trans cZ_v5
  have hw_v7 : Below D w v7 := (hw_v5).trans (hb_v7.mono (by first | omega | (simp; omega)))
  clear cR_v5 cF_v5 cZ_v5 hb_v7 y6_0 y6_1 y6_2 y6_3 y6_4 y6_5 hw_v5 hs_v7
  have hp := cZ_v7
  obtain ⟨f0, f1, f2, f3, f4, f5⟩ := free6_at hp
  obtain ⟨g0, g1, g2, g3, g4, g5⟩ := cell6_at hp
  have hE := set6_all (x0 := .string ⟨#[]⟩) (x1 := .string ⟨#[]⟩) (x2 := .int .i64 0) (x3 := .int .i64 0) (x4 := .int .i64 0) (x5 := .slice none 0 0) hp
  have HW := Lib.hid (below6 (hw_v7) (show D ≤ D + 1 + 1 by omega) (.string ⟨#[]⟩) (.string ⟨#[]⟩) (.int .i64 0) (.int .i64 0) (.int .i64 0) (.slice none 0 0))
  obtain ⟨U, hU⟩ : ∃ U, ((((((v7.setCell ⟨D + 1 + 1, 0, none⟩ (.string ⟨#[]⟩)).setCell ⟨D + 1 + 1, 1, none⟩ (.string ⟨#[]⟩)).setCell ⟨D + 1 + 1, 2, none⟩ (.int .i64 0)).setCell ⟨D + 1 + 1, 3, none⟩ (.int .i64 0)).setCell ⟨D + 1 + 1, 4, none⟩ (.int .i64 0)).setCell ⟨D + 1 + 1, 5, none⟩ (.slice none 0 0)) = U := ⟨_, rfl⟩
  rw [hU] at hE HW
  obtain ⟨z0, z1, z2, z3, z4, z5⟩ := cell6_at hE
  have HUU := Lib.hid hU
  clear hU hE hp
  go_wp2
  rw [HUU.out]
  exact bodyPost_ret (v := .tuple #[.agg #[.string ⟨#[]⟩, .string ⟨#[]⟩, .int .i64 0, .int .i64 0, .int .i64 0, .slice none 0 0], .int .i64 3]) (by simp [results, Tryz.results29, go_sem, z0, z1, z2, z3, z4, z5]) rfl ⟨rfl, by first | exact HW.out | (rw [hD]; exact HW.out)⟩

set_option maxRecDepth 100000 in
set_option maxHeartbeats 4000000 in
theorem repitch_ok (nm tn : ByteArray) (a b f : Int) (sa : Option Addr) (n cp : Nat) (X : Nat → Int) (c d : Int) (s1 : nm.size ≤ 1099511627776) (s2 : tn.size ≤ 1099511627776) (hn : n ≤ 1099511627776) (s : Int) (h1 : rkE nm tn a b f n X = 0) (h2 : pk c d = 0) (h3 : ShI (a * d) (b * c) s) (h4 : -256 ≤ f - s ∧ f - s ≤ 256) (w : World) (hW1 : Wd w (.slice sa n cp) n X) (G : Gi w) :
    Calls Tryz.prog 29 #[.agg #[.string nm, .string tn, .int .i64 a, .int .i64 b, .int .i64 f, .slice sa n cp], .agg #[.int .i64 c, .int .i64 d]] w fun e w' => (∃ sr mr cr, e = .returned (.tuple #[.agg #[.string nm, .string tn, .int .i64 c, .int .i64 d, .int .i64 (f - s), .slice sr mr cr], .int .i64 0]) ∧ w'.ownsRow w.heap.size 3 1 (.slice sr mr cr) n (rowL X n)) ∧ Below w.heap.size w w' := by
  have CK := Lib.hid (fun W h => rcheck_c nm tn a b f (.slice sa n cp) n X s1 s2 hn W h)
  rw [h1] at CK
  obtain ⟨_, _, hp, hf, hn0, hn1, _⟩ := rk_ok h1
  obtain ⟨m1, m2⟩ := pr_bd h2 hp
  obtain ⟨m3, m4⟩ := pr_bd hp h2
  have bs := sh_of_eq h3 (by first | exact m3 | (rw [Int.mul_comm]; exact m3) | exact m1 | (rw [Int.mul_comm]; exact m1)) (by first | exact m4 | (rw [Int.mul_comm]; exact m4) | exact m2 | (rw [Int.mul_comm]; exact m2)) (by first | exact m1 | (rw [Int.mul_comm]; exact m1) | exact m3 | (rw [Int.mul_comm]; exact m3)) (by first | exact m2 | (rw [Int.mul_comm]; exact m2) | exact m4 | (rw [Int.mul_comm]; exact m4))
  have SH := Lib.hid (fun W G => pshift_ok c d a b s h2 hp h3 W G)
  have q1 := wrap_in (q := f - s) (by omega) (by omega)
  have FI := Lib.hid (fun (W : World) => show Calls Tryz.prog 35 #[.int .i64 (f - s)] W (fun e w' => e = .returned (.bool true) ∧ Below W.heap.size W w') from (isFirst_c (f - s) W).mono (by rintro e w' ⟨h1, rfl⟩; exact ⟨by rw [h1, decide_eq_true h4], Below.refl _ _⟩))
  clear h1 h2 h3 h4 hp hf m1 m2 m3 m4 bs
  have hW := Lib.hid hW1
  clear hW1
  obtain ⟨D, hD⟩ : ∃ D, w.heap.size = D := ⟨_, rfl⟩
  go_enter Tryz.func29, Tryz.ntmps29
  have ld1 : (((w.alloc (.cells #[.string nm, .string tn, .int .i64 a, .int .i64 b, .int .i64 f, .slice sa n cp] 26)).alloc (.cells #[.int .i64 c, .int .i64 d] 23)).alloc (.cells #[.string ⟨#[]⟩, .string ⟨#[]⟩, .int .i64 0, .int .i64 0, .int .i64 0, .slice none 0 0] 26)).heap[D]? = some (.cells #[.string nm, .string tn, .int .i64 a, .int .i64 b, .int .i64 f, .slice sa n cp] 26) := (heap_old (o := .cells #[.string ⟨#[]⟩, .string ⟨#[]⟩, .int .i64 0, .int .i64 0, .int .i64 0, .slice none 0 0] 26) (heap_old (o := .cells #[.int .i64 c, .int .i64 d] 23) (heap_new (by first | omega | (simp; omega)))))
  have y1_0 := cell6_0 ld1
  have y1_1 := cell6_1 ld1
  have y1_2 := cell6_2 ld1
  have y1_3 := cell6_3 ld1
  have y1_4 := cell6_4 ld1
  have y1_5 := cell6_5 ld1
  clear ld1
  have W5 : Wd (((w.alloc (.cells #[.string nm, .string tn, .int .i64 a, .int .i64 b, .int .i64 f, .slice sa n cp] 26)).alloc (.cells #[.int .i64 c, .int .i64 d] 23)).alloc (.cells #[.string ⟨#[]⟩, .string ⟨#[]⟩, .int .i64 0, .int .i64 0, .int .i64 0, .slice none 0 0] 26)) (.slice sa n cp) n X := hW.out.below (by first | exact ((((Below.refl _ w).alloc (by first | omega | (simp; omega)) (.cells #[.string nm, .string tn, .int .i64 a, .int .i64 b, .int .i64 f, .slice sa n cp] 26)).alloc (by first | omega | (simp; omega)) (.cells #[.int .i64 c, .int .i64 d] 23)).alloc (by first | omega | (simp; omega)) (.cells #[.string ⟨#[]⟩, .string ⟨#[]⟩, .int .i64 0, .int .i64 0, .int .i64 0, .slice none 0 0] 26)) | (rw [hD]; exact ((((Below.refl _ w).alloc (by first | omega | (simp; omega)) (.cells #[.string nm, .string tn, .int .i64 a, .int .i64 b, .int .i64 f, .slice sa n cp] 26)).alloc (by first | omega | (simp; omega)) (.cells #[.int .i64 c, .int .i64 d] 23)).alloc (by first | omega | (simp; omega)) (.cells #[.string ⟨#[]⟩, .string ⟨#[]⟩, .int .i64 0, .int .i64 0, .int .i64 0, .slice none 0 0] 26))))
  go_wp2_with fail
  refine (CK.out _ W5).mono ?_
  rintro e v2 ⟨rfl, hb_v2⟩
  have cR_v2 : v2.heap[D]? = some (.cells #[.string nm, .string tn, .int .i64 a, .int .i64 b, .int .i64 f, .slice sa n cp] 26) := (hb_v2.block (D) (Array.getElem?_eq_some_iff.1 (show (((w.alloc (.cells #[.string nm, .string tn, .int .i64 a, .int .i64 b, .int .i64 f, .slice sa n cp] 26)).alloc (.cells #[.int .i64 c, .int .i64 d] 23)).alloc (.cells #[.string ⟨#[]⟩, .string ⟨#[]⟩, .int .i64 0, .int .i64 0, .int .i64 0, .slice none 0 0] 26)).heap[D]? = some (.cells #[.string nm, .string tn, .int .i64 a, .int .i64 b, .int .i64 f, .slice sa n cp] 26) from (heap_old (o := .cells #[.string ⟨#[]⟩, .string ⟨#[]⟩, .int .i64 0, .int .i64 0, .int .i64 0, .slice none 0 0] 26) (heap_old (o := .cells #[.int .i64 c, .int .i64 d] 23) (heap_new (by first | omega | (simp; omega))))))).1).trans (heap_old (o := .cells #[.string ⟨#[]⟩, .string ⟨#[]⟩, .int .i64 0, .int .i64 0, .int .i64 0, .slice none 0 0] 26) (heap_old (o := .cells #[.int .i64 c, .int .i64 d] 23) (heap_new (by first | omega | (simp; omega)))))
  have cF_v2 : v2.heap[D + 1]? = some (.cells #[.int .i64 c, .int .i64 d] 23) := (hb_v2.block (D + 1) (Array.getElem?_eq_some_iff.1 (show (((w.alloc (.cells #[.string nm, .string tn, .int .i64 a, .int .i64 b, .int .i64 f, .slice sa n cp] 26)).alloc (.cells #[.int .i64 c, .int .i64 d] 23)).alloc (.cells #[.string ⟨#[]⟩, .string ⟨#[]⟩, .int .i64 0, .int .i64 0, .int .i64 0, .slice none 0 0] 26)).heap[D + 1]? = some (.cells #[.int .i64 c, .int .i64 d] 23) from (heap_old (o := .cells #[.string ⟨#[]⟩, .string ⟨#[]⟩, .int .i64 0, .int .i64 0, .int .i64 0, .slice none 0 0] 26) (heap_new (by first | omega | (simp; omega)))))).1).trans (heap_old (o := .cells #[.string ⟨#[]⟩, .string ⟨#[]⟩, .int .i64 0, .int .i64 0, .int .i64 0, .slice none 0 0] 26) (heap_new (by first | omega | (simp; omega))))
  have cZ_v2 : v2.heap[D + 1 + 1]? = some (.cells #[.string ⟨#[]⟩, .string ⟨#[]⟩, .int .i64 0, .int .i64 0, .int .i64 0, .slice none 0 0] 26) := (hb_v2.block (D + 1 + 1) (Array.getElem?_eq_some_iff.1 (show (((w.alloc (.cells #[.string nm, .string tn, .int .i64 a, .int .i64 b, .int .i64 f, .slice sa n cp] 26)).alloc (.cells #[.int .i64 c, .int .i64 d] 23)).alloc (.cells #[.string ⟨#[]⟩, .string ⟨#[]⟩, .int .i64 0, .int .i64 0, .int .i64 0, .slice none 0 0] 26)).heap[D + 1 + 1]? = some (.cells #[.string ⟨#[]⟩, .string ⟨#[]⟩, .int .i64 0, .int .i64 0, .int .i64 0, .slice none 0 0] 26) from (heap_new (by first | omega | (simp; omega))))).1).trans (heap_new (by first | omega | (simp; omega)))
  have hw_v2 : Below D w v2 := (((((Below.refl _ w).alloc (by first | omega | (simp; omega)) (.cells #[.string nm, .string tn, .int .i64 a, .int .i64 b, .int .i64 f, .slice sa n cp] 26)).alloc (by first | omega | (simp; omega)) (.cells #[.int .i64 c, .int .i64 d] 23)).alloc (by first | omega | (simp; omega)) (.cells #[.string ⟨#[]⟩, .string ⟨#[]⟩, .int .i64 0, .int .i64 0, .int .i64 0, .slice none 0 0] 26))).trans (hb_v2.mono (by first | omega | (simp; omega)))
  clear hb_v2 y1_0 y1_1 y1_2 y1_3 y1_4 y1_5
  have ld3 : v2.heap[D]? = some (.cells #[.string nm, .string tn, .int .i64 a, .int .i64 b, .int .i64 f, .slice sa n cp] 26) := cR_v2
  have y3_0 := cell6_0 ld3
  have y3_1 := cell6_1 ld3
  have y3_2 := cell6_2 ld3
  have y3_3 := cell6_3 ld3
  have y3_4 := cell6_4 ld3
  have y3_5 := cell6_5 ld3
  clear ld3
  have ld4 : v2.heap[D + 1]? = some (.cells #[.int .i64 c, .int .i64 d] 23) := cF_v2
  have y4_0 := cell2_0 ld4
  have y4_1 := cell2_1 ld4
  clear ld4
  have G6 : Gi v2 := G.below (by first | exact hw_v2 | (rw [hD]; exact hw_v2))
  go_wp2_with fail
  refine (SH.out _ G6).mono ?_
  rintro e v5 ⟨rfl, hb_v5⟩
  have hs_v5 := hw_v2.size
  have cR_v5 : v5.heap[D]? = some (.cells #[.string nm, .string tn, .int .i64 a, .int .i64 b, .int .i64 f, .slice sa n cp] 26) := (hb_v5.block (D) (Array.getElem?_eq_some_iff.1 (show v2.heap[D]? = some (.cells #[.string nm, .string tn, .int .i64 a, .int .i64 b, .int .i64 f, .slice sa n cp] 26) from cR_v2)).1).trans cR_v2
  have cF_v5 : v5.heap[D + 1]? = some (.cells #[.int .i64 c, .int .i64 d] 23) := (hb_v5.block (D + 1) (Array.getElem?_eq_some_iff.1 (show v2.heap[D + 1]? = some (.cells #[.int .i64 c, .int .i64 d] 23) from cF_v2)).1).trans cF_v2
  have cZ_v5 : v5.heap[D + 1 + 1]? = some (.cells #[.string ⟨#[]⟩, .string ⟨#[]⟩, .int .i64 0, .int .i64 0, .int .i64 0, .slice none 0 0] 26) := (hb_v5.block (D + 1 + 1) (Array.getElem?_eq_some_iff.1 (show v2.heap[D + 1 + 1]? = some (.cells #[.string ⟨#[]⟩, .string ⟨#[]⟩, .int .i64 0, .int .i64 0, .int .i64 0, .slice none 0 0] 26) from cZ_v2)).1).trans cZ_v2
  have hw_v5 : Below D w v5 := (hw_v2).trans (hb_v5.mono (by first | omega | (simp; omega)))
  clear cR_v2 cF_v2 cZ_v2 hb_v5 y3_0 y3_1 y3_2 y3_3 y3_4 y3_5 y4_0 y4_1 hw_v2 hs_v5
  have ld6 : v5.heap[D]? = some (.cells #[.string nm, .string tn, .int .i64 a, .int .i64 b, .int .i64 f, .slice sa n cp] 26) := cR_v5
  have y6_0 := cell6_0 ld6
  have y6_1 := cell6_1 ld6
  have y6_2 := cell6_2 ld6
  have y6_3 := cell6_3 ld6
  have y6_4 := cell6_4 ld6
  have y6_5 := cell6_5 ld6
  clear ld6
  go_wp2_with fail
  refine (FI.out _).mono ?_
  rintro e v7 ⟨rfl, hb_v7⟩
  have hs_v7 := hw_v5.size
  have cR_v7 : v7.heap[D]? = some (.cells #[.string nm, .string tn, .int .i64 a, .int .i64 b, .int .i64 f, .slice sa n cp] 26) := (hb_v7.block (D) (Array.getElem?_eq_some_iff.1 (show v5.heap[D]? = some (.cells #[.string nm, .string tn, .int .i64 a, .int .i64 b, .int .i64 f, .slice sa n cp] 26) from cR_v5)).1).trans cR_v5
  have cF_v7 : v7.heap[D + 1]? = some (.cells #[.int .i64 c, .int .i64 d] 23) := (hb_v7.block (D + 1) (Array.getElem?_eq_some_iff.1 (show v5.heap[D + 1]? = some (.cells #[.int .i64 c, .int .i64 d] 23) from cF_v5)).1).trans cF_v5
  have cZ_v7 : v7.heap[D + 1 + 1]? = some (.cells #[.string ⟨#[]⟩, .string ⟨#[]⟩, .int .i64 0, .int .i64 0, .int .i64 0, .slice none 0 0] 26) := (hb_v7.block (D + 1 + 1) (Array.getElem?_eq_some_iff.1 (show v5.heap[D + 1 + 1]? = some (.cells #[.string ⟨#[]⟩, .string ⟨#[]⟩, .int .i64 0, .int .i64 0, .int .i64 0, .slice none 0 0] 26) from cZ_v5)).1).trans cZ_v5
  have hw_v7 : Below D w v7 := (hw_v5).trans (hb_v7.mono (by first | omega | (simp; omega)))
  clear cR_v5 cF_v5 cZ_v5 hb_v7 y6_0 y6_1 y6_2 y6_3 y6_4 y6_5 hw_v5 hs_v7
  have ld8 : v7.heap[D]? = some (.cells #[.string nm, .string tn, .int .i64 a, .int .i64 b, .int .i64 f, .slice sa n cp] 26) := cR_v7
  have y8_0 := cell6_0 ld8
  have y8_1 := cell6_1 ld8
  have y8_2 := cell6_2 ld8
  have y8_3 := cell6_3 ld8
  have y8_4 := cell6_4 ld8
  have y8_5 := cell6_5 ld8
  clear ld8
  obtain ⟨EA, hEA⟩ : ∃ E, v7.heap.size = E := ⟨_, rfl⟩
  have W7 : Wd (v7.alloc (.cells #[.slice sa n cp] 24)) (.slice sa n cp) n X := hW.out.below (by first | exact (hw_v7.alloc (by have := hw_v7.size; first | omega | (simp; omega)) (.cells #[.slice sa n cp] 24)) | (rw [hD]; exact (hw_v7.alloc (by have := hw_v7.size; first | omega | (simp; omega)) (.cells #[.slice sa n cp] 24))))
  have hA : (v7.alloc (.cells #[.slice sa n cp] 24)).heap[EA]? = some (.cells #[.slice sa n cp] 24) := (heap_new (by first | omega | (simp; omega)))
  have hsz : D + 2 + 1 ≤ ((v7.alloc (.cells #[.slice sa n cp] 24))).heap.size := by have := (Array.getElem?_eq_some_iff.1 (show (v7.alloc (.cells #[.slice sa n cp] 24)).heap[D + 1 + 1]? = some (.cells #[.string ⟨#[]⟩, .string ⟨#[]⟩, .int .i64 0, .int .i64 0, .int .i64 0, .slice none 0 0] 26) from (heap_old (o := .cells #[.slice sa n cp] 24) cZ_v7))).1; have := (Array.getElem?_eq_some_iff.1 hA).1; omega
  have hpos : ∀ j, j < 1 → 0 < (fun _ => n) j := fun _ _ => hn0
  have hT : sumN (fun _ => n) 1 ≤ 1000000 := by simp [sumN]; omega
  have hBl : EA < ((v7.alloc (.cells #[.slice sa n cp] 24))).heap.size := (Array.getElem?_eq_some_iff.1 hA).1
  have hvv : ∀ j, j < 1 → ((v7.alloc (.cells #[.slice sa n cp] 24))).cell? ⟨EA, j, none⟩ = some ((fun _ => Value.slice sa n cp) j) := by intro j hj; rcases j with _ | j <;> first | exact cell_one hA | omega
  have hww : ∀ j, j < 1 → Wd ((v7.alloc (.cells #[.slice sa n cp] 24))) ((fun _ => Value.slice sa n cp) j) ((fun _ => n) j) ((fun _ => X) j) := fun _ _ => W7
  clear hA
  go_wp2_with fail
  refine (changed_c nm tn a b f (f - s) (.slice sa n cp) (EA) 1 1 (fun _ => Value.slice sa n cp) (fun _ => n) (fun _ => X) ⟨_, _, _, rfl⟩ (by decide) (by decide) hpos hT _ hBl hvv hww).mono ?_
  rintro e v9 ⟨⟨sr, mr, cr, rfl, hrow⟩, hb_v9⟩
  have hs_v9 := hw_v7.size
  have cR_v9 : v9.heap[D]? = some (.cells #[.string nm, .string tn, .int .i64 a, .int .i64 b, .int .i64 f, .slice sa n cp] 26) := (hb_v9.block (D) (Array.getElem?_eq_some_iff.1 (show (v7.alloc (.cells #[.slice sa n cp] 24)).heap[D]? = some (.cells #[.string nm, .string tn, .int .i64 a, .int .i64 b, .int .i64 f, .slice sa n cp] 26) from (heap_old (o := .cells #[.slice sa n cp] 24) cR_v7))).1).trans (heap_old (o := .cells #[.slice sa n cp] 24) cR_v7)
  have cF_v9 : v9.heap[D + 1]? = some (.cells #[.int .i64 c, .int .i64 d] 23) := (hb_v9.block (D + 1) (Array.getElem?_eq_some_iff.1 (show (v7.alloc (.cells #[.slice sa n cp] 24)).heap[D + 1]? = some (.cells #[.int .i64 c, .int .i64 d] 23) from (heap_old (o := .cells #[.slice sa n cp] 24) cF_v7))).1).trans (heap_old (o := .cells #[.slice sa n cp] 24) cF_v7)
  have cZ_v9 : v9.heap[D + 1 + 1]? = some (.cells #[.string ⟨#[]⟩, .string ⟨#[]⟩, .int .i64 0, .int .i64 0, .int .i64 0, .slice none 0 0] 26) := (hb_v9.block (D + 1 + 1) (Array.getElem?_eq_some_iff.1 (show (v7.alloc (.cells #[.slice sa n cp] 24)).heap[D + 1 + 1]? = some (.cells #[.string ⟨#[]⟩, .string ⟨#[]⟩, .int .i64 0, .int .i64 0, .int .i64 0, .slice none 0 0] 26) from (heap_old (o := .cells #[.slice sa n cp] 24) cZ_v7))).1).trans (heap_old (o := .cells #[.slice sa n cp] 24) cZ_v7)
  have cA_v9 : v9.heap[EA]? = some (.cells #[.slice sa n cp] 24) := (hb_v9.block (EA) (Array.getElem?_eq_some_iff.1 (show (v7.alloc (.cells #[.slice sa n cp] 24)).heap[EA]? = some (.cells #[.slice sa n cp] 24) from (heap_new (by first | omega | (simp; omega))))).1).trans (heap_new (by first | omega | (simp; omega)))
  have hw_v9 : Below D w v9 := ((hw_v7.alloc (by have := hw_v7.size; first | omega | (simp; omega)) (.cells #[.slice sa n cp] 24))).trans (hb_v9.mono (by first | omega | (simp; omega)))
  clear cR_v7 cF_v7 cZ_v7 hb_v9 y8_0 y8_1 y8_2 y8_3 y8_4 y8_5 hw_v7 hs_v9
  clear hpos hT hBl hvv hww
  rw [cat_one] at hrow
  simp only [sumN, Nat.zero_add] at hrow
  have hrow2 := owns_base (B := D + 3) hrow (by first | exact hsz | omega)
  clear hsz hrow
  clear cA_v9
  obtain ⟨EO, hEO⟩ : ∃ E, v9.heap.size = E := ⟨_, rfl⟩
  have hDE : D + 3 ≤ EO := by rw [← hEO]; exact (Array.getElem?_eq_some_iff.1 cZ_v9).1
  obtain ⟨V10, hV10⟩ : ∃ V, (v9.alloc (.cells #[.string nm, .string tn, .int .i64 a, .int .i64 b, .int .i64 (f - s), .slice sr mr cr] 26)) = V := ⟨_, rfl⟩
  have cR_V10 : V10.heap[D]? = some (.cells #[.string nm, .string tn, .int .i64 a, .int .i64 b, .int .i64 f, .slice sa n cp] 26) := by rw [← hV10]; exact (heap_old (o := .cells #[.string nm, .string tn, .int .i64 a, .int .i64 b, .int .i64 (f - s), .slice sr mr cr] 26) cR_v9)
  have cF_V10 : V10.heap[D + 1]? = some (.cells #[.int .i64 c, .int .i64 d] 23) := by rw [← hV10]; exact (heap_old (o := .cells #[.string nm, .string tn, .int .i64 a, .int .i64 b, .int .i64 (f - s), .slice sr mr cr] 26) cF_v9)
  have cZ_V10 : V10.heap[D + 1 + 1]? = some (.cells #[.string ⟨#[]⟩, .string ⟨#[]⟩, .int .i64 0, .int .i64 0, .int .i64 0, .slice none 0 0] 26) := by rw [← hV10]; exact (heap_old (o := .cells #[.string nm, .string tn, .int .i64 a, .int .i64 b, .int .i64 (f - s), .slice sr mr cr] 26) cZ_v9)
  have cO_V10 : V10.heap[EO]? = some (.cells #[.string nm, .string tn, .int .i64 a, .int .i64 b, .int .i64 (f - s), .slice sr mr cr] 26) := by rw [← hV10]; exact (heap_new (by first | omega | (simp; omega)))
  have hw_V10 : Below D w V10 := by rw [← hV10]; exact (hw_v9.alloc (by have := hw_v9.size; first | omega | (simp; omega)) (.cells #[.string nm, .string tn, .int .i64 a, .int .i64 b, .int .i64 (f - s), .slice sr mr cr] 26))
  have hr_V10 : V10.ownsRow (D + 3) 3 1 (.slice sr mr cr) n (rowL X n) := by rw [← hV10]; exact hrow2.alloc _
  have HNE := Lib.hid (show ∀ g cap, Value.slice sr mr cr = .slice (some ⟨g, 0, none⟩) n cap → g ≠ EO from fun g cap hv => by have := (hrow2.lt g (by rw [hv]; rfl)).2; omega)
  have HR := Lib.hid hr_V10
  have HVV := Lib.hid hV10
  have hHW := Lib.hid hw_V10
  clear hr_V10 hV10 hrow2 hw_V10 cR_v9 cF_v9 cZ_v9 hw_v9
  go_upto_region 11 with fail
  rw [HVV.out]
  clear HVV
  have ld11 : V10.heap[D + 1]? = some (.cells #[.int .i64 c, .int .i64 d] 23) := cF_V10
  have y11_0 := cell2_0 ld11
  have y11_1 := cell2_1 ld11
  clear ld11
  have hp : V10.heap[EO]? = some (.cells #[.string nm, .string tn, .int .i64 a, .int .i64 b, .int .i64 (f - s), .slice sr mr cr] 26) := cO_V10
  obtain ⟨f0, f1, f2, f3, f4, f5⟩ := free6_at hp
  obtain ⟨g0, g1, g2, g3, g4, g5⟩ := cell6_at hp
  obtain ⟨V12, hV12⟩ : ∃ V, ((V10.setCell ⟨EO, 2, none⟩ (.int .i64 c)).setCell ⟨EO, 3, none⟩ (.int .i64 d)) = V := ⟨_, rfl⟩
  have cR_V12 : V12.heap[D]? = some (.cells #[.string nm, .string tn, .int .i64 a, .int .i64 b, .int .i64 f, .slice sa n cp] 26) := by rw [← hV12]; exact (set_other (by omega)).trans ((set_other (by omega)).trans (cR_V10))
  have cF_V12 : V12.heap[D + 1]? = some (.cells #[.int .i64 c, .int .i64 d] 23) := by rw [← hV12]; exact (set_other (by omega)).trans ((set_other (by omega)).trans (cF_V10))
  have cZ_V12 : V12.heap[D + 1 + 1]? = some (.cells #[.string ⟨#[]⟩, .string ⟨#[]⟩, .int .i64 0, .int .i64 0, .int .i64 0, .slice none 0 0] 26) := by rw [← hV12]; exact (set_other (by omega)).trans ((set_other (by omega)).trans (cZ_V10))
  have cO_V12 : V12.heap[EO]? = some (.cells #[.string nm, .string tn, .int .i64 c, .int .i64 d, .int .i64 (f - s), .slice sr mr cr] 26) := by rw [← hV12]; exact set2_at hp
  have hw_V12 : Below D w V12 := by rw [← hV12]; exact ((hHW.out).setCell (p := ⟨EO, 2, none⟩) (show D ≤ EO by omega) (.int .i64 c)).setCell (p := ⟨EO, 3, none⟩) (show D ≤ EO by omega) (.int .i64 d)
  have hr_V12 : V12.ownsRow (D + 3) 3 1 (.slice sr mr cr) n (rowL X n) := by rw [← hV12]; exact ⟨HR.out.1, HR.out.2.imp id fun ⟨g, cap, cur, h1, h2, h3, h4⟩ => ⟨g, cap, cur, h1, h2, (set_other (HNE.out g cap h1)).trans ((set_other (HNE.out g cap h1)).trans h3), h4⟩⟩
  have HR2 := Lib.hid hr_V12
  have HVV := Lib.hid hV12
  have hHW2 := Lib.hid hw_V12
  clear hp hr_V12 hV12 hw_V12 cR_V10 cF_V10 cZ_V10 cO_V10
  go_upto_region 12 with fail
  rw [HVV.out]
  clear HVV f0 f1 f2 f3 f4 f5 g0 g1 g2 g3 g4 g5
  have ld13 : V12.heap[EO]? = some (.cells #[.string nm, .string tn, .int .i64 c, .int .i64 d, .int .i64 (f - s), .slice sr mr cr] 26) := cO_V12
  have y13_0 := cell6_0 ld13
  have y13_1 := cell6_1 ld13
  have y13_2 := cell6_2 ld13
  have y13_3 := cell6_3 ld13
  have y13_4 := cell6_4 ld13
  have y13_5 := cell6_5 ld13
  clear ld13
  have hp := cZ_V12
  obtain ⟨f0, f1, f2, f3, f4, f5⟩ := free6_at hp
  obtain ⟨g0, g1, g2, g3, g4, g5⟩ := cell6_at hp
  have hE := set6_all (x0 := .string nm) (x1 := .string tn) (x2 := .int .i64 c) (x3 := .int .i64 d) (x4 := .int .i64 (f - s)) (x5 := .slice sr mr cr) hp
  have HW := Lib.hid (below6 (hHW2.out) (show D ≤ D + 1 + 1 by omega) (.string nm) (.string tn) (.int .i64 c) (.int .i64 d) (.int .i64 (f - s)) (.slice sr mr cr))
  have HO := Lib.hid (owns_set (b := D + 1 + 1) (o := 5) (x := .slice sr mr cr) (owns_set (b := D + 1 + 1) (o := 4) (x := .int .i64 (f - s)) (owns_set (b := D + 1 + 1) (o := 3) (x := .int .i64 d) (owns_set (b := D + 1 + 1) (o := 2) (x := .int .i64 c) (owns_set (b := D + 1 + 1) (o := 1) (x := .string tn) (owns_set (b := D + 1 + 1) (o := 0) (x := .string nm) HR2.out (by omega)) (by omega)) (by omega)) (by omega)) (by omega)) (by omega))
  obtain ⟨U, hU⟩ : ∃ U, ((((((V12.setCell ⟨D + 1 + 1, 0, none⟩ (.string nm)).setCell ⟨D + 1 + 1, 1, none⟩ (.string tn)).setCell ⟨D + 1 + 1, 2, none⟩ (.int .i64 c)).setCell ⟨D + 1 + 1, 3, none⟩ (.int .i64 d)).setCell ⟨D + 1 + 1, 4, none⟩ (.int .i64 (f - s))).setCell ⟨D + 1 + 1, 5, none⟩ (.slice sr mr cr)) = U := ⟨_, rfl⟩
  rw [hU] at hE HW HO
  obtain ⟨z0, z1, z2, z3, z4, z5⟩ := cell6_at hE
  have HUU := Lib.hid hU
  clear hU hE hp
  go_wp2
  rw [HUU.out]
  exact bodyPost_ret (v := .tuple #[.agg #[.string nm, .string tn, .int .i64 c, .int .i64 d, .int .i64 (f - s), .slice sr mr cr], .int .i64 0]) (by simp [results, Tryz.results29, go_sem, z0, z1, z2, z3, z4, z5]) rfl ⟨⟨sr, mr, cr, rfl, owns_base HO.out (by omega)⟩, by first | exact HW.out | (rw [hD]; exact HW.out)⟩
end Go.Proofs.YtbkbncapgljfaaaGreatDoor
/- A region that draws its order and stores once, with operations behind the store that leave the world as it is. -/
namespace Go.Proofs.YtbkbncapgljfaaaGreatDoor
open Go Go.RowKit Go.Shelf

section
variable {P : Program} {ops : Array Oper} {Q : Exit → Act → World → Prop} {F : (Nat → Value) → Act}
def CloI (ops : Array Oper) (L : Nat → Bool) : Prop := ∀ j o, ops[j]? = some o → L j = true → ∀ e ∈ o.after, Region.binds .any e = true → L e.on = true
/-- Number s stores; q is the box. -/
def StI (ops : Array Oper) (s q : Nat) (R : World → Prop) (Inv : Nat → Value → World → Prop) (Jnv : Nat → Value → Prop) (Fin : Value → World → Prop) : (Nat → Bool) → (Nat → Value) → World → Prop :=
  fun L ys w => CloI ops L ∧ ((L s = false ∧ R w ∧ ∀ j, j < ops.size → L j = true → Inv j (ys j) w) ∨ (L s = true ∧ Fin (ys q) w ∧ ∀ j, j < ops.size → L j = true → Jnv j (ys j)))
variable {s q : Nat} {R : World → Prop} {Inv : Nat → Value → World → Prop} {Jnv : Nat → Value → Prop} {Fin : Value → World → Prop}
theorem clo_at {L : Nat → Bool} (hc : CloI ops L) (j k : Nat) {o : Oper} (ho : ops[j]? = some o) (hw : waitsB .any o k = true) (hL : L j = true) : L k = true := waits_at (hc j o ho hL) hw
theorem SlotStep.stB {i : Nat} {o : Oper} (ho : ops[i]? = some o) (his : s ≠ i) (hp : ∀ L, CloI ops L → L s = true → L i = true)
    (hR : ∀ A B : World, Below A.heap.size A B → R A → R B) (hI : ∀ (j : Nat) (v : Value) (A B : World), Below A.heap.size A B → Inv j v A → Inv j v B)
    (h : ∀ (ys : Nat → Value) (w : World), R w → (∀ j, waitsB .any o j = true → j < ops.size → Inv j (ys j) w) →
      ∀ K : Act → World → Prop, (∀ v w', Below w.heap.size w w' → Inv i v w' → K (F (upd ys i v)) w') →
        if Region.wanted o (yielded ops (F ys).tmps) = true then Oper.wp P o (F ys) w K Q else K ((F ys).put o.dst undef) w) :
    SlotStep P .any ops Q F (StI ops s q R Inv Jnv Fin) i o := by
  intro L ys w hL ha ⟨hc, hd⟩ K hK
  rcases hd with ⟨hl, hr, hi2⟩ | ⟨hl, _⟩
  · refine h ys w hr (fun j hw hj => hi2 j hj (waits_at ha hw)) K (fun v w' hb hv => hK v w' ⟨clo_upd ho ha hc, .inl ⟨by rw [upd_ne _ _ his]; exact hl, hR _ _ hb hr, fun j hj hLj => ?_⟩⟩)
    by_cases hji : j = i
    · subst hji; rw [upd_same]; exact hv
    · rw [upd_ne _ _ hji]
      rw [upd_ne _ _ hji] at hLj
      exact hI j _ _ _ hb (hi2 j hj hLj)
  · rw [hp L hc hl] at hL
    cases hL
theorem SlotStep.stP {i : Nat} {o : Oper} (ho : ops[i]? = some o) (his : s ≠ i) (hiq : q ≠ i) (hJ : ∀ j v w, Inv j v w → Jnv j v)
    (h : ∀ (ys : Nat → Value) (w : World), (∀ j, waitsB .any o j = true → j < ops.size → Jnv j (ys j)) →
      ∀ K : Act → World → Prop, (∀ v, Jnv i v → (∀ w', Inv i v w') → K (F (upd ys i v)) w) →
        if Region.wanted o (yielded ops (F ys).tmps) = true then Oper.wp P o (F ys) w K Q else K ((F ys).put o.dst undef) w) :
    SlotStep P .any ops Q F (StI ops s q R Inv Jnv Fin) i o := by
  intro L ys w hL ha ⟨hc, hd⟩ K hK
  rcases hd with ⟨hl, hr, hi2⟩ | ⟨hl, hf, hi2⟩
  · refine h ys w (fun j hw hj => hJ _ _ _ (hi2 j hj (waits_at ha hw))) K (fun v hv hv2 => hK v w ⟨clo_upd ho ha hc, .inl ⟨by rw [upd_ne _ _ his]; exact hl, hr, fun j hj hLj => ?_⟩⟩)
    by_cases hji : j = i
    · subst hji; rw [upd_same]; exact hv2 _
    · rw [upd_ne _ _ hji]
      rw [upd_ne _ _ hji] at hLj
      exact hi2 j hj hLj
  · refine h ys w (fun j hw hj => hi2 j hj (waits_at ha hw)) K (fun v hv hv2 => hK v w ⟨clo_upd ho ha hc, .inr ⟨by rw [upd_ne _ _ his]; exact hl, by rw [upd_ne _ _ hiq]; exact hf, fun j hj hLj => ?_⟩⟩)
    by_cases hji : j = i
    · subst hji; rw [upd_same]; exact hv
    · rw [upd_ne _ _ hji]
      rw [upd_ne _ _ hji] at hLj
      exact hi2 j hj hLj
theorem SlotStep.stS {i : Nat} {o : Oper} (ho : ops[i]? = some o) (his : i = s) (hiq : q ≠ i) (hJ : ∀ j v w, Inv j v w → Jnv j v) (hJs : ∀ v, Jnv i v)
    (h : ∀ (ys : Nat → Value) (w : World), R w → (∀ j, waitsB .any o j = true → j < ops.size → Inv j (ys j) w) →
      ∀ K : Act → World → Prop, (∀ v w', Fin (ys q) w' → K (F (upd ys i v)) w') →
        if Region.wanted o (yielded ops (F ys).tmps) = true then Oper.wp P o (F ys) w K Q else K ((F ys).put o.dst undef) w) :
    SlotStep P .any ops Q F (StI ops s q R Inv Jnv Fin) i o := by
  intro L ys w hL ha ⟨hc, hd⟩ K hK
  rcases hd with ⟨hl, hr, hi2⟩ | ⟨hl, _⟩
  · refine h ys w hr (fun j hw hj => hi2 j hj (waits_at ha hw)) K (fun v w' hf => hK v w' ⟨clo_upd ho ha hc, .inr ⟨by rw [← his, upd_same], by rw [upd_ne _ _ hiq]; exact hf, fun j hj hLj => ?_⟩⟩)
    by_cases hji : j = i
    · subst hji; exact hJs _
    · rw [upd_ne _ _ hji]
      rw [upd_ne _ _ hji] at hLj
      exact hJ _ _ _ (hi2 j hj hLj)
  · rw [his] at hL; rw [hL] at hl; cases hl
theorem st_start (hs : s < ops.size) {ys : Nat → Value} {w : World} (hr : R w) : StI ops s q R Inv Jnv Fin (fun i => decide (ops.size ≤ i)) ys w :=
  ⟨fun j o ho hj => by have := (Array.getElem?_eq_some_iff.1 ho).1; have := of_decide_eq_true hj; omega, .inl ⟨by simp; omega, hr, fun j hj hL => by have := of_decide_eq_true hL; omega⟩⟩
theorem st_end (hs : s < ops.size) {L : Nat → Bool} {ys : Nat → Value} {w : World} (hL : ∀ i, i < ops.size → L i = true) (h : StI ops s q R Inv Jnv Fin L ys w) : Fin (ys q) w ∧ ∀ j, j < ops.size → Jnv j (ys j) := by
  rcases h.2 with ⟨hl, _⟩ | ⟨_, h, hj⟩
  · rw [hL _ hs] at hl; cases hl
  · exact ⟨h, fun j hjn => hj j hjn (hL j hjn)⟩
end
end Go.Proofs.YtbkbncapgljfaaaGreatDoor
