/- The contract of rank's Join. -/
import Derived.Test.YtbkbncapgljfaaaGreatDoorRkY
namespace Go.Proofs.YtbkbncapgljfaaaGreatDoor
open Go Go.RowKit Go.Shelf


set_option maxRecDepth 100000 in
set_option maxHeartbeats 4000000 in
theorem join_bad1 (nm tn : ByteArray) (a b f : Int) (sa : Option Addr) (n cp : Nat) (X : Nat → Int) (nm2 tn2 : ByteArray) (a2 b2 f2 : Int) (sb : Option Addr) (m cq : Nat) (Y : Nat → Int) (s1 : nm.size ≤ 1099511627776) (s2 : tn.size ≤ 1099511627776) (hn : n ≤ 1099511627776) (t1 : nm2.size ≤ 1099511627776) (t2 : tn2.size ≤ 1099511627776) (hm : m ≤ 1099511627776) (z : Int) (h1 : rkE nm tn a b f n X = z) (h2 : ¬ z = 0) (w : World) (hW1 : Wd w (.slice sa n cp) n X) (hW2 : Wd w (.slice sb m cq) m Y) :
    Calls Tryz.prog 27 #[.agg #[.string nm, .string tn, .int .i64 a, .int .i64 b, .int .i64 f, .slice sa n cp], .agg #[.string nm2, .string tn2, .int .i64 a2, .int .i64 b2, .int .i64 f2, .slice sb m cq]] w fun e w' => e = .returned (.tuple #[.agg #[.string ⟨#[]⟩, .string ⟨#[]⟩, .int .i64 0, .int .i64 0, .int .i64 0, .slice none 0 0], .int .i64 z]) ∧ Below w.heap.size w w' := by
  have CA := Lib.hid (fun W h => rcheck_c nm tn a b f (.slice sa n cp) n X s1 s2 hn W h)
  have CB := Lib.hid (fun W h => rcheck_c nm2 tn2 a2 b2 f2 (.slice sb m cq) m Y t1 t2 hm W h)
  rw [h1] at CA
  clear h1
  have hW := Lib.hid hW1
  have hY := Lib.hid hW2
  clear hW1 hW2
  obtain ⟨D, hD⟩ : ∃ D, w.heap.size = D := ⟨_, rfl⟩
  go_enter Tryz.func27, Tryz.ntmps27
  have ld1 : (((w.alloc (.cells #[.string nm, .string tn, .int .i64 a, .int .i64 b, .int .i64 f, .slice sa n cp] 26)).alloc (.cells #[.string nm2, .string tn2, .int .i64 a2, .int .i64 b2, .int .i64 f2, .slice sb m cq] 26)).alloc (.cells #[.string ⟨#[]⟩, .string ⟨#[]⟩, .int .i64 0, .int .i64 0, .int .i64 0, .slice none 0 0] 26)).heap[D]? = some (.cells #[.string nm, .string tn, .int .i64 a, .int .i64 b, .int .i64 f, .slice sa n cp] 26) := (heap_old (o := .cells #[.string ⟨#[]⟩, .string ⟨#[]⟩, .int .i64 0, .int .i64 0, .int .i64 0, .slice none 0 0] 26) (heap_old (o := .cells #[.string nm2, .string tn2, .int .i64 a2, .int .i64 b2, .int .i64 f2, .slice sb m cq] 26) (heap_new (by first | omega | (simp; omega)))))
  have y1_0 := cell6_0 ld1
  have y1_1 := cell6_1 ld1
  have y1_2 := cell6_2 ld1
  have y1_3 := cell6_3 ld1
  have y1_4 := cell6_4 ld1
  have y1_5 := cell6_5 ld1
  clear ld1
  have W1 : Wd (((w.alloc (.cells #[.string nm, .string tn, .int .i64 a, .int .i64 b, .int .i64 f, .slice sa n cp] 26)).alloc (.cells #[.string nm2, .string tn2, .int .i64 a2, .int .i64 b2, .int .i64 f2, .slice sb m cq] 26)).alloc (.cells #[.string ⟨#[]⟩, .string ⟨#[]⟩, .int .i64 0, .int .i64 0, .int .i64 0, .slice none 0 0] 26)) (.slice sa n cp) n X := hW.out.below (by first | exact ((((Below.refl _ w).alloc (by first | omega | (simp; omega)) (.cells #[.string nm, .string tn, .int .i64 a, .int .i64 b, .int .i64 f, .slice sa n cp] 26)).alloc (by first | omega | (simp; omega)) (.cells #[.string nm2, .string tn2, .int .i64 a2, .int .i64 b2, .int .i64 f2, .slice sb m cq] 26)).alloc (by first | omega | (simp; omega)) (.cells #[.string ⟨#[]⟩, .string ⟨#[]⟩, .int .i64 0, .int .i64 0, .int .i64 0, .slice none 0 0] 26)) | (rw [hD]; exact ((((Below.refl _ w).alloc (by first | omega | (simp; omega)) (.cells #[.string nm, .string tn, .int .i64 a, .int .i64 b, .int .i64 f, .slice sa n cp] 26)).alloc (by first | omega | (simp; omega)) (.cells #[.string nm2, .string tn2, .int .i64 a2, .int .i64 b2, .int .i64 f2, .slice sb m cq] 26)).alloc (by first | omega | (simp; omega)) (.cells #[.string ⟨#[]⟩, .string ⟨#[]⟩, .int .i64 0, .int .i64 0, .int .i64 0, .slice none 0 0] 26))))
  go_wp2_with fail
  refine (CA.out _ W1).mono ?_
  rintro e v2 ⟨rfl, hb_v2⟩
  have cR_v2 : v2.heap[D]? = some (.cells #[.string nm, .string tn, .int .i64 a, .int .i64 b, .int .i64 f, .slice sa n cp] 26) := (hb_v2.block (D) (Array.getElem?_eq_some_iff.1 (show (((w.alloc (.cells #[.string nm, .string tn, .int .i64 a, .int .i64 b, .int .i64 f, .slice sa n cp] 26)).alloc (.cells #[.string nm2, .string tn2, .int .i64 a2, .int .i64 b2, .int .i64 f2, .slice sb m cq] 26)).alloc (.cells #[.string ⟨#[]⟩, .string ⟨#[]⟩, .int .i64 0, .int .i64 0, .int .i64 0, .slice none 0 0] 26)).heap[D]? = some (.cells #[.string nm, .string tn, .int .i64 a, .int .i64 b, .int .i64 f, .slice sa n cp] 26) from (heap_old (o := .cells #[.string ⟨#[]⟩, .string ⟨#[]⟩, .int .i64 0, .int .i64 0, .int .i64 0, .slice none 0 0] 26) (heap_old (o := .cells #[.string nm2, .string tn2, .int .i64 a2, .int .i64 b2, .int .i64 f2, .slice sb m cq] 26) (heap_new (by first | omega | (simp; omega))))))).1).trans (heap_old (o := .cells #[.string ⟨#[]⟩, .string ⟨#[]⟩, .int .i64 0, .int .i64 0, .int .i64 0, .slice none 0 0] 26) (heap_old (o := .cells #[.string nm2, .string tn2, .int .i64 a2, .int .i64 b2, .int .i64 f2, .slice sb m cq] 26) (heap_new (by first | omega | (simp; omega)))))
  have cS_v2 : v2.heap[D + 1]? = some (.cells #[.string nm2, .string tn2, .int .i64 a2, .int .i64 b2, .int .i64 f2, .slice sb m cq] 26) := (hb_v2.block (D + 1) (Array.getElem?_eq_some_iff.1 (show (((w.alloc (.cells #[.string nm, .string tn, .int .i64 a, .int .i64 b, .int .i64 f, .slice sa n cp] 26)).alloc (.cells #[.string nm2, .string tn2, .int .i64 a2, .int .i64 b2, .int .i64 f2, .slice sb m cq] 26)).alloc (.cells #[.string ⟨#[]⟩, .string ⟨#[]⟩, .int .i64 0, .int .i64 0, .int .i64 0, .slice none 0 0] 26)).heap[D + 1]? = some (.cells #[.string nm2, .string tn2, .int .i64 a2, .int .i64 b2, .int .i64 f2, .slice sb m cq] 26) from (heap_old (o := .cells #[.string ⟨#[]⟩, .string ⟨#[]⟩, .int .i64 0, .int .i64 0, .int .i64 0, .slice none 0 0] 26) (heap_new (by first | omega | (simp; omega)))))).1).trans (heap_old (o := .cells #[.string ⟨#[]⟩, .string ⟨#[]⟩, .int .i64 0, .int .i64 0, .int .i64 0, .slice none 0 0] 26) (heap_new (by first | omega | (simp; omega))))
  have cZ_v2 : v2.heap[D + 1 + 1]? = some (.cells #[.string ⟨#[]⟩, .string ⟨#[]⟩, .int .i64 0, .int .i64 0, .int .i64 0, .slice none 0 0] 26) := (hb_v2.block (D + 1 + 1) (Array.getElem?_eq_some_iff.1 (show (((w.alloc (.cells #[.string nm, .string tn, .int .i64 a, .int .i64 b, .int .i64 f, .slice sa n cp] 26)).alloc (.cells #[.string nm2, .string tn2, .int .i64 a2, .int .i64 b2, .int .i64 f2, .slice sb m cq] 26)).alloc (.cells #[.string ⟨#[]⟩, .string ⟨#[]⟩, .int .i64 0, .int .i64 0, .int .i64 0, .slice none 0 0] 26)).heap[D + 1 + 1]? = some (.cells #[.string ⟨#[]⟩, .string ⟨#[]⟩, .int .i64 0, .int .i64 0, .int .i64 0, .slice none 0 0] 26) from (heap_new (by first | omega | (simp; omega))))).1).trans (heap_new (by first | omega | (simp; omega)))
  have hw_v2 : Below D w v2 := (((((Below.refl _ w).alloc (by first | omega | (simp; omega)) (.cells #[.string nm, .string tn, .int .i64 a, .int .i64 b, .int .i64 f, .slice sa n cp] 26)).alloc (by first | omega | (simp; omega)) (.cells #[.string nm2, .string tn2, .int .i64 a2, .int .i64 b2, .int .i64 f2, .slice sb m cq] 26)).alloc (by first | omega | (simp; omega)) (.cells #[.string ⟨#[]⟩, .string ⟨#[]⟩, .int .i64 0, .int .i64 0, .int .i64 0, .slice none 0 0] 26))).trans (hb_v2.mono (by first | omega | (simp; omega)))
  clear hb_v2 y1_0 y1_1 y1_2 y1_3 y1_4 y1_5
  have hp := cZ_v2
  obtain ⟨f0, f1, f2, f3, f4, f5⟩ := free6_at hp
  obtain ⟨g0, g1, g2, g3, g4, g5⟩ := cell6_at hp
  have hE := set6_all (x0 := .string ⟨#[]⟩) (x1 := .string ⟨#[]⟩) (x2 := .int .i64 0) (x3 := .int .i64 0) (x4 := .int .i64 0) (x5 := .slice none 0 0) hp
  have HW := Lib.hid (below6 (hw_v2) (show D ≤ D + 1 + 1 by omega) (.string ⟨#[]⟩) (.string ⟨#[]⟩) (.int .i64 0) (.int .i64 0) (.int .i64 0) (.slice none 0 0))
  obtain ⟨U, hU⟩ : ∃ U, ((((((v2.setCell ⟨D + 1 + 1, 0, none⟩ (.string ⟨#[]⟩)).setCell ⟨D + 1 + 1, 1, none⟩ (.string ⟨#[]⟩)).setCell ⟨D + 1 + 1, 2, none⟩ (.int .i64 0)).setCell ⟨D + 1 + 1, 3, none⟩ (.int .i64 0)).setCell ⟨D + 1 + 1, 4, none⟩ (.int .i64 0)).setCell ⟨D + 1 + 1, 5, none⟩ (.slice none 0 0)) = U := ⟨_, rfl⟩
  rw [hU] at hE HW
  obtain ⟨z0, z1, z2, z3, z4, z5⟩ := cell6_at hE
  have HUU := Lib.hid hU
  clear hU hE hp
  go_wp2
  rw [HUU.out]
  exact bodyPost_ret (v := .tuple #[.agg #[.string ⟨#[]⟩, .string ⟨#[]⟩, .int .i64 0, .int .i64 0, .int .i64 0, .slice none 0 0], .int .i64 z]) (by simp [results, Tryz.results27, go_sem, z0, z1, z2, z3, z4, z5]) rfl ⟨rfl, by first | exact HW.out | (rw [hD]; exact HW.out)⟩

set_option maxRecDepth 100000 in
set_option maxHeartbeats 4000000 in
theorem join_bad2 (nm tn : ByteArray) (a b f : Int) (sa : Option Addr) (n cp : Nat) (X : Nat → Int) (nm2 tn2 : ByteArray) (a2 b2 f2 : Int) (sb : Option Addr) (m cq : Nat) (Y : Nat → Int) (s1 : nm.size ≤ 1099511627776) (s2 : tn.size ≤ 1099511627776) (hn : n ≤ 1099511627776) (t1 : nm2.size ≤ 1099511627776) (t2 : tn2.size ≤ 1099511627776) (hm : m ≤ 1099511627776) (z : Int) (h0 : rkE nm tn a b f n X = 0) (h1 : rkE nm2 tn2 a2 b2 f2 m Y = z) (h2 : ¬ z = 0) (w : World) (hW1 : Wd w (.slice sa n cp) n X) (hW2 : Wd w (.slice sb m cq) m Y) :
    Calls Tryz.prog 27 #[.agg #[.string nm, .string tn, .int .i64 a, .int .i64 b, .int .i64 f, .slice sa n cp], .agg #[.string nm2, .string tn2, .int .i64 a2, .int .i64 b2, .int .i64 f2, .slice sb m cq]] w fun e w' => e = .returned (.tuple #[.agg #[.string ⟨#[]⟩, .string ⟨#[]⟩, .int .i64 0, .int .i64 0, .int .i64 0, .slice none 0 0], .int .i64 z]) ∧ Below w.heap.size w w' := by
  have CA := Lib.hid (fun W h => rcheck_c nm tn a b f (.slice sa n cp) n X s1 s2 hn W h)
  have CB := Lib.hid (fun W h => rcheck_c nm2 tn2 a2 b2 f2 (.slice sb m cq) m Y t1 t2 hm W h)
  rw [h0] at CA
  rw [h1] at CB
  clear h0 h1
  have hW := Lib.hid hW1
  have hY := Lib.hid hW2
  clear hW1 hW2
  obtain ⟨D, hD⟩ : ∃ D, w.heap.size = D := ⟨_, rfl⟩
  go_enter Tryz.func27, Tryz.ntmps27
  have ld1 : (((w.alloc (.cells #[.string nm, .string tn, .int .i64 a, .int .i64 b, .int .i64 f, .slice sa n cp] 26)).alloc (.cells #[.string nm2, .string tn2, .int .i64 a2, .int .i64 b2, .int .i64 f2, .slice sb m cq] 26)).alloc (.cells #[.string ⟨#[]⟩, .string ⟨#[]⟩, .int .i64 0, .int .i64 0, .int .i64 0, .slice none 0 0] 26)).heap[D]? = some (.cells #[.string nm, .string tn, .int .i64 a, .int .i64 b, .int .i64 f, .slice sa n cp] 26) := (heap_old (o := .cells #[.string ⟨#[]⟩, .string ⟨#[]⟩, .int .i64 0, .int .i64 0, .int .i64 0, .slice none 0 0] 26) (heap_old (o := .cells #[.string nm2, .string tn2, .int .i64 a2, .int .i64 b2, .int .i64 f2, .slice sb m cq] 26) (heap_new (by first | omega | (simp; omega)))))
  have y1_0 := cell6_0 ld1
  have y1_1 := cell6_1 ld1
  have y1_2 := cell6_2 ld1
  have y1_3 := cell6_3 ld1
  have y1_4 := cell6_4 ld1
  have y1_5 := cell6_5 ld1
  clear ld1
  have W2 : Wd (((w.alloc (.cells #[.string nm, .string tn, .int .i64 a, .int .i64 b, .int .i64 f, .slice sa n cp] 26)).alloc (.cells #[.string nm2, .string tn2, .int .i64 a2, .int .i64 b2, .int .i64 f2, .slice sb m cq] 26)).alloc (.cells #[.string ⟨#[]⟩, .string ⟨#[]⟩, .int .i64 0, .int .i64 0, .int .i64 0, .slice none 0 0] 26)) (.slice sa n cp) n X := hW.out.below (by first | exact ((((Below.refl _ w).alloc (by first | omega | (simp; omega)) (.cells #[.string nm, .string tn, .int .i64 a, .int .i64 b, .int .i64 f, .slice sa n cp] 26)).alloc (by first | omega | (simp; omega)) (.cells #[.string nm2, .string tn2, .int .i64 a2, .int .i64 b2, .int .i64 f2, .slice sb m cq] 26)).alloc (by first | omega | (simp; omega)) (.cells #[.string ⟨#[]⟩, .string ⟨#[]⟩, .int .i64 0, .int .i64 0, .int .i64 0, .slice none 0 0] 26)) | (rw [hD]; exact ((((Below.refl _ w).alloc (by first | omega | (simp; omega)) (.cells #[.string nm, .string tn, .int .i64 a, .int .i64 b, .int .i64 f, .slice sa n cp] 26)).alloc (by first | omega | (simp; omega)) (.cells #[.string nm2, .string tn2, .int .i64 a2, .int .i64 b2, .int .i64 f2, .slice sb m cq] 26)).alloc (by first | omega | (simp; omega)) (.cells #[.string ⟨#[]⟩, .string ⟨#[]⟩, .int .i64 0, .int .i64 0, .int .i64 0, .slice none 0 0] 26))))
  go_wp2_with fail
  refine (CA.out _ W2).mono ?_
  rintro e v2 ⟨rfl, hb_v2⟩
  have cR_v2 : v2.heap[D]? = some (.cells #[.string nm, .string tn, .int .i64 a, .int .i64 b, .int .i64 f, .slice sa n cp] 26) := (hb_v2.block (D) (Array.getElem?_eq_some_iff.1 (show (((w.alloc (.cells #[.string nm, .string tn, .int .i64 a, .int .i64 b, .int .i64 f, .slice sa n cp] 26)).alloc (.cells #[.string nm2, .string tn2, .int .i64 a2, .int .i64 b2, .int .i64 f2, .slice sb m cq] 26)).alloc (.cells #[.string ⟨#[]⟩, .string ⟨#[]⟩, .int .i64 0, .int .i64 0, .int .i64 0, .slice none 0 0] 26)).heap[D]? = some (.cells #[.string nm, .string tn, .int .i64 a, .int .i64 b, .int .i64 f, .slice sa n cp] 26) from (heap_old (o := .cells #[.string ⟨#[]⟩, .string ⟨#[]⟩, .int .i64 0, .int .i64 0, .int .i64 0, .slice none 0 0] 26) (heap_old (o := .cells #[.string nm2, .string tn2, .int .i64 a2, .int .i64 b2, .int .i64 f2, .slice sb m cq] 26) (heap_new (by first | omega | (simp; omega))))))).1).trans (heap_old (o := .cells #[.string ⟨#[]⟩, .string ⟨#[]⟩, .int .i64 0, .int .i64 0, .int .i64 0, .slice none 0 0] 26) (heap_old (o := .cells #[.string nm2, .string tn2, .int .i64 a2, .int .i64 b2, .int .i64 f2, .slice sb m cq] 26) (heap_new (by first | omega | (simp; omega)))))
  have cS_v2 : v2.heap[D + 1]? = some (.cells #[.string nm2, .string tn2, .int .i64 a2, .int .i64 b2, .int .i64 f2, .slice sb m cq] 26) := (hb_v2.block (D + 1) (Array.getElem?_eq_some_iff.1 (show (((w.alloc (.cells #[.string nm, .string tn, .int .i64 a, .int .i64 b, .int .i64 f, .slice sa n cp] 26)).alloc (.cells #[.string nm2, .string tn2, .int .i64 a2, .int .i64 b2, .int .i64 f2, .slice sb m cq] 26)).alloc (.cells #[.string ⟨#[]⟩, .string ⟨#[]⟩, .int .i64 0, .int .i64 0, .int .i64 0, .slice none 0 0] 26)).heap[D + 1]? = some (.cells #[.string nm2, .string tn2, .int .i64 a2, .int .i64 b2, .int .i64 f2, .slice sb m cq] 26) from (heap_old (o := .cells #[.string ⟨#[]⟩, .string ⟨#[]⟩, .int .i64 0, .int .i64 0, .int .i64 0, .slice none 0 0] 26) (heap_new (by first | omega | (simp; omega)))))).1).trans (heap_old (o := .cells #[.string ⟨#[]⟩, .string ⟨#[]⟩, .int .i64 0, .int .i64 0, .int .i64 0, .slice none 0 0] 26) (heap_new (by first | omega | (simp; omega))))
  have cZ_v2 : v2.heap[D + 1 + 1]? = some (.cells #[.string ⟨#[]⟩, .string ⟨#[]⟩, .int .i64 0, .int .i64 0, .int .i64 0, .slice none 0 0] 26) := (hb_v2.block (D + 1 + 1) (Array.getElem?_eq_some_iff.1 (show (((w.alloc (.cells #[.string nm, .string tn, .int .i64 a, .int .i64 b, .int .i64 f, .slice sa n cp] 26)).alloc (.cells #[.string nm2, .string tn2, .int .i64 a2, .int .i64 b2, .int .i64 f2, .slice sb m cq] 26)).alloc (.cells #[.string ⟨#[]⟩, .string ⟨#[]⟩, .int .i64 0, .int .i64 0, .int .i64 0, .slice none 0 0] 26)).heap[D + 1 + 1]? = some (.cells #[.string ⟨#[]⟩, .string ⟨#[]⟩, .int .i64 0, .int .i64 0, .int .i64 0, .slice none 0 0] 26) from (heap_new (by first | omega | (simp; omega))))).1).trans (heap_new (by first | omega | (simp; omega)))
  have hw_v2 : Below D w v2 := (((((Below.refl _ w).alloc (by first | omega | (simp; omega)) (.cells #[.string nm, .string tn, .int .i64 a, .int .i64 b, .int .i64 f, .slice sa n cp] 26)).alloc (by first | omega | (simp; omega)) (.cells #[.string nm2, .string tn2, .int .i64 a2, .int .i64 b2, .int .i64 f2, .slice sb m cq] 26)).alloc (by first | omega | (simp; omega)) (.cells #[.string ⟨#[]⟩, .string ⟨#[]⟩, .int .i64 0, .int .i64 0, .int .i64 0, .slice none 0 0] 26))).trans (hb_v2.mono (by first | omega | (simp; omega)))
  clear hb_v2 y1_0 y1_1 y1_2 y1_3 y1_4 y1_5
  have ld3 : v2.heap[D + 1]? = some (.cells #[.string nm2, .string tn2, .int .i64 a2, .int .i64 b2, .int .i64 f2, .slice sb m cq] 26) := cS_v2
  have y3_0 := cell6_0 ld3
  have y3_1 := cell6_1 ld3
  have y3_2 := cell6_2 ld3
  have y3_3 := cell6_3 ld3
  have y3_4 := cell6_4 ld3
  have y3_5 := cell6_5 ld3
  clear ld3
  have W3 : Wd v2 (.slice sb m cq) m Y := hY.out.below (by first | exact hw_v2 | (rw [hD]; exact hw_v2))
  go_wp2_with fail
  refine (CB.out _ W3).mono ?_
  rintro e v4 ⟨rfl, hb_v4⟩
  have hs_v4 := hw_v2.size
  have cR_v4 : v4.heap[D]? = some (.cells #[.string nm, .string tn, .int .i64 a, .int .i64 b, .int .i64 f, .slice sa n cp] 26) := (hb_v4.block (D) (Array.getElem?_eq_some_iff.1 (show v2.heap[D]? = some (.cells #[.string nm, .string tn, .int .i64 a, .int .i64 b, .int .i64 f, .slice sa n cp] 26) from cR_v2)).1).trans cR_v2
  have cS_v4 : v4.heap[D + 1]? = some (.cells #[.string nm2, .string tn2, .int .i64 a2, .int .i64 b2, .int .i64 f2, .slice sb m cq] 26) := (hb_v4.block (D + 1) (Array.getElem?_eq_some_iff.1 (show v2.heap[D + 1]? = some (.cells #[.string nm2, .string tn2, .int .i64 a2, .int .i64 b2, .int .i64 f2, .slice sb m cq] 26) from cS_v2)).1).trans cS_v2
  have cZ_v4 : v4.heap[D + 1 + 1]? = some (.cells #[.string ⟨#[]⟩, .string ⟨#[]⟩, .int .i64 0, .int .i64 0, .int .i64 0, .slice none 0 0] 26) := (hb_v4.block (D + 1 + 1) (Array.getElem?_eq_some_iff.1 (show v2.heap[D + 1 + 1]? = some (.cells #[.string ⟨#[]⟩, .string ⟨#[]⟩, .int .i64 0, .int .i64 0, .int .i64 0, .slice none 0 0] 26) from cZ_v2)).1).trans cZ_v2
  have hw_v4 : Below D w v4 := (hw_v2).trans (hb_v4.mono (by first | omega | (simp; omega)))
  clear cR_v2 cS_v2 cZ_v2 hb_v4 y3_0 y3_1 y3_2 y3_3 y3_4 y3_5 hw_v2 hs_v4
  have hp := cZ_v4
  obtain ⟨f0, f1, f2, f3, f4, f5⟩ := free6_at hp
  obtain ⟨g0, g1, g2, g3, g4, g5⟩ := cell6_at hp
  have hE := set6_all (x0 := .string ⟨#[]⟩) (x1 := .string ⟨#[]⟩) (x2 := .int .i64 0) (x3 := .int .i64 0) (x4 := .int .i64 0) (x5 := .slice none 0 0) hp
  have HW := Lib.hid (below6 (hw_v4) (show D ≤ D + 1 + 1 by omega) (.string ⟨#[]⟩) (.string ⟨#[]⟩) (.int .i64 0) (.int .i64 0) (.int .i64 0) (.slice none 0 0))
  obtain ⟨U, hU⟩ : ∃ U, ((((((v4.setCell ⟨D + 1 + 1, 0, none⟩ (.string ⟨#[]⟩)).setCell ⟨D + 1 + 1, 1, none⟩ (.string ⟨#[]⟩)).setCell ⟨D + 1 + 1, 2, none⟩ (.int .i64 0)).setCell ⟨D + 1 + 1, 3, none⟩ (.int .i64 0)).setCell ⟨D + 1 + 1, 4, none⟩ (.int .i64 0)).setCell ⟨D + 1 + 1, 5, none⟩ (.slice none 0 0)) = U := ⟨_, rfl⟩
  rw [hU] at hE HW
  obtain ⟨z0, z1, z2, z3, z4, z5⟩ := cell6_at hE
  have HUU := Lib.hid hU
  clear hU hE hp
  go_wp2
  rw [HUU.out]
  exact bodyPost_ret (v := .tuple #[.agg #[.string ⟨#[]⟩, .string ⟨#[]⟩, .int .i64 0, .int .i64 0, .int .i64 0, .slice none 0 0], .int .i64 z]) (by simp [results, Tryz.results27, go_sem, z0, z1, z2, z3, z4, z5]) rfl ⟨rfl, by first | exact HW.out | (rw [hD]; exact HW.out)⟩

set_option maxRecDepth 100000 in
set_option maxHeartbeats 4000000 in
theorem join_conflict (nm tn : ByteArray) (a b f : Int) (sa : Option Addr) (n cp : Nat) (X : Nat → Int) (nm2 tn2 : ByteArray) (a2 b2 f2 : Int) (sb : Option Addr) (m cq : Nat) (Y : Nat → Int) (s1 : nm.size ≤ 1099511627776) (s2 : tn.size ≤ 1099511627776) (hn : n ≤ 1099511627776) (t1 : nm2.size ≤ 1099511627776) (t2 : tn2.size ≤ 1099511627776) (hm : m ≤ 1099511627776) (h0 : rkE nm tn a b f n X = 0) (h1 : rkE nm2 tn2 a2 b2 f2 m Y = 0) (h2 : ¬ (tn = tn2 ∧ a = a2 ∧ b = b2)) (w : World) (hW1 : Wd w (.slice sa n cp) n X) (hW2 : Wd w (.slice sb m cq) m Y) :
    Calls Tryz.prog 27 #[.agg #[.string nm, .string tn, .int .i64 a, .int .i64 b, .int .i64 f, .slice sa n cp], .agg #[.string nm2, .string tn2, .int .i64 a2, .int .i64 b2, .int .i64 f2, .slice sb m cq]] w fun e w' => e = .returned (.tuple #[.agg #[.string ⟨#[]⟩, .string ⟨#[]⟩, .int .i64 0, .int .i64 0, .int .i64 0, .slice none 0 0], .int .i64 14]) ∧ Below w.heap.size w w' := by
  have CA := Lib.hid (fun W h => rcheck_c nm tn a b f (.slice sa n cp) n X s1 s2 hn W h)
  have CB := Lib.hid (fun W h => rcheck_c nm2 tn2 a2 b2 f2 (.slice sb m cq) m Y t1 t2 hm W h)
  rw [h0] at CA
  rw [h1] at CB
  clear h0 h1
  have hW := Lib.hid hW1
  have hY := Lib.hid hW2
  clear hW1 hW2
  obtain ⟨D, hD⟩ : ∃ D, w.heap.size = D := ⟨_, rfl⟩
  by_cases e1 : tn = tn2
  · subst e1
    have fr := fr_ne0 a b a2 b2 (fun h => h2 ⟨rfl, h⟩)
    go_enter Tryz.func27, Tryz.ntmps27
    have ld1 : (((w.alloc (.cells #[.string nm, .string tn, .int .i64 a, .int .i64 b, .int .i64 f, .slice sa n cp] 26)).alloc (.cells #[.string nm2, .string tn, .int .i64 a2, .int .i64 b2, .int .i64 f2, .slice sb m cq] 26)).alloc (.cells #[.string ⟨#[]⟩, .string ⟨#[]⟩, .int .i64 0, .int .i64 0, .int .i64 0, .slice none 0 0] 26)).heap[D]? = some (.cells #[.string nm, .string tn, .int .i64 a, .int .i64 b, .int .i64 f, .slice sa n cp] 26) := (heap_old (o := .cells #[.string ⟨#[]⟩, .string ⟨#[]⟩, .int .i64 0, .int .i64 0, .int .i64 0, .slice none 0 0] 26) (heap_old (o := .cells #[.string nm2, .string tn, .int .i64 a2, .int .i64 b2, .int .i64 f2, .slice sb m cq] 26) (heap_new (by first | omega | (simp; omega)))))
    have y1_0 := cell6_0 ld1
    have y1_1 := cell6_1 ld1
    have y1_2 := cell6_2 ld1
    have y1_3 := cell6_3 ld1
    have y1_4 := cell6_4 ld1
    have y1_5 := cell6_5 ld1
    clear ld1
    have W4 : Wd (((w.alloc (.cells #[.string nm, .string tn, .int .i64 a, .int .i64 b, .int .i64 f, .slice sa n cp] 26)).alloc (.cells #[.string nm2, .string tn, .int .i64 a2, .int .i64 b2, .int .i64 f2, .slice sb m cq] 26)).alloc (.cells #[.string ⟨#[]⟩, .string ⟨#[]⟩, .int .i64 0, .int .i64 0, .int .i64 0, .slice none 0 0] 26)) (.slice sa n cp) n X := hW.out.below (by first | exact ((((Below.refl _ w).alloc (by first | omega | (simp; omega)) (.cells #[.string nm, .string tn, .int .i64 a, .int .i64 b, .int .i64 f, .slice sa n cp] 26)).alloc (by first | omega | (simp; omega)) (.cells #[.string nm2, .string tn, .int .i64 a2, .int .i64 b2, .int .i64 f2, .slice sb m cq] 26)).alloc (by first | omega | (simp; omega)) (.cells #[.string ⟨#[]⟩, .string ⟨#[]⟩, .int .i64 0, .int .i64 0, .int .i64 0, .slice none 0 0] 26)) | (rw [hD]; exact ((((Below.refl _ w).alloc (by first | omega | (simp; omega)) (.cells #[.string nm, .string tn, .int .i64 a, .int .i64 b, .int .i64 f, .slice sa n cp] 26)).alloc (by first | omega | (simp; omega)) (.cells #[.string nm2, .string tn, .int .i64 a2, .int .i64 b2, .int .i64 f2, .slice sb m cq] 26)).alloc (by first | omega | (simp; omega)) (.cells #[.string ⟨#[]⟩, .string ⟨#[]⟩, .int .i64 0, .int .i64 0, .int .i64 0, .slice none 0 0] 26))))
    go_wp2_with fail
    refine (CA.out _ W4).mono ?_
    rintro e v2 ⟨rfl, hb_v2⟩
    have cR_v2 : v2.heap[D]? = some (.cells #[.string nm, .string tn, .int .i64 a, .int .i64 b, .int .i64 f, .slice sa n cp] 26) := (hb_v2.block (D) (Array.getElem?_eq_some_iff.1 (show (((w.alloc (.cells #[.string nm, .string tn, .int .i64 a, .int .i64 b, .int .i64 f, .slice sa n cp] 26)).alloc (.cells #[.string nm2, .string tn, .int .i64 a2, .int .i64 b2, .int .i64 f2, .slice sb m cq] 26)).alloc (.cells #[.string ⟨#[]⟩, .string ⟨#[]⟩, .int .i64 0, .int .i64 0, .int .i64 0, .slice none 0 0] 26)).heap[D]? = some (.cells #[.string nm, .string tn, .int .i64 a, .int .i64 b, .int .i64 f, .slice sa n cp] 26) from (heap_old (o := .cells #[.string ⟨#[]⟩, .string ⟨#[]⟩, .int .i64 0, .int .i64 0, .int .i64 0, .slice none 0 0] 26) (heap_old (o := .cells #[.string nm2, .string tn, .int .i64 a2, .int .i64 b2, .int .i64 f2, .slice sb m cq] 26) (heap_new (by first | omega | (simp; omega))))))).1).trans (heap_old (o := .cells #[.string ⟨#[]⟩, .string ⟨#[]⟩, .int .i64 0, .int .i64 0, .int .i64 0, .slice none 0 0] 26) (heap_old (o := .cells #[.string nm2, .string tn, .int .i64 a2, .int .i64 b2, .int .i64 f2, .slice sb m cq] 26) (heap_new (by first | omega | (simp; omega)))))
    have cS_v2 : v2.heap[D + 1]? = some (.cells #[.string nm2, .string tn, .int .i64 a2, .int .i64 b2, .int .i64 f2, .slice sb m cq] 26) := (hb_v2.block (D + 1) (Array.getElem?_eq_some_iff.1 (show (((w.alloc (.cells #[.string nm, .string tn, .int .i64 a, .int .i64 b, .int .i64 f, .slice sa n cp] 26)).alloc (.cells #[.string nm2, .string tn, .int .i64 a2, .int .i64 b2, .int .i64 f2, .slice sb m cq] 26)).alloc (.cells #[.string ⟨#[]⟩, .string ⟨#[]⟩, .int .i64 0, .int .i64 0, .int .i64 0, .slice none 0 0] 26)).heap[D + 1]? = some (.cells #[.string nm2, .string tn, .int .i64 a2, .int .i64 b2, .int .i64 f2, .slice sb m cq] 26) from (heap_old (o := .cells #[.string ⟨#[]⟩, .string ⟨#[]⟩, .int .i64 0, .int .i64 0, .int .i64 0, .slice none 0 0] 26) (heap_new (by first | omega | (simp; omega)))))).1).trans (heap_old (o := .cells #[.string ⟨#[]⟩, .string ⟨#[]⟩, .int .i64 0, .int .i64 0, .int .i64 0, .slice none 0 0] 26) (heap_new (by first | omega | (simp; omega))))
    have cZ_v2 : v2.heap[D + 1 + 1]? = some (.cells #[.string ⟨#[]⟩, .string ⟨#[]⟩, .int .i64 0, .int .i64 0, .int .i64 0, .slice none 0 0] 26) := (hb_v2.block (D + 1 + 1) (Array.getElem?_eq_some_iff.1 (show (((w.alloc (.cells #[.string nm, .string tn, .int .i64 a, .int .i64 b, .int .i64 f, .slice sa n cp] 26)).alloc (.cells #[.string nm2, .string tn, .int .i64 a2, .int .i64 b2, .int .i64 f2, .slice sb m cq] 26)).alloc (.cells #[.string ⟨#[]⟩, .string ⟨#[]⟩, .int .i64 0, .int .i64 0, .int .i64 0, .slice none 0 0] 26)).heap[D + 1 + 1]? = some (.cells #[.string ⟨#[]⟩, .string ⟨#[]⟩, .int .i64 0, .int .i64 0, .int .i64 0, .slice none 0 0] 26) from (heap_new (by first | omega | (simp; omega))))).1).trans (heap_new (by first | omega | (simp; omega)))
    have hw_v2 : Below D w v2 := (((((Below.refl _ w).alloc (by first | omega | (simp; omega)) (.cells #[.string nm, .string tn, .int .i64 a, .int .i64 b, .int .i64 f, .slice sa n cp] 26)).alloc (by first | omega | (simp; omega)) (.cells #[.string nm2, .string tn, .int .i64 a2, .int .i64 b2, .int .i64 f2, .slice sb m cq] 26)).alloc (by first | omega | (simp; omega)) (.cells #[.string ⟨#[]⟩, .string ⟨#[]⟩, .int .i64 0, .int .i64 0, .int .i64 0, .slice none 0 0] 26))).trans (hb_v2.mono (by first | omega | (simp; omega)))
    clear hb_v2 y1_0 y1_1 y1_2 y1_3 y1_4 y1_5
    have ld3 : v2.heap[D + 1]? = some (.cells #[.string nm2, .string tn, .int .i64 a2, .int .i64 b2, .int .i64 f2, .slice sb m cq] 26) := cS_v2
    have y3_0 := cell6_0 ld3
    have y3_1 := cell6_1 ld3
    have y3_2 := cell6_2 ld3
    have y3_3 := cell6_3 ld3
    have y3_4 := cell6_4 ld3
    have y3_5 := cell6_5 ld3
    clear ld3
    have W5 : Wd v2 (.slice sb m cq) m Y := hY.out.below (by first | exact hw_v2 | (rw [hD]; exact hw_v2))
    go_wp2_with fail
    refine (CB.out _ W5).mono ?_
    rintro e v4 ⟨rfl, hb_v4⟩
    have hs_v4 := hw_v2.size
    have cR_v4 : v4.heap[D]? = some (.cells #[.string nm, .string tn, .int .i64 a, .int .i64 b, .int .i64 f, .slice sa n cp] 26) := (hb_v4.block (D) (Array.getElem?_eq_some_iff.1 (show v2.heap[D]? = some (.cells #[.string nm, .string tn, .int .i64 a, .int .i64 b, .int .i64 f, .slice sa n cp] 26) from cR_v2)).1).trans cR_v2
    have cS_v4 : v4.heap[D + 1]? = some (.cells #[.string nm2, .string tn, .int .i64 a2, .int .i64 b2, .int .i64 f2, .slice sb m cq] 26) := (hb_v4.block (D + 1) (Array.getElem?_eq_some_iff.1 (show v2.heap[D + 1]? = some (.cells #[.string nm2, .string tn, .int .i64 a2, .int .i64 b2, .int .i64 f2, .slice sb m cq] 26) from cS_v2)).1).trans cS_v2
    have cZ_v4 : v4.heap[D + 1 + 1]? = some (.cells #[.string ⟨#[]⟩, .string ⟨#[]⟩, .int .i64 0, .int .i64 0, .int .i64 0, .slice none 0 0] 26) := (hb_v4.block (D + 1 + 1) (Array.getElem?_eq_some_iff.1 (show v2.heap[D + 1 + 1]? = some (.cells #[.string ⟨#[]⟩, .string ⟨#[]⟩, .int .i64 0, .int .i64 0, .int .i64 0, .slice none 0 0] 26) from cZ_v2)).1).trans cZ_v2
    have hw_v4 : Below D w v4 := (hw_v2).trans (hb_v4.mono (by first | omega | (simp; omega)))
    clear cR_v2 cS_v2 cZ_v2 hb_v4 y3_0 y3_1 y3_2 y3_3 y3_4 y3_5 hw_v2 hs_v4
    have ld5 : v4.heap[D]? = some (.cells #[.string nm, .string tn, .int .i64 a, .int .i64 b, .int .i64 f, .slice sa n cp] 26) := cR_v4
    have y5_0 := cell6_0 ld5
    have y5_1 := cell6_1 ld5
    have y5_2 := cell6_2 ld5
    have y5_3 := cell6_3 ld5
    have y5_4 := cell6_4 ld5
    have y5_5 := cell6_5 ld5
    clear ld5
    have ld6 : v4.heap[D + 1]? = some (.cells #[.string nm2, .string tn, .int .i64 a2, .int .i64 b2, .int .i64 f2, .slice sb m cq] 26) := cS_v4
    have y6_0 := cell6_0 ld6
    have y6_1 := cell6_1 ld6
    have y6_2 := cell6_2 ld6
    have y6_3 := cell6_3 ld6
    have y6_4 := cell6_4 ld6
    have y6_5 := cell6_5 ld6
    clear ld6
    have hp := cZ_v4
    obtain ⟨f0, f1, f2, f3, f4, f5⟩ := free6_at hp
    obtain ⟨g0, g1, g2, g3, g4, g5⟩ := cell6_at hp
    have hE := set6_all (x0 := .string ⟨#[]⟩) (x1 := .string ⟨#[]⟩) (x2 := .int .i64 0) (x3 := .int .i64 0) (x4 := .int .i64 0) (x5 := .slice none 0 0) hp
    have HW := Lib.hid (below6 (hw_v4) (show D ≤ D + 1 + 1 by omega) (.string ⟨#[]⟩) (.string ⟨#[]⟩) (.int .i64 0) (.int .i64 0) (.int .i64 0) (.slice none 0 0))
    obtain ⟨U, hU⟩ : ∃ U, ((((((v4.setCell ⟨D + 1 + 1, 0, none⟩ (.string ⟨#[]⟩)).setCell ⟨D + 1 + 1, 1, none⟩ (.string ⟨#[]⟩)).setCell ⟨D + 1 + 1, 2, none⟩ (.int .i64 0)).setCell ⟨D + 1 + 1, 3, none⟩ (.int .i64 0)).setCell ⟨D + 1 + 1, 4, none⟩ (.int .i64 0)).setCell ⟨D + 1 + 1, 5, none⟩ (.slice none 0 0)) = U := ⟨_, rfl⟩
    rw [hU] at hE HW
    obtain ⟨z0, z1, z2, z3, z4, z5⟩ := cell6_at hE
    have HUU := Lib.hid hU
    clear hU hE hp
    go_wp2
    rw [HUU.out]
    exact bodyPost_ret (v := .tuple #[.agg #[.string ⟨#[]⟩, .string ⟨#[]⟩, .int .i64 0, .int .i64 0, .int .i64 0, .slice none 0 0], .int .i64 14]) (by simp [results, Tryz.results27, go_sem, z0, z1, z2, z3, z4, z5]) rfl ⟨rfl, by first | exact HW.out | (rw [hD]; exact HW.out)⟩
  · have x1 := str_ne e1
    go_enter Tryz.func27, Tryz.ntmps27
    have ld1 : (((w.alloc (.cells #[.string nm, .string tn, .int .i64 a, .int .i64 b, .int .i64 f, .slice sa n cp] 26)).alloc (.cells #[.string nm2, .string tn2, .int .i64 a2, .int .i64 b2, .int .i64 f2, .slice sb m cq] 26)).alloc (.cells #[.string ⟨#[]⟩, .string ⟨#[]⟩, .int .i64 0, .int .i64 0, .int .i64 0, .slice none 0 0] 26)).heap[D]? = some (.cells #[.string nm, .string tn, .int .i64 a, .int .i64 b, .int .i64 f, .slice sa n cp] 26) := (heap_old (o := .cells #[.string ⟨#[]⟩, .string ⟨#[]⟩, .int .i64 0, .int .i64 0, .int .i64 0, .slice none 0 0] 26) (heap_old (o := .cells #[.string nm2, .string tn2, .int .i64 a2, .int .i64 b2, .int .i64 f2, .slice sb m cq] 26) (heap_new (by first | omega | (simp; omega)))))
    have y1_0 := cell6_0 ld1
    have y1_1 := cell6_1 ld1
    have y1_2 := cell6_2 ld1
    have y1_3 := cell6_3 ld1
    have y1_4 := cell6_4 ld1
    have y1_5 := cell6_5 ld1
    clear ld1
    have W6 : Wd (((w.alloc (.cells #[.string nm, .string tn, .int .i64 a, .int .i64 b, .int .i64 f, .slice sa n cp] 26)).alloc (.cells #[.string nm2, .string tn2, .int .i64 a2, .int .i64 b2, .int .i64 f2, .slice sb m cq] 26)).alloc (.cells #[.string ⟨#[]⟩, .string ⟨#[]⟩, .int .i64 0, .int .i64 0, .int .i64 0, .slice none 0 0] 26)) (.slice sa n cp) n X := hW.out.below (by first | exact ((((Below.refl _ w).alloc (by first | omega | (simp; omega)) (.cells #[.string nm, .string tn, .int .i64 a, .int .i64 b, .int .i64 f, .slice sa n cp] 26)).alloc (by first | omega | (simp; omega)) (.cells #[.string nm2, .string tn2, .int .i64 a2, .int .i64 b2, .int .i64 f2, .slice sb m cq] 26)).alloc (by first | omega | (simp; omega)) (.cells #[.string ⟨#[]⟩, .string ⟨#[]⟩, .int .i64 0, .int .i64 0, .int .i64 0, .slice none 0 0] 26)) | (rw [hD]; exact ((((Below.refl _ w).alloc (by first | omega | (simp; omega)) (.cells #[.string nm, .string tn, .int .i64 a, .int .i64 b, .int .i64 f, .slice sa n cp] 26)).alloc (by first | omega | (simp; omega)) (.cells #[.string nm2, .string tn2, .int .i64 a2, .int .i64 b2, .int .i64 f2, .slice sb m cq] 26)).alloc (by first | omega | (simp; omega)) (.cells #[.string ⟨#[]⟩, .string ⟨#[]⟩, .int .i64 0, .int .i64 0, .int .i64 0, .slice none 0 0] 26))))
    go_wp2_with fail
    refine (CA.out _ W6).mono ?_
    rintro e v2 ⟨rfl, hb_v2⟩
    have cR_v2 : v2.heap[D]? = some (.cells #[.string nm, .string tn, .int .i64 a, .int .i64 b, .int .i64 f, .slice sa n cp] 26) := (hb_v2.block (D) (Array.getElem?_eq_some_iff.1 (show (((w.alloc (.cells #[.string nm, .string tn, .int .i64 a, .int .i64 b, .int .i64 f, .slice sa n cp] 26)).alloc (.cells #[.string nm2, .string tn2, .int .i64 a2, .int .i64 b2, .int .i64 f2, .slice sb m cq] 26)).alloc (.cells #[.string ⟨#[]⟩, .string ⟨#[]⟩, .int .i64 0, .int .i64 0, .int .i64 0, .slice none 0 0] 26)).heap[D]? = some (.cells #[.string nm, .string tn, .int .i64 a, .int .i64 b, .int .i64 f, .slice sa n cp] 26) from (heap_old (o := .cells #[.string ⟨#[]⟩, .string ⟨#[]⟩, .int .i64 0, .int .i64 0, .int .i64 0, .slice none 0 0] 26) (heap_old (o := .cells #[.string nm2, .string tn2, .int .i64 a2, .int .i64 b2, .int .i64 f2, .slice sb m cq] 26) (heap_new (by first | omega | (simp; omega))))))).1).trans (heap_old (o := .cells #[.string ⟨#[]⟩, .string ⟨#[]⟩, .int .i64 0, .int .i64 0, .int .i64 0, .slice none 0 0] 26) (heap_old (o := .cells #[.string nm2, .string tn2, .int .i64 a2, .int .i64 b2, .int .i64 f2, .slice sb m cq] 26) (heap_new (by first | omega | (simp; omega)))))
    have cS_v2 : v2.heap[D + 1]? = some (.cells #[.string nm2, .string tn2, .int .i64 a2, .int .i64 b2, .int .i64 f2, .slice sb m cq] 26) := (hb_v2.block (D + 1) (Array.getElem?_eq_some_iff.1 (show (((w.alloc (.cells #[.string nm, .string tn, .int .i64 a, .int .i64 b, .int .i64 f, .slice sa n cp] 26)).alloc (.cells #[.string nm2, .string tn2, .int .i64 a2, .int .i64 b2, .int .i64 f2, .slice sb m cq] 26)).alloc (.cells #[.string ⟨#[]⟩, .string ⟨#[]⟩, .int .i64 0, .int .i64 0, .int .i64 0, .slice none 0 0] 26)).heap[D + 1]? = some (.cells #[.string nm2, .string tn2, .int .i64 a2, .int .i64 b2, .int .i64 f2, .slice sb m cq] 26) from (heap_old (o := .cells #[.string ⟨#[]⟩, .string ⟨#[]⟩, .int .i64 0, .int .i64 0, .int .i64 0, .slice none 0 0] 26) (heap_new (by first | omega | (simp; omega)))))).1).trans (heap_old (o := .cells #[.string ⟨#[]⟩, .string ⟨#[]⟩, .int .i64 0, .int .i64 0, .int .i64 0, .slice none 0 0] 26) (heap_new (by first | omega | (simp; omega))))
    have cZ_v2 : v2.heap[D + 1 + 1]? = some (.cells #[.string ⟨#[]⟩, .string ⟨#[]⟩, .int .i64 0, .int .i64 0, .int .i64 0, .slice none 0 0] 26) := (hb_v2.block (D + 1 + 1) (Array.getElem?_eq_some_iff.1 (show (((w.alloc (.cells #[.string nm, .string tn, .int .i64 a, .int .i64 b, .int .i64 f, .slice sa n cp] 26)).alloc (.cells #[.string nm2, .string tn2, .int .i64 a2, .int .i64 b2, .int .i64 f2, .slice sb m cq] 26)).alloc (.cells #[.string ⟨#[]⟩, .string ⟨#[]⟩, .int .i64 0, .int .i64 0, .int .i64 0, .slice none 0 0] 26)).heap[D + 1 + 1]? = some (.cells #[.string ⟨#[]⟩, .string ⟨#[]⟩, .int .i64 0, .int .i64 0, .int .i64 0, .slice none 0 0] 26) from (heap_new (by first | omega | (simp; omega))))).1).trans (heap_new (by first | omega | (simp; omega)))
    have hw_v2 : Below D w v2 := (((((Below.refl _ w).alloc (by first | omega | (simp; omega)) (.cells #[.string nm, .string tn, .int .i64 a, .int .i64 b, .int .i64 f, .slice sa n cp] 26)).alloc (by first | omega | (simp; omega)) (.cells #[.string nm2, .string tn2, .int .i64 a2, .int .i64 b2, .int .i64 f2, .slice sb m cq] 26)).alloc (by first | omega | (simp; omega)) (.cells #[.string ⟨#[]⟩, .string ⟨#[]⟩, .int .i64 0, .int .i64 0, .int .i64 0, .slice none 0 0] 26))).trans (hb_v2.mono (by first | omega | (simp; omega)))
    clear hb_v2 y1_0 y1_1 y1_2 y1_3 y1_4 y1_5
    have ld3 : v2.heap[D + 1]? = some (.cells #[.string nm2, .string tn2, .int .i64 a2, .int .i64 b2, .int .i64 f2, .slice sb m cq] 26) := cS_v2
    have y3_0 := cell6_0 ld3
    have y3_1 := cell6_1 ld3
    have y3_2 := cell6_2 ld3
    have y3_3 := cell6_3 ld3
    have y3_4 := cell6_4 ld3
    have y3_5 := cell6_5 ld3
    clear ld3
    have W7 : Wd v2 (.slice sb m cq) m Y := hY.out.below (by first | exact hw_v2 | (rw [hD]; exact hw_v2))
    go_wp2_with fail
    refine (CB.out _ W7).mono ?_
    rintro e v4 ⟨rfl, hb_v4⟩
    have hs_v4 := hw_v2.size
    have cR_v4 : v4.heap[D]? = some (.cells #[.string nm, .string tn, .int .i64 a, .int .i64 b, .int .i64 f, .slice sa n cp] 26) := (hb_v4.block (D) (Array.getElem?_eq_some_iff.1 (show v2.heap[D]? = some (.cells #[.string nm, .string tn, .int .i64 a, .int .i64 b, .int .i64 f, .slice sa n cp] 26) from cR_v2)).1).trans cR_v2
    have cS_v4 : v4.heap[D + 1]? = some (.cells #[.string nm2, .string tn2, .int .i64 a2, .int .i64 b2, .int .i64 f2, .slice sb m cq] 26) := (hb_v4.block (D + 1) (Array.getElem?_eq_some_iff.1 (show v2.heap[D + 1]? = some (.cells #[.string nm2, .string tn2, .int .i64 a2, .int .i64 b2, .int .i64 f2, .slice sb m cq] 26) from cS_v2)).1).trans cS_v2
    have cZ_v4 : v4.heap[D + 1 + 1]? = some (.cells #[.string ⟨#[]⟩, .string ⟨#[]⟩, .int .i64 0, .int .i64 0, .int .i64 0, .slice none 0 0] 26) := (hb_v4.block (D + 1 + 1) (Array.getElem?_eq_some_iff.1 (show v2.heap[D + 1 + 1]? = some (.cells #[.string ⟨#[]⟩, .string ⟨#[]⟩, .int .i64 0, .int .i64 0, .int .i64 0, .slice none 0 0] 26) from cZ_v2)).1).trans cZ_v2
    have hw_v4 : Below D w v4 := (hw_v2).trans (hb_v4.mono (by first | omega | (simp; omega)))
    clear cR_v2 cS_v2 cZ_v2 hb_v4 y3_0 y3_1 y3_2 y3_3 y3_4 y3_5 hw_v2 hs_v4
    have ld5 : v4.heap[D]? = some (.cells #[.string nm, .string tn, .int .i64 a, .int .i64 b, .int .i64 f, .slice sa n cp] 26) := cR_v4
    have y5_0 := cell6_0 ld5
    have y5_1 := cell6_1 ld5
    have y5_2 := cell6_2 ld5
    have y5_3 := cell6_3 ld5
    have y5_4 := cell6_4 ld5
    have y5_5 := cell6_5 ld5
    clear ld5
    have ld6 : v4.heap[D + 1]? = some (.cells #[.string nm2, .string tn2, .int .i64 a2, .int .i64 b2, .int .i64 f2, .slice sb m cq] 26) := cS_v4
    have y6_0 := cell6_0 ld6
    have y6_1 := cell6_1 ld6
    have y6_2 := cell6_2 ld6
    have y6_3 := cell6_3 ld6
    have y6_4 := cell6_4 ld6
    have y6_5 := cell6_5 ld6
    clear ld6
    have hp := cZ_v4
    obtain ⟨f0, f1, f2, f3, f4, f5⟩ := free6_at hp
    obtain ⟨g0, g1, g2, g3, g4, g5⟩ := cell6_at hp
    have hE := set6_all (x0 := .string ⟨#[]⟩) (x1 := .string ⟨#[]⟩) (x2 := .int .i64 0) (x3 := .int .i64 0) (x4 := .int .i64 0) (x5 := .slice none 0 0) hp
    have HW := Lib.hid (below6 (hw_v4) (show D ≤ D + 1 + 1 by omega) (.string ⟨#[]⟩) (.string ⟨#[]⟩) (.int .i64 0) (.int .i64 0) (.int .i64 0) (.slice none 0 0))
    obtain ⟨U, hU⟩ : ∃ U, ((((((v4.setCell ⟨D + 1 + 1, 0, none⟩ (.string ⟨#[]⟩)).setCell ⟨D + 1 + 1, 1, none⟩ (.string ⟨#[]⟩)).setCell ⟨D + 1 + 1, 2, none⟩ (.int .i64 0)).setCell ⟨D + 1 + 1, 3, none⟩ (.int .i64 0)).setCell ⟨D + 1 + 1, 4, none⟩ (.int .i64 0)).setCell ⟨D + 1 + 1, 5, none⟩ (.slice none 0 0)) = U := ⟨_, rfl⟩
    rw [hU] at hE HW
    obtain ⟨z0, z1, z2, z3, z4, z5⟩ := cell6_at hE
    have HUU := Lib.hid hU
    clear hU hE hp
    go_wp2
    rw [HUU.out]
    exact bodyPost_ret (v := .tuple #[.agg #[.string ⟨#[]⟩, .string ⟨#[]⟩, .int .i64 0, .int .i64 0, .int .i64 0, .slice none 0 0], .int .i64 14]) (by simp [results, Tryz.results27, go_sem, z0, z1, z2, z3, z4, z5]) rfl ⟨rfl, by first | exact HW.out | (rw [hD]; exact HW.out)⟩
/-- A slice whose block lies behind a bound. -/
def NewS (B : Nat) (v : Value) : Prop := ∀ a n c, v = .slice (some a) n c → B ≤ a.block
theorem new_of {W : World} {base B n size : Nat} {e : TypeId} {v : Value} {xs : List Value} (h : W.ownsRow base e size v n xs) (hB : B ≤ base) : NewS B v := by
  intro a m c hv
  rcases h.2 with ⟨h1, _⟩ | ⟨g, cap, cur, h1, h2, _⟩
  · rw [h1] at hv; cases hv
  · rw [h1] at hv; cases hv; exact Nat.le_trans hB h2
theorem wd_set {W : World} {B E o n : Nat} {v x : Value} {X : Nat → Int} (h : Wd W v n X) (hN : NewS B v) (hE : E < B) : Wd (W.setCell ⟨E, o, none⟩ x) v n X := by
  rcases h with h | ⟨g, o', cap, h1, h2, h3, h4⟩
  · exact .inl h
  · have hg : B ≤ g := hN _ _ _ h1
    exact .inr ⟨g, o', cap, h1, h2, by simpa using h3, fun k hk => by
      rw [← h4 k hk]
      simp only [World.cell?]
      rw [show (W.setCell ⟨E, o, none⟩ x).heap[g]? = W.heap[g]? from set_other (by omega)]⟩
theorem own_len {W : World} {base n size : Nat} {e : TypeId} {sr : Option Addr} {mr cr : Nat} {xs : List Value} (h : W.ownsRow base e size (.slice sr mr cr) n xs) : mr = n := by
  rcases h.2 with ⟨h1, h2⟩ | ⟨g, cap, cur, h1, _⟩
  · cases h1; exact h2.symm
  · cases h1; rfl

def joItrue (D : Nat) (nm tn : ByteArray) (a b f f2 : Int) (sa : Option Addr) (n cp : Nat) : Nat → Value → World → Prop
  | 0, v, _ => v = .pointer (some ⟨D + 1, 4, none⟩)
  | 1, v, _ => v = .int .i64 f2
  | 2, v, _ => v = .agg #[.string nm, .string tn, .int .i64 a, .int .i64 b, .int .i64 f, .slice sa n cp]
  | 3, v, _ => v = .int .i64 (f + n - 1)
  | 4, v, _ => v = .int .i64 (f + n)
  | 5, v, _ => v = .bool true
  | 6, v, _ => v = .bool true
  | _, _, _ => True

theorem joItrue_up (D : Nat) (nm tn : ByteArray) (a b f f2 : Int) (sa : Option Addr) (n cp : Nat) : ∀ (j : Nat) (v : Value) (A B : World), Below A.heap.size A B → joItrue D nm tn a b f f2 sa n cp j v A → joItrue D nm tn a b f f2 sa n cp j v B
  | 0, _, _, _, _, h => h
  | 1, _, _, _, _, h => h
  | 2, _, _, _, _, h => h
  | 3, _, _, _, _, h => h
  | 4, _, _, _, _, h => h
  | 5, _, _, _, _, h => h
  | 6, _, _, _, _, h => h
  | _ + 7, _, _, _, _, _ => trivial

def joIfalse (D : Nat) (nm tn : ByteArray) (a b f f2 : Int) (sa : Option Addr) (n cp : Nat) : Nat → Value → World → Prop
  | 0, v, _ => v = .pointer (some ⟨D + 1, 4, none⟩)
  | 1, v, _ => v = .int .i64 f2
  | 2, v, _ => v = .agg #[.string nm, .string tn, .int .i64 a, .int .i64 b, .int .i64 f, .slice sa n cp]
  | 3, v, _ => v = .int .i64 (f + n - 1)
  | 4, v, _ => v = .int .i64 (f + n)
  | 5, v, _ => v = .bool false
  | 6, v, _ => v = .bool false
  | _, _, _ => True

theorem joIfalse_up (D : Nat) (nm tn : ByteArray) (a b f f2 : Int) (sa : Option Addr) (n cp : Nat) : ∀ (j : Nat) (v : Value) (A B : World), Below A.heap.size A B → joIfalse D nm tn a b f f2 sa n cp j v A → joIfalse D nm tn a b f f2 sa n cp j v B
  | 0, _, _, _, _, h => h
  | 1, _, _, _, _, h => h
  | 2, _, _, _, _, h => h
  | 3, _, _, _, _, h => h
  | 4, _, _, _, _, h => h
  | 5, _, _, _, _, h => h
  | 6, _, _, _, _, h => h
  | _ + 7, _, _, _, _, _ => trivial


set_option maxRecDepth 100000 in
set_option maxHeartbeats 4000000 in
theorem join_order (nm tn : ByteArray) (a b f : Int) (sa : Option Addr) (n cp : Nat) (X : Nat → Int) (nm2 : ByteArray) (f2 : Int) (sb : Option Addr) (m cq : Nat) (Y : Nat → Int) (s1 : nm.size ≤ 1099511627776) (s2 : tn.size ≤ 1099511627776) (hn : n ≤ 1099511627776) (t1 : nm2.size ≤ 1099511627776) (hm : m ≤ 1099511627776) (h0 : rkE nm tn a b f n X = 0) (h1 : rkE nm2 tn a b f2 m Y = 0) (h2 : ¬ f2 = f + n) (w : World) (hW1 : Wd w (.slice sa n cp) n X) (hW2 : Wd w (.slice sb m cq) m Y) :
    Calls Tryz.prog 27 #[.agg #[.string nm, .string tn, .int .i64 a, .int .i64 b, .int .i64 f, .slice sa n cp], .agg #[.string nm2, .string tn, .int .i64 a, .int .i64 b, .int .i64 f2, .slice sb m cq]] w fun e w' => e = .returned (.tuple #[.agg #[.string ⟨#[]⟩, .string ⟨#[]⟩, .int .i64 0, .int .i64 0, .int .i64 0, .slice none 0 0], .int .i64 6]) ∧ Below w.heap.size w w' := by
  have CA := Lib.hid (fun W h => rcheck_c nm tn a b f (.slice sa n cp) n X s1 s2 hn W h)
  have CB := Lib.hid (fun W h => rcheck_c nm2 tn a b f2 (.slice sb m cq) m Y t1 s2 hm W h)
  rw [h0] at CA
  rw [h1] at CB
  obtain ⟨_, _, _, hf, hn0, hn1, _⟩ := rk_ok h0
  obtain ⟨_, _, _, hf2, hm0, hm1, _⟩ := rk_ok h1
  have LA := Lib.hid (fun W h => last_c nm tn a b f (.slice sa n cp) n X hf hn1 W h)
  have fr := fr_ne1 a b
  have HQ := Lib.hid (wrap_in (q := f + (n : Int)) (by omega) (by omega))
  have q9 := wrap_in (q := (n : Int) + (m : Int)) (by omega) (by omega)
  have HNE := Lib.hid (show ((f2 != f + (n : Int)) : Bool) = true by rw [bne_iff_ne]; omega)
  clear h0 h1
  have hW := Lib.hid hW1
  have hY := Lib.hid hW2
  clear hW1 hW2
  obtain ⟨D, hD⟩ : ∃ D, w.heap.size = D := ⟨_, rfl⟩
  go_enter Tryz.func27, Tryz.ntmps27
  have ld1 : (((w.alloc (.cells #[.string nm, .string tn, .int .i64 a, .int .i64 b, .int .i64 f, .slice sa n cp] 26)).alloc (.cells #[.string nm2, .string tn, .int .i64 a, .int .i64 b, .int .i64 f2, .slice sb m cq] 26)).alloc (.cells #[.string ⟨#[]⟩, .string ⟨#[]⟩, .int .i64 0, .int .i64 0, .int .i64 0, .slice none 0 0] 26)).heap[D]? = some (.cells #[.string nm, .string tn, .int .i64 a, .int .i64 b, .int .i64 f, .slice sa n cp] 26) := (heap_old (o := .cells #[.string ⟨#[]⟩, .string ⟨#[]⟩, .int .i64 0, .int .i64 0, .int .i64 0, .slice none 0 0] 26) (heap_old (o := .cells #[.string nm2, .string tn, .int .i64 a, .int .i64 b, .int .i64 f2, .slice sb m cq] 26) (heap_new (by first | omega | (simp; omega)))))
  have y1_0 := cell6_0 ld1
  have y1_1 := cell6_1 ld1
  have y1_2 := cell6_2 ld1
  have y1_3 := cell6_3 ld1
  have y1_4 := cell6_4 ld1
  have y1_5 := cell6_5 ld1
  clear ld1
  have W8 : Wd (((w.alloc (.cells #[.string nm, .string tn, .int .i64 a, .int .i64 b, .int .i64 f, .slice sa n cp] 26)).alloc (.cells #[.string nm2, .string tn, .int .i64 a, .int .i64 b, .int .i64 f2, .slice sb m cq] 26)).alloc (.cells #[.string ⟨#[]⟩, .string ⟨#[]⟩, .int .i64 0, .int .i64 0, .int .i64 0, .slice none 0 0] 26)) (.slice sa n cp) n X := hW.out.below (by first | exact ((((Below.refl _ w).alloc (by first | omega | (simp; omega)) (.cells #[.string nm, .string tn, .int .i64 a, .int .i64 b, .int .i64 f, .slice sa n cp] 26)).alloc (by first | omega | (simp; omega)) (.cells #[.string nm2, .string tn, .int .i64 a, .int .i64 b, .int .i64 f2, .slice sb m cq] 26)).alloc (by first | omega | (simp; omega)) (.cells #[.string ⟨#[]⟩, .string ⟨#[]⟩, .int .i64 0, .int .i64 0, .int .i64 0, .slice none 0 0] 26)) | (rw [hD]; exact ((((Below.refl _ w).alloc (by first | omega | (simp; omega)) (.cells #[.string nm, .string tn, .int .i64 a, .int .i64 b, .int .i64 f, .slice sa n cp] 26)).alloc (by first | omega | (simp; omega)) (.cells #[.string nm2, .string tn, .int .i64 a, .int .i64 b, .int .i64 f2, .slice sb m cq] 26)).alloc (by first | omega | (simp; omega)) (.cells #[.string ⟨#[]⟩, .string ⟨#[]⟩, .int .i64 0, .int .i64 0, .int .i64 0, .slice none 0 0] 26))))
  go_wp2_with fail
  refine (CA.out _ W8).mono ?_
  rintro e v2 ⟨rfl, hb_v2⟩
  have cR_v2 : v2.heap[D]? = some (.cells #[.string nm, .string tn, .int .i64 a, .int .i64 b, .int .i64 f, .slice sa n cp] 26) := (hb_v2.block (D) (Array.getElem?_eq_some_iff.1 (show (((w.alloc (.cells #[.string nm, .string tn, .int .i64 a, .int .i64 b, .int .i64 f, .slice sa n cp] 26)).alloc (.cells #[.string nm2, .string tn, .int .i64 a, .int .i64 b, .int .i64 f2, .slice sb m cq] 26)).alloc (.cells #[.string ⟨#[]⟩, .string ⟨#[]⟩, .int .i64 0, .int .i64 0, .int .i64 0, .slice none 0 0] 26)).heap[D]? = some (.cells #[.string nm, .string tn, .int .i64 a, .int .i64 b, .int .i64 f, .slice sa n cp] 26) from (heap_old (o := .cells #[.string ⟨#[]⟩, .string ⟨#[]⟩, .int .i64 0, .int .i64 0, .int .i64 0, .slice none 0 0] 26) (heap_old (o := .cells #[.string nm2, .string tn, .int .i64 a, .int .i64 b, .int .i64 f2, .slice sb m cq] 26) (heap_new (by first | omega | (simp; omega))))))).1).trans (heap_old (o := .cells #[.string ⟨#[]⟩, .string ⟨#[]⟩, .int .i64 0, .int .i64 0, .int .i64 0, .slice none 0 0] 26) (heap_old (o := .cells #[.string nm2, .string tn, .int .i64 a, .int .i64 b, .int .i64 f2, .slice sb m cq] 26) (heap_new (by first | omega | (simp; omega)))))
  have cS_v2 : v2.heap[D + 1]? = some (.cells #[.string nm2, .string tn, .int .i64 a, .int .i64 b, .int .i64 f2, .slice sb m cq] 26) := (hb_v2.block (D + 1) (Array.getElem?_eq_some_iff.1 (show (((w.alloc (.cells #[.string nm, .string tn, .int .i64 a, .int .i64 b, .int .i64 f, .slice sa n cp] 26)).alloc (.cells #[.string nm2, .string tn, .int .i64 a, .int .i64 b, .int .i64 f2, .slice sb m cq] 26)).alloc (.cells #[.string ⟨#[]⟩, .string ⟨#[]⟩, .int .i64 0, .int .i64 0, .int .i64 0, .slice none 0 0] 26)).heap[D + 1]? = some (.cells #[.string nm2, .string tn, .int .i64 a, .int .i64 b, .int .i64 f2, .slice sb m cq] 26) from (heap_old (o := .cells #[.string ⟨#[]⟩, .string ⟨#[]⟩, .int .i64 0, .int .i64 0, .int .i64 0, .slice none 0 0] 26) (heap_new (by first | omega | (simp; omega)))))).1).trans (heap_old (o := .cells #[.string ⟨#[]⟩, .string ⟨#[]⟩, .int .i64 0, .int .i64 0, .int .i64 0, .slice none 0 0] 26) (heap_new (by first | omega | (simp; omega))))
  have cZ_v2 : v2.heap[D + 1 + 1]? = some (.cells #[.string ⟨#[]⟩, .string ⟨#[]⟩, .int .i64 0, .int .i64 0, .int .i64 0, .slice none 0 0] 26) := (hb_v2.block (D + 1 + 1) (Array.getElem?_eq_some_iff.1 (show (((w.alloc (.cells #[.string nm, .string tn, .int .i64 a, .int .i64 b, .int .i64 f, .slice sa n cp] 26)).alloc (.cells #[.string nm2, .string tn, .int .i64 a, .int .i64 b, .int .i64 f2, .slice sb m cq] 26)).alloc (.cells #[.string ⟨#[]⟩, .string ⟨#[]⟩, .int .i64 0, .int .i64 0, .int .i64 0, .slice none 0 0] 26)).heap[D + 1 + 1]? = some (.cells #[.string ⟨#[]⟩, .string ⟨#[]⟩, .int .i64 0, .int .i64 0, .int .i64 0, .slice none 0 0] 26) from (heap_new (by first | omega | (simp; omega))))).1).trans (heap_new (by first | omega | (simp; omega)))
  have hw_v2 : Below D w v2 := (((((Below.refl _ w).alloc (by first | omega | (simp; omega)) (.cells #[.string nm, .string tn, .int .i64 a, .int .i64 b, .int .i64 f, .slice sa n cp] 26)).alloc (by first | omega | (simp; omega)) (.cells #[.string nm2, .string tn, .int .i64 a, .int .i64 b, .int .i64 f2, .slice sb m cq] 26)).alloc (by first | omega | (simp; omega)) (.cells #[.string ⟨#[]⟩, .string ⟨#[]⟩, .int .i64 0, .int .i64 0, .int .i64 0, .slice none 0 0] 26))).trans (hb_v2.mono (by first | omega | (simp; omega)))
  clear hb_v2 y1_0 y1_1 y1_2 y1_3 y1_4 y1_5
  have ld3 : v2.heap[D + 1]? = some (.cells #[.string nm2, .string tn, .int .i64 a, .int .i64 b, .int .i64 f2, .slice sb m cq] 26) := cS_v2
  have y3_0 := cell6_0 ld3
  have y3_1 := cell6_1 ld3
  have y3_2 := cell6_2 ld3
  have y3_3 := cell6_3 ld3
  have y3_4 := cell6_4 ld3
  have y3_5 := cell6_5 ld3
  clear ld3
  have W9 : Wd v2 (.slice sb m cq) m Y := hY.out.below (by first | exact hw_v2 | (rw [hD]; exact hw_v2))
  go_wp2_with fail
  refine (CB.out _ W9).mono ?_
  rintro e v4 ⟨rfl, hb_v4⟩
  have hs_v4 := hw_v2.size
  have cR_v4 : v4.heap[D]? = some (.cells #[.string nm, .string tn, .int .i64 a, .int .i64 b, .int .i64 f, .slice sa n cp] 26) := (hb_v4.block (D) (Array.getElem?_eq_some_iff.1 (show v2.heap[D]? = some (.cells #[.string nm, .string tn, .int .i64 a, .int .i64 b, .int .i64 f, .slice sa n cp] 26) from cR_v2)).1).trans cR_v2
  have cS_v4 : v4.heap[D + 1]? = some (.cells #[.string nm2, .string tn, .int .i64 a, .int .i64 b, .int .i64 f2, .slice sb m cq] 26) := (hb_v4.block (D + 1) (Array.getElem?_eq_some_iff.1 (show v2.heap[D + 1]? = some (.cells #[.string nm2, .string tn, .int .i64 a, .int .i64 b, .int .i64 f2, .slice sb m cq] 26) from cS_v2)).1).trans cS_v2
  have cZ_v4 : v4.heap[D + 1 + 1]? = some (.cells #[.string ⟨#[]⟩, .string ⟨#[]⟩, .int .i64 0, .int .i64 0, .int .i64 0, .slice none 0 0] 26) := (hb_v4.block (D + 1 + 1) (Array.getElem?_eq_some_iff.1 (show v2.heap[D + 1 + 1]? = some (.cells #[.string ⟨#[]⟩, .string ⟨#[]⟩, .int .i64 0, .int .i64 0, .int .i64 0, .slice none 0 0] 26) from cZ_v2)).1).trans cZ_v2
  have hw_v4 : Below D w v4 := (hw_v2).trans (hb_v4.mono (by first | omega | (simp; omega)))
  clear cR_v2 cS_v2 cZ_v2 hb_v4 y3_0 y3_1 y3_2 y3_3 y3_4 y3_5 hw_v2 hs_v4
  have ld5 : v4.heap[D]? = some (.cells #[.string nm, .string tn, .int .i64 a, .int .i64 b, .int .i64 f, .slice sa n cp] 26) := cR_v4
  have y5_0 := cell6_0 ld5
  have y5_1 := cell6_1 ld5
  have y5_2 := cell6_2 ld5
  have y5_3 := cell6_3 ld5
  have y5_4 := cell6_4 ld5
  have y5_5 := cell6_5 ld5
  clear ld5
  have ld6 : v4.heap[D + 1]? = some (.cells #[.string nm2, .string tn, .int .i64 a, .int .i64 b, .int .i64 f2, .slice sb m cq] 26) := cS_v4
  have y6_0 := cell6_0 ld6
  have y6_1 := cell6_1 ld6
  have y6_2 := cell6_2 ld6
  have y6_3 := cell6_3 ld6
  have y6_4 := cell6_4 ld6
  have y6_5 := cell6_5 ld6
  clear ld6
  have W10 : Wd v4 (.slice sa n cp) n X := hW.out.below (by first | exact hw_v4 | (rw [hD]; exact hw_v4))
  obtain ⟨V9, hV9⟩ : ∃ V, v4 = V := ⟨_, rfl⟩
  have hw_V9 : Below D w V9 := by rw [← hV9]; exact hw_v4
  have HR_V9 := Lib.hid (show V9.heap[D]? = some (.cells #[.string nm, .string tn, .int .i64 a, .int .i64 b, .int .i64 f, .slice sa n cp] 26) by rw [← hV9]; exact cR_v4)
  have HS_V9 := Lib.hid (show V9.heap[D + 1]? = some (.cells #[.string nm2, .string tn, .int .i64 a, .int .i64 b, .int .i64 f2, .slice sb m cq] 26) by rw [← hV9]; exact cS_v4)
  have HZ_V9 := Lib.hid (show V9.heap[D + 1 + 1]? = some (.cells #[.string ⟨#[]⟩, .string ⟨#[]⟩, .int .i64 0, .int .i64 0, .int .i64 0, .slice none 0 0] 26) by rw [← hV9]; exact cZ_v4)
  have HWR := Lib.hid (show Wd V9 (.slice sa n cp) n X by rw [← hV9]; exact W10)
  clear W10
  clear cR_v4 cS_v4 cZ_v4 hw_v4
  have HEV9 := Lib.hid hV9
  clear hV9
  go_upto_region 9 with fail
  rw [HEV9.out]
  clear y5_0 y5_1 y5_2 y5_3 y5_4 y5_5 y6_0 y6_1 y6_2 y6_3 y6_4 y6_5
  refine wp_region_slots_at rfl rfl (fun base ys => ((((((base.set 35 (ys 0)).set 36 (ys 1)).set 37 (ys 2)).set 38 (ys 3)).set 39 (ys 4)).set 40 (ys 5)).set 34 (ys 6)) (BelowI _ (fun A => Below V9.heap.size V9 A) (joItrue D nm tn a b f f2 sa n cp)) (fun _ => undef) (by kernel_rfl) (below_start (R := fun A => Below V9.heap.size V9 A) ⟨rfl, rfl, rfl, Nat.le_refl _, fun _ _ => rfl⟩) ?h9
  case h9 =>
    intro FF hFF
    simp only [List.set_cons_succ, List.set_cons_zero] at hFF
    subst hFF
    refine ⟨rfl, ?_, ?_⟩
    refine ⟨?_, ?_⟩
    · refine SlotStep.below (fun A B hb h => h.trans (hb.mono h.size)) (joItrue_up D nm tn a b f f2 sa n cp) ?_
      intro ys W hR hd K hK
      go_simp
      have hK2 := hK (.pointer (some ⟨D + 1, 4, none⟩)) _ (Below.refl _ _) rfl
      simp (config := { decide := true }) only [upd, if_true, if_false] at hK2
      exact hK2
    refine ⟨?_, ?_⟩
    · refine SlotStep.below (fun A B hb h => h.trans (hb.mono h.size)) (joItrue_up D nm tn a b f f2 sa n cp) ?_
      intro ys W hR hd K hK
      have dd0 : ys 0 = (.pointer (some ⟨D + 1, 4, none⟩)) := hd 0 (by kernel_rfl) (by decide)
      have hl := (hR.block (D + 1) (Array.getElem?_eq_some_iff.1 HS_V9.out).1).trans HS_V9.out
      have c4 := cell6_4 hl
      clear hl
      go_simp
      have hK2 := hK (.int .i64 f2) _ (Below.refl _ _) rfl
      simp (config := { decide := true }) only [upd, if_true, if_false, dd0] at hK2
      exact hK2
    refine ⟨?_, ?_⟩
    · refine SlotStep.below (fun A B hb h => h.trans (hb.mono h.size)) (joItrue_up D nm tn a b f f2 sa n cp) ?_
      intro ys W hR hd K hK
      have hl := (hR.block (D) (Array.getElem?_eq_some_iff.1 HR_V9.out).1).trans HR_V9.out
      have c0 := cell6_0 hl
      have c1 := cell6_1 hl
      have c2 := cell6_2 hl
      have c3 := cell6_3 hl
      have c4 := cell6_4 hl
      have c5 := cell6_5 hl
      clear hl
      go_simp
      have hK2 := hK (.agg #[.string nm, .string tn, .int .i64 a, .int .i64 b, .int .i64 f, .slice sa n cp]) _ (Below.refl _ _) rfl
      simp (config := { decide := true }) only [upd, if_true, if_false] at hK2
      exact hK2
    refine ⟨?_, ?_⟩
    · refine SlotStep.below (fun A B hb h => h.trans (hb.mono h.size)) (joItrue_up D nm tn a b f f2 sa n cp) ?_
      intro ys W hR hd K hK
      have dd2 : ys 2 = (.agg #[.string nm, .string tn, .int .i64 a, .int .i64 b, .int .i64 f, .slice sa n cp]) := hd 2 (by kernel_rfl) (by decide)
      go_simp
      refine (LA.out W (HWR.out.below hR)).mono ?_
      rintro e w5 ⟨rfl, hb5⟩
      have hK2 := hK (.int .i64 (f + n - 1)) _ hb5 rfl
      simp (config := { decide := true }) only [upd, if_true, if_false, dd2] at hK2
      exact hK2
    refine ⟨?_, ?_⟩
    · refine SlotStep.below (fun A B hb h => h.trans (hb.mono h.size)) (joItrue_up D nm tn a b f f2 sa n cp) ?_
      intro ys W hR hd K hK
      have dd3 : ys 3 = (.int .i64 (f + n - 1)) := hd 3 (by kernel_rfl) (by decide)
      have wq := HQ.out
      go_simp
      have hK2 := hK (.int .i64 (f + n)) _ (Below.refl _ _) rfl
      simp (config := { decide := true }) only [upd, if_true, if_false, dd3] at hK2
      exact hK2
    refine ⟨?_, ?_⟩
    · refine SlotStep.below (fun A B hb h => h.trans (hb.mono h.size)) (joItrue_up D nm tn a b f f2 sa n cp) ?_
      intro ys W hR hd K hK
      have dd1 : ys 1 = (.int .i64 f2) := hd 1 (by kernel_rfl) (by decide)
      have dd4 : ys 4 = (.int .i64 (f + n)) := hd 4 (by kernel_rfl) (by decide)
      have wb := HNE.out
      go_simp
      have hK2 := hK (.bool true) _ (Below.refl _ _) rfl
      simp (config := { decide := true }) only [upd, if_true, if_false, dd1, dd4] at hK2
      exact hK2
    refine ⟨?_, ?_⟩
    · refine SlotStep.below (fun A B hb h => h.trans (hb.mono h.size)) (joItrue_up D nm tn a b f f2 sa n cp) ?_
      intro ys W hR hd K hK
      have dd5 : ys 5 = (.bool true) := hd 5 (by kernel_rfl) (by decide)
      go_simp
      have hK2 := hK (.bool true) _ (Below.refl _ _) rfl
      simp (config := { decide := true }) only [upd, if_true, if_false, dd5] at hK2
      exact hK2
    trivial
    · intro L5 ys5 U9 hL5 hI5
      obtain ⟨hR5, hj5⟩ := hI5
      have d6_U9 : ys5 6 = (.bool true) := hj5 6 (by decide) (hL5 6 (by decide))
      simp only [d6_U9]
      have cR_U9 : U9.heap[D]? = some (.cells #[.string nm, .string tn, .int .i64 a, .int .i64 b, .int .i64 f, .slice sa n cp] 26) := (hR5.block (D) (Array.getElem?_eq_some_iff.1 HR_V9.out).1).trans HR_V9.out
      have cS_U9 : U9.heap[D + 1]? = some (.cells #[.string nm2, .string tn, .int .i64 a, .int .i64 b, .int .i64 f2, .slice sb m cq] 26) := (hR5.block (D + 1) (Array.getElem?_eq_some_iff.1 HS_V9.out).1).trans HS_V9.out
      have cZ_U9 : U9.heap[D + 1 + 1]? = some (.cells #[.string ⟨#[]⟩, .string ⟨#[]⟩, .int .i64 0, .int .i64 0, .int .i64 0, .slice none 0 0] 26) := (hR5.block (D + 1 + 1) (Array.getElem?_eq_some_iff.1 HZ_V9.out).1).trans HZ_V9.out
      have hw_U9 : Below D w U9 := hw_V9.trans (hR5.mono (by have := hw_V9.size; first | omega | (simp; omega)))
      clear hj5 hL5 hR5 hw_V9 d6_U9 HR_V9 HS_V9 HZ_V9
      have hp := cZ_U9
      obtain ⟨f0, f1, f2, f3, f4, f5⟩ := free6_at hp
      obtain ⟨g0, g1, g2, g3, g4, g5⟩ := cell6_at hp
      have hE := set6_all (x0 := .string ⟨#[]⟩) (x1 := .string ⟨#[]⟩) (x2 := .int .i64 0) (x3 := .int .i64 0) (x4 := .int .i64 0) (x5 := .slice none 0 0) hp
      have HW := Lib.hid (below6 (hw_U9) (show D ≤ D + 1 + 1 by omega) (.string ⟨#[]⟩) (.string ⟨#[]⟩) (.int .i64 0) (.int .i64 0) (.int .i64 0) (.slice none 0 0))
      obtain ⟨U, hU⟩ : ∃ U, ((((((U9.setCell ⟨D + 1 + 1, 0, none⟩ (.string ⟨#[]⟩)).setCell ⟨D + 1 + 1, 1, none⟩ (.string ⟨#[]⟩)).setCell ⟨D + 1 + 1, 2, none⟩ (.int .i64 0)).setCell ⟨D + 1 + 1, 3, none⟩ (.int .i64 0)).setCell ⟨D + 1 + 1, 4, none⟩ (.int .i64 0)).setCell ⟨D + 1 + 1, 5, none⟩ (.slice none 0 0)) = U := ⟨_, rfl⟩
      rw [hU] at hE HW
      obtain ⟨z0, z1, z2, z3, z4, z5⟩ := cell6_at hE
      have HUU := Lib.hid hU
      clear hU hE hp
      go_wp2
      rw [HUU.out]
      exact bodyPost_ret (v := .tuple #[.agg #[.string ⟨#[]⟩, .string ⟨#[]⟩, .int .i64 0, .int .i64 0, .int .i64 0, .slice none 0 0], .int .i64 6]) (by simp [results, Tryz.results27, go_sem, z0, z1, z2, z3, z4, z5]) rfl ⟨rfl, by first | exact HW.out | (rw [hD]; exact HW.out)⟩

set_option maxRecDepth 100000 in
set_option maxHeartbeats 4000000 in
theorem join_ok (nm tn : ByteArray) (a b f : Int) (sa : Option Addr) (n cp : Nat) (X : Nat → Int) (nm2 : ByteArray) (f2 : Int) (sb : Option Addr) (m cq : Nat) (Y : Nat → Int) (s1 : nm.size ≤ 1099511627776) (s2 : tn.size ≤ 1099511627776) (hn : n ≤ 1099511627776) (t1 : nm2.size ≤ 1099511627776) (hm : m ≤ 1099511627776) (h0 : rkE nm tn a b f n X = 0) (h1 : rkE nm2 tn a b f2 m Y = 0) (h2 : f2 = f + n) (h3 : n + m ≤ 128) (w : World) (hW1 : Wd w (.slice sa n cp) n X) (hW2 : Wd w (.slice sb m cq) m Y) :
    Calls Tryz.prog 27 #[.agg #[.string nm, .string tn, .int .i64 a, .int .i64 b, .int .i64 f, .slice sa n cp], .agg #[.string nm2, .string tn, .int .i64 a, .int .i64 b, .int .i64 f2, .slice sb m cq]] w fun e w' => (∃ sr cr, e = .returned (.tuple #[.agg #[.string nm, .string tn, .int .i64 a, .int .i64 b, .int .i64 f, .slice sr (n + m) cr], .int .i64 0]) ∧ Wd w' (.slice sr (n + m) cr) (n + m) (fun k => if k < n then X k else Y (k - n)) ∧ NewS w.heap.size (.slice sr (n + m) cr)) ∧ Below w.heap.size w w' := by
  have CA := Lib.hid (fun W h => rcheck_c nm tn a b f (.slice sa n cp) n X s1 s2 hn W h)
  have CB := Lib.hid (fun W h => rcheck_c nm2 tn a b f2 (.slice sb m cq) m Y t1 s2 hm W h)
  rw [h0] at CA
  rw [h1] at CB
  obtain ⟨_, _, _, hf, hn0, hn1, _⟩ := rk_ok h0
  obtain ⟨_, _, _, hf2, hm0, hm1, _⟩ := rk_ok h1
  have LA := Lib.hid (fun W h => last_c nm tn a b f (.slice sa n cp) n X hf hn1 W h)
  have fr := fr_ne1 a b
  have HQ := Lib.hid (wrap_in (q := f + (n : Int)) (by omega) (by omega))
  have q9 := wrap_in (q := (n : Int) + (m : Int)) (by omega) (by omega)
  have HNE := Lib.hid (show ((f2 != f + (n : Int)) : Bool) = false by rw [h2]; simp)
  have g9 : ¬ (128 : Int) < (n : Int) + (m : Int) := by omega
  clear h0 h1 hf hf2 h2
  have hW := Lib.hid hW1
  have hY := Lib.hid hW2
  clear hW1 hW2
  obtain ⟨D, hD⟩ : ∃ D, w.heap.size = D := ⟨_, rfl⟩
  go_enter Tryz.func27, Tryz.ntmps27
  have ld1 : (((w.alloc (.cells #[.string nm, .string tn, .int .i64 a, .int .i64 b, .int .i64 f, .slice sa n cp] 26)).alloc (.cells #[.string nm2, .string tn, .int .i64 a, .int .i64 b, .int .i64 f2, .slice sb m cq] 26)).alloc (.cells #[.string ⟨#[]⟩, .string ⟨#[]⟩, .int .i64 0, .int .i64 0, .int .i64 0, .slice none 0 0] 26)).heap[D]? = some (.cells #[.string nm, .string tn, .int .i64 a, .int .i64 b, .int .i64 f, .slice sa n cp] 26) := (heap_old (o := .cells #[.string ⟨#[]⟩, .string ⟨#[]⟩, .int .i64 0, .int .i64 0, .int .i64 0, .slice none 0 0] 26) (heap_old (o := .cells #[.string nm2, .string tn, .int .i64 a, .int .i64 b, .int .i64 f2, .slice sb m cq] 26) (heap_new (by first | omega | (simp; omega)))))
  have y1_0 := cell6_0 ld1
  have y1_1 := cell6_1 ld1
  have y1_2 := cell6_2 ld1
  have y1_3 := cell6_3 ld1
  have y1_4 := cell6_4 ld1
  have y1_5 := cell6_5 ld1
  clear ld1
  have W11 : Wd (((w.alloc (.cells #[.string nm, .string tn, .int .i64 a, .int .i64 b, .int .i64 f, .slice sa n cp] 26)).alloc (.cells #[.string nm2, .string tn, .int .i64 a, .int .i64 b, .int .i64 f2, .slice sb m cq] 26)).alloc (.cells #[.string ⟨#[]⟩, .string ⟨#[]⟩, .int .i64 0, .int .i64 0, .int .i64 0, .slice none 0 0] 26)) (.slice sa n cp) n X := hW.out.below (by first | exact ((((Below.refl _ w).alloc (by first | omega | (simp; omega)) (.cells #[.string nm, .string tn, .int .i64 a, .int .i64 b, .int .i64 f, .slice sa n cp] 26)).alloc (by first | omega | (simp; omega)) (.cells #[.string nm2, .string tn, .int .i64 a, .int .i64 b, .int .i64 f2, .slice sb m cq] 26)).alloc (by first | omega | (simp; omega)) (.cells #[.string ⟨#[]⟩, .string ⟨#[]⟩, .int .i64 0, .int .i64 0, .int .i64 0, .slice none 0 0] 26)) | (rw [hD]; exact ((((Below.refl _ w).alloc (by first | omega | (simp; omega)) (.cells #[.string nm, .string tn, .int .i64 a, .int .i64 b, .int .i64 f, .slice sa n cp] 26)).alloc (by first | omega | (simp; omega)) (.cells #[.string nm2, .string tn, .int .i64 a, .int .i64 b, .int .i64 f2, .slice sb m cq] 26)).alloc (by first | omega | (simp; omega)) (.cells #[.string ⟨#[]⟩, .string ⟨#[]⟩, .int .i64 0, .int .i64 0, .int .i64 0, .slice none 0 0] 26))))
  go_wp2_with fail
  refine (CA.out _ W11).mono ?_
  rintro e v2 ⟨rfl, hb_v2⟩
  have cR_v2 : v2.heap[D]? = some (.cells #[.string nm, .string tn, .int .i64 a, .int .i64 b, .int .i64 f, .slice sa n cp] 26) := (hb_v2.block (D) (Array.getElem?_eq_some_iff.1 (show (((w.alloc (.cells #[.string nm, .string tn, .int .i64 a, .int .i64 b, .int .i64 f, .slice sa n cp] 26)).alloc (.cells #[.string nm2, .string tn, .int .i64 a, .int .i64 b, .int .i64 f2, .slice sb m cq] 26)).alloc (.cells #[.string ⟨#[]⟩, .string ⟨#[]⟩, .int .i64 0, .int .i64 0, .int .i64 0, .slice none 0 0] 26)).heap[D]? = some (.cells #[.string nm, .string tn, .int .i64 a, .int .i64 b, .int .i64 f, .slice sa n cp] 26) from (heap_old (o := .cells #[.string ⟨#[]⟩, .string ⟨#[]⟩, .int .i64 0, .int .i64 0, .int .i64 0, .slice none 0 0] 26) (heap_old (o := .cells #[.string nm2, .string tn, .int .i64 a, .int .i64 b, .int .i64 f2, .slice sb m cq] 26) (heap_new (by first | omega | (simp; omega))))))).1).trans (heap_old (o := .cells #[.string ⟨#[]⟩, .string ⟨#[]⟩, .int .i64 0, .int .i64 0, .int .i64 0, .slice none 0 0] 26) (heap_old (o := .cells #[.string nm2, .string tn, .int .i64 a, .int .i64 b, .int .i64 f2, .slice sb m cq] 26) (heap_new (by first | omega | (simp; omega)))))
  have cS_v2 : v2.heap[D + 1]? = some (.cells #[.string nm2, .string tn, .int .i64 a, .int .i64 b, .int .i64 f2, .slice sb m cq] 26) := (hb_v2.block (D + 1) (Array.getElem?_eq_some_iff.1 (show (((w.alloc (.cells #[.string nm, .string tn, .int .i64 a, .int .i64 b, .int .i64 f, .slice sa n cp] 26)).alloc (.cells #[.string nm2, .string tn, .int .i64 a, .int .i64 b, .int .i64 f2, .slice sb m cq] 26)).alloc (.cells #[.string ⟨#[]⟩, .string ⟨#[]⟩, .int .i64 0, .int .i64 0, .int .i64 0, .slice none 0 0] 26)).heap[D + 1]? = some (.cells #[.string nm2, .string tn, .int .i64 a, .int .i64 b, .int .i64 f2, .slice sb m cq] 26) from (heap_old (o := .cells #[.string ⟨#[]⟩, .string ⟨#[]⟩, .int .i64 0, .int .i64 0, .int .i64 0, .slice none 0 0] 26) (heap_new (by first | omega | (simp; omega)))))).1).trans (heap_old (o := .cells #[.string ⟨#[]⟩, .string ⟨#[]⟩, .int .i64 0, .int .i64 0, .int .i64 0, .slice none 0 0] 26) (heap_new (by first | omega | (simp; omega))))
  have cZ_v2 : v2.heap[D + 1 + 1]? = some (.cells #[.string ⟨#[]⟩, .string ⟨#[]⟩, .int .i64 0, .int .i64 0, .int .i64 0, .slice none 0 0] 26) := (hb_v2.block (D + 1 + 1) (Array.getElem?_eq_some_iff.1 (show (((w.alloc (.cells #[.string nm, .string tn, .int .i64 a, .int .i64 b, .int .i64 f, .slice sa n cp] 26)).alloc (.cells #[.string nm2, .string tn, .int .i64 a, .int .i64 b, .int .i64 f2, .slice sb m cq] 26)).alloc (.cells #[.string ⟨#[]⟩, .string ⟨#[]⟩, .int .i64 0, .int .i64 0, .int .i64 0, .slice none 0 0] 26)).heap[D + 1 + 1]? = some (.cells #[.string ⟨#[]⟩, .string ⟨#[]⟩, .int .i64 0, .int .i64 0, .int .i64 0, .slice none 0 0] 26) from (heap_new (by first | omega | (simp; omega))))).1).trans (heap_new (by first | omega | (simp; omega)))
  have hw_v2 : Below D w v2 := (((((Below.refl _ w).alloc (by first | omega | (simp; omega)) (.cells #[.string nm, .string tn, .int .i64 a, .int .i64 b, .int .i64 f, .slice sa n cp] 26)).alloc (by first | omega | (simp; omega)) (.cells #[.string nm2, .string tn, .int .i64 a, .int .i64 b, .int .i64 f2, .slice sb m cq] 26)).alloc (by first | omega | (simp; omega)) (.cells #[.string ⟨#[]⟩, .string ⟨#[]⟩, .int .i64 0, .int .i64 0, .int .i64 0, .slice none 0 0] 26))).trans (hb_v2.mono (by first | omega | (simp; omega)))
  clear hb_v2 y1_0 y1_1 y1_2 y1_3 y1_4 y1_5
  have ld3 : v2.heap[D + 1]? = some (.cells #[.string nm2, .string tn, .int .i64 a, .int .i64 b, .int .i64 f2, .slice sb m cq] 26) := cS_v2
  have y3_0 := cell6_0 ld3
  have y3_1 := cell6_1 ld3
  have y3_2 := cell6_2 ld3
  have y3_3 := cell6_3 ld3
  have y3_4 := cell6_4 ld3
  have y3_5 := cell6_5 ld3
  clear ld3
  have W12 : Wd v2 (.slice sb m cq) m Y := hY.out.below (by first | exact hw_v2 | (rw [hD]; exact hw_v2))
  go_wp2_with fail
  refine (CB.out _ W12).mono ?_
  rintro e v4 ⟨rfl, hb_v4⟩
  have hs_v4 := hw_v2.size
  have cR_v4 : v4.heap[D]? = some (.cells #[.string nm, .string tn, .int .i64 a, .int .i64 b, .int .i64 f, .slice sa n cp] 26) := (hb_v4.block (D) (Array.getElem?_eq_some_iff.1 (show v2.heap[D]? = some (.cells #[.string nm, .string tn, .int .i64 a, .int .i64 b, .int .i64 f, .slice sa n cp] 26) from cR_v2)).1).trans cR_v2
  have cS_v4 : v4.heap[D + 1]? = some (.cells #[.string nm2, .string tn, .int .i64 a, .int .i64 b, .int .i64 f2, .slice sb m cq] 26) := (hb_v4.block (D + 1) (Array.getElem?_eq_some_iff.1 (show v2.heap[D + 1]? = some (.cells #[.string nm2, .string tn, .int .i64 a, .int .i64 b, .int .i64 f2, .slice sb m cq] 26) from cS_v2)).1).trans cS_v2
  have cZ_v4 : v4.heap[D + 1 + 1]? = some (.cells #[.string ⟨#[]⟩, .string ⟨#[]⟩, .int .i64 0, .int .i64 0, .int .i64 0, .slice none 0 0] 26) := (hb_v4.block (D + 1 + 1) (Array.getElem?_eq_some_iff.1 (show v2.heap[D + 1 + 1]? = some (.cells #[.string ⟨#[]⟩, .string ⟨#[]⟩, .int .i64 0, .int .i64 0, .int .i64 0, .slice none 0 0] 26) from cZ_v2)).1).trans cZ_v2
  have hw_v4 : Below D w v4 := (hw_v2).trans (hb_v4.mono (by first | omega | (simp; omega)))
  clear cR_v2 cS_v2 cZ_v2 hb_v4 y3_0 y3_1 y3_2 y3_3 y3_4 y3_5 hw_v2 hs_v4
  have ld5 : v4.heap[D]? = some (.cells #[.string nm, .string tn, .int .i64 a, .int .i64 b, .int .i64 f, .slice sa n cp] 26) := cR_v4
  have y5_0 := cell6_0 ld5
  have y5_1 := cell6_1 ld5
  have y5_2 := cell6_2 ld5
  have y5_3 := cell6_3 ld5
  have y5_4 := cell6_4 ld5
  have y5_5 := cell6_5 ld5
  clear ld5
  have ld6 : v4.heap[D + 1]? = some (.cells #[.string nm2, .string tn, .int .i64 a, .int .i64 b, .int .i64 f2, .slice sb m cq] 26) := cS_v4
  have y6_0 := cell6_0 ld6
  have y6_1 := cell6_1 ld6
  have y6_2 := cell6_2 ld6
  have y6_3 := cell6_3 ld6
  have y6_4 := cell6_4 ld6
  have y6_5 := cell6_5 ld6
  clear ld6
  have W13 : Wd v4 (.slice sa n cp) n X := hW.out.below (by first | exact hw_v4 | (rw [hD]; exact hw_v4))
  obtain ⟨V9, hV9⟩ : ∃ V, v4 = V := ⟨_, rfl⟩
  have hw_V9 : Below D w V9 := by rw [← hV9]; exact hw_v4
  have HR_V9 := Lib.hid (show V9.heap[D]? = some (.cells #[.string nm, .string tn, .int .i64 a, .int .i64 b, .int .i64 f, .slice sa n cp] 26) by rw [← hV9]; exact cR_v4)
  have HS_V9 := Lib.hid (show V9.heap[D + 1]? = some (.cells #[.string nm2, .string tn, .int .i64 a, .int .i64 b, .int .i64 f2, .slice sb m cq] 26) by rw [← hV9]; exact cS_v4)
  have HZ_V9 := Lib.hid (show V9.heap[D + 1 + 1]? = some (.cells #[.string ⟨#[]⟩, .string ⟨#[]⟩, .int .i64 0, .int .i64 0, .int .i64 0, .slice none 0 0] 26) by rw [← hV9]; exact cZ_v4)
  have HWR := Lib.hid (show Wd V9 (.slice sa n cp) n X by rw [← hV9]; exact W13)
  clear W13
  clear cR_v4 cS_v4 cZ_v4 hw_v4
  have HEV9 := Lib.hid hV9
  clear hV9
  go_upto_region 9 with fail
  rw [HEV9.out]
  clear y5_0 y5_1 y5_2 y5_3 y5_4 y5_5 y6_0 y6_1 y6_2 y6_3 y6_4 y6_5
  refine wp_region_slots_at rfl rfl (fun base ys => ((((((base.set 35 (ys 0)).set 36 (ys 1)).set 37 (ys 2)).set 38 (ys 3)).set 39 (ys 4)).set 40 (ys 5)).set 34 (ys 6)) (BelowI _ (fun A => Below V9.heap.size V9 A) (joIfalse D nm tn a b f f2 sa n cp)) (fun _ => undef) (by kernel_rfl) (below_start (R := fun A => Below V9.heap.size V9 A) ⟨rfl, rfl, rfl, Nat.le_refl _, fun _ _ => rfl⟩) ?h9
  case h9 =>
    intro FF hFF
    simp only [List.set_cons_succ, List.set_cons_zero] at hFF
    subst hFF
    refine ⟨rfl, ?_, ?_⟩
    refine ⟨?_, ?_⟩
    · refine SlotStep.below (fun A B hb h => h.trans (hb.mono h.size)) (joIfalse_up D nm tn a b f f2 sa n cp) ?_
      intro ys W hR hd K hK
      go_simp
      have hK2 := hK (.pointer (some ⟨D + 1, 4, none⟩)) _ (Below.refl _ _) rfl
      simp (config := { decide := true }) only [upd, if_true, if_false] at hK2
      exact hK2
    refine ⟨?_, ?_⟩
    · refine SlotStep.below (fun A B hb h => h.trans (hb.mono h.size)) (joIfalse_up D nm tn a b f f2 sa n cp) ?_
      intro ys W hR hd K hK
      have dd0 : ys 0 = (.pointer (some ⟨D + 1, 4, none⟩)) := hd 0 (by kernel_rfl) (by decide)
      have hl := (hR.block (D + 1) (Array.getElem?_eq_some_iff.1 HS_V9.out).1).trans HS_V9.out
      have c4 := cell6_4 hl
      clear hl
      go_simp
      have hK2 := hK (.int .i64 f2) _ (Below.refl _ _) rfl
      simp (config := { decide := true }) only [upd, if_true, if_false, dd0] at hK2
      exact hK2
    refine ⟨?_, ?_⟩
    · refine SlotStep.below (fun A B hb h => h.trans (hb.mono h.size)) (joIfalse_up D nm tn a b f f2 sa n cp) ?_
      intro ys W hR hd K hK
      have hl := (hR.block (D) (Array.getElem?_eq_some_iff.1 HR_V9.out).1).trans HR_V9.out
      have c0 := cell6_0 hl
      have c1 := cell6_1 hl
      have c2 := cell6_2 hl
      have c3 := cell6_3 hl
      have c4 := cell6_4 hl
      have c5 := cell6_5 hl
      clear hl
      go_simp
      have hK2 := hK (.agg #[.string nm, .string tn, .int .i64 a, .int .i64 b, .int .i64 f, .slice sa n cp]) _ (Below.refl _ _) rfl
      simp (config := { decide := true }) only [upd, if_true, if_false] at hK2
      exact hK2
    refine ⟨?_, ?_⟩
    · refine SlotStep.below (fun A B hb h => h.trans (hb.mono h.size)) (joIfalse_up D nm tn a b f f2 sa n cp) ?_
      intro ys W hR hd K hK
      have dd2 : ys 2 = (.agg #[.string nm, .string tn, .int .i64 a, .int .i64 b, .int .i64 f, .slice sa n cp]) := hd 2 (by kernel_rfl) (by decide)
      go_simp
      refine (LA.out W (HWR.out.below hR)).mono ?_
      rintro e w5 ⟨rfl, hb5⟩
      have hK2 := hK (.int .i64 (f + n - 1)) _ hb5 rfl
      simp (config := { decide := true }) only [upd, if_true, if_false, dd2] at hK2
      exact hK2
    refine ⟨?_, ?_⟩
    · refine SlotStep.below (fun A B hb h => h.trans (hb.mono h.size)) (joIfalse_up D nm tn a b f f2 sa n cp) ?_
      intro ys W hR hd K hK
      have dd3 : ys 3 = (.int .i64 (f + n - 1)) := hd 3 (by kernel_rfl) (by decide)
      have wq := HQ.out
      go_simp
      have hK2 := hK (.int .i64 (f + n)) _ (Below.refl _ _) rfl
      simp (config := { decide := true }) only [upd, if_true, if_false, dd3] at hK2
      exact hK2
    refine ⟨?_, ?_⟩
    · refine SlotStep.below (fun A B hb h => h.trans (hb.mono h.size)) (joIfalse_up D nm tn a b f f2 sa n cp) ?_
      intro ys W hR hd K hK
      have dd1 : ys 1 = (.int .i64 f2) := hd 1 (by kernel_rfl) (by decide)
      have dd4 : ys 4 = (.int .i64 (f + n)) := hd 4 (by kernel_rfl) (by decide)
      have wb := HNE.out
      go_simp
      have hK2 := hK (.bool false) _ (Below.refl _ _) rfl
      simp (config := { decide := true }) only [upd, if_true, if_false, dd1, dd4] at hK2
      exact hK2
    refine ⟨?_, ?_⟩
    · refine SlotStep.below (fun A B hb h => h.trans (hb.mono h.size)) (joIfalse_up D nm tn a b f f2 sa n cp) ?_
      intro ys W hR hd K hK
      have dd5 : ys 5 = (.bool false) := hd 5 (by kernel_rfl) (by decide)
      go_simp
      have hK2 := hK (.bool false) _ (Below.refl _ _) rfl
      simp (config := { decide := true }) only [upd, if_true, if_false, dd5] at hK2
      exact hK2
    trivial
    · intro L5 ys5 U9 hL5 hI5
      obtain ⟨hR5, hj5⟩ := hI5
      have d6_U9 : ys5 6 = (.bool false) := hj5 6 (by decide) (hL5 6 (by decide))
      simp only [d6_U9]
      have cR_U9 : U9.heap[D]? = some (.cells #[.string nm, .string tn, .int .i64 a, .int .i64 b, .int .i64 f, .slice sa n cp] 26) := (hR5.block (D) (Array.getElem?_eq_some_iff.1 HR_V9.out).1).trans HR_V9.out
      have cS_U9 : U9.heap[D + 1]? = some (.cells #[.string nm2, .string tn, .int .i64 a, .int .i64 b, .int .i64 f2, .slice sb m cq] 26) := (hR5.block (D + 1) (Array.getElem?_eq_some_iff.1 HS_V9.out).1).trans HS_V9.out
      have cZ_U9 : U9.heap[D + 1 + 1]? = some (.cells #[.string ⟨#[]⟩, .string ⟨#[]⟩, .int .i64 0, .int .i64 0, .int .i64 0, .slice none 0 0] 26) := (hR5.block (D + 1 + 1) (Array.getElem?_eq_some_iff.1 HZ_V9.out).1).trans HZ_V9.out
      have hw_U9 : Below D w U9 := hw_V9.trans (hR5.mono (by have := hw_V9.size; first | omega | (simp; omega)))
      clear hj5 hL5 hR5 hw_V9 d6_U9 HR_V9 HS_V9 HZ_V9
      have ld7 : U9.heap[D]? = some (.cells #[.string nm, .string tn, .int .i64 a, .int .i64 b, .int .i64 f, .slice sa n cp] 26) := cR_U9
      have y7_0 := cell6_0 ld7
      have y7_1 := cell6_1 ld7
      have y7_2 := cell6_2 ld7
      have y7_3 := cell6_3 ld7
      have y7_4 := cell6_4 ld7
      have y7_5 := cell6_5 ld7
      clear ld7
      have ld8 : U9.heap[D + 1]? = some (.cells #[.string nm2, .string tn, .int .i64 a, .int .i64 b, .int .i64 f2, .slice sb m cq] 26) := cS_U9
      have y8_0 := cell6_0 ld8
      have y8_1 := cell6_1 ld8
      have y8_2 := cell6_2 ld8
      have y8_3 := cell6_3 ld8
      have y8_4 := cell6_4 ld8
      have y8_5 := cell6_5 ld8
      clear ld8
      obtain ⟨EA, hEA⟩ : ∃ E, U9.heap.size = E := ⟨_, rfl⟩
      have W14 : Wd (U9.alloc (.cells #[.slice sa n cp, .slice sb m cq] 24)) (.slice sa n cp) n X := hW.out.below (by first | exact (hw_U9.alloc (by have := hw_U9.size; first | omega | (simp; omega)) (.cells #[.slice sa n cp, .slice sb m cq] 24)) | (rw [hD]; exact (hw_U9.alloc (by have := hw_U9.size; first | omega | (simp; omega)) (.cells #[.slice sa n cp, .slice sb m cq] 24))))
      have W15 : Wd (U9.alloc (.cells #[.slice sa n cp, .slice sb m cq] 24)) (.slice sb m cq) m Y := hY.out.below (by first | exact (hw_U9.alloc (by have := hw_U9.size; first | omega | (simp; omega)) (.cells #[.slice sa n cp, .slice sb m cq] 24)) | (rw [hD]; exact (hw_U9.alloc (by have := hw_U9.size; first | omega | (simp; omega)) (.cells #[.slice sa n cp, .slice sb m cq] 24))))
      have hA : (U9.alloc (.cells #[.slice sa n cp, .slice sb m cq] 24)).heap[EA]? = some (.cells #[.slice sa n cp, .slice sb m cq] 24) := (heap_new (by first | omega | (simp; omega)))
      have hsz : D + 2 + 1 ≤ ((U9.alloc (.cells #[.slice sa n cp, .slice sb m cq] 24))).heap.size := by have := (Array.getElem?_eq_some_iff.1 (show (U9.alloc (.cells #[.slice sa n cp, .slice sb m cq] 24)).heap[D + 1 + 1]? = some (.cells #[.string ⟨#[]⟩, .string ⟨#[]⟩, .int .i64 0, .int .i64 0, .int .i64 0, .slice none 0 0] 26) from (heap_old (o := .cells #[.slice sa n cp, .slice sb m cq] 24) cZ_U9))).1; have := (Array.getElem?_eq_some_iff.1 hA).1; omega
      have hpos : ∀ j, j < 2 → 0 < (fun j => if j = 0 then n else m) j := by intro j hj; rcases j with _ | _ | j <;> first | exact hn0 | exact hm0 | omega
      have hT : sumN (fun j => if j = 0 then n else m) 2 ≤ 1000000 := by simp [sumN]; omega
      have hBl : EA < ((U9.alloc (.cells #[.slice sa n cp, .slice sb m cq] 24))).heap.size := (Array.getElem?_eq_some_iff.1 hA).1
      have hvv : ∀ j, j < 2 → ((U9.alloc (.cells #[.slice sa n cp, .slice sb m cq] 24))).cell? ⟨EA, j, none⟩ = some ((fun j => if j = 0 then Value.slice sa n cp else .slice sb m cq) j) := by intro j hj; rcases j with _ | _ | j <;> first | exact cell2_0 hA | exact cell2_1 hA | omega
      have hww : ∀ j, j < 2 → Wd ((U9.alloc (.cells #[.slice sa n cp, .slice sb m cq] 24))) ((fun j => if j = 0 then Value.slice sa n cp else .slice sb m cq) j) ((fun j => if j = 0 then n else m) j) ((fun j => if j = 0 then X else Y) j) := by intro j hj; rcases j with _ | _ | j <;> first | exact W14 | exact W15 | omega
      clear hA
      go_wp2_with fail
      refine (changed_c nm tn a b f (f) (.slice sa n cp) (EA) 2 2 (fun j => if j = 0 then Value.slice sa n cp else .slice sb m cq) (fun j => if j = 0 then n else m) (fun j => if j = 0 then X else Y) ⟨_, _, _, rfl⟩ (by decide) (by decide) hpos hT _ hBl hvv hww).mono ?_
      rintro e v9 ⟨⟨sr, mr, cr, rfl, hrow⟩, hb_v9⟩
      have hs_v9 := hw_U9.size
      have cR_v9 : v9.heap[D]? = some (.cells #[.string nm, .string tn, .int .i64 a, .int .i64 b, .int .i64 f, .slice sa n cp] 26) := (hb_v9.block (D) (Array.getElem?_eq_some_iff.1 (show (U9.alloc (.cells #[.slice sa n cp, .slice sb m cq] 24)).heap[D]? = some (.cells #[.string nm, .string tn, .int .i64 a, .int .i64 b, .int .i64 f, .slice sa n cp] 26) from (heap_old (o := .cells #[.slice sa n cp, .slice sb m cq] 24) cR_U9))).1).trans (heap_old (o := .cells #[.slice sa n cp, .slice sb m cq] 24) cR_U9)
      have cS_v9 : v9.heap[D + 1]? = some (.cells #[.string nm2, .string tn, .int .i64 a, .int .i64 b, .int .i64 f2, .slice sb m cq] 26) := (hb_v9.block (D + 1) (Array.getElem?_eq_some_iff.1 (show (U9.alloc (.cells #[.slice sa n cp, .slice sb m cq] 24)).heap[D + 1]? = some (.cells #[.string nm2, .string tn, .int .i64 a, .int .i64 b, .int .i64 f2, .slice sb m cq] 26) from (heap_old (o := .cells #[.slice sa n cp, .slice sb m cq] 24) cS_U9))).1).trans (heap_old (o := .cells #[.slice sa n cp, .slice sb m cq] 24) cS_U9)
      have cZ_v9 : v9.heap[D + 1 + 1]? = some (.cells #[.string ⟨#[]⟩, .string ⟨#[]⟩, .int .i64 0, .int .i64 0, .int .i64 0, .slice none 0 0] 26) := (hb_v9.block (D + 1 + 1) (Array.getElem?_eq_some_iff.1 (show (U9.alloc (.cells #[.slice sa n cp, .slice sb m cq] 24)).heap[D + 1 + 1]? = some (.cells #[.string ⟨#[]⟩, .string ⟨#[]⟩, .int .i64 0, .int .i64 0, .int .i64 0, .slice none 0 0] 26) from (heap_old (o := .cells #[.slice sa n cp, .slice sb m cq] 24) cZ_U9))).1).trans (heap_old (o := .cells #[.slice sa n cp, .slice sb m cq] 24) cZ_U9)
      have cA_v9 : v9.heap[EA]? = some (.cells #[.slice sa n cp, .slice sb m cq] 24) := (hb_v9.block (EA) (Array.getElem?_eq_some_iff.1 (show (U9.alloc (.cells #[.slice sa n cp, .slice sb m cq] 24)).heap[EA]? = some (.cells #[.slice sa n cp, .slice sb m cq] 24) from (heap_new (by first | omega | (simp; omega))))).1).trans (heap_new (by first | omega | (simp; omega)))
      have hw_v9 : Below D w v9 := ((hw_U9.alloc (by have := hw_U9.size; first | omega | (simp; omega)) (.cells #[.slice sa n cp, .slice sb m cq] 24))).trans (hb_v9.mono (by first | omega | (simp; omega)))
      clear cR_U9 cS_U9 cZ_U9 hb_v9 y7_0 y7_1 y7_2 y7_3 y7_4 y7_5 y8_0 y8_1 y8_2 y8_3 y8_4 y8_5 hw_U9 hs_v9
      clear hpos hT hBl hvv hww
      rw [cat_two] at hrow
      simp only [sumN, Nat.zero_add, if_true, Nat.one_ne_zero, if_false] at hrow
      have hrow2 := owns_base (B := D + 3) hrow (by first | exact hsz | omega)
      obtain rfl : mr = n + m := own_len hrow2
      clear hsz hrow
      have hp := cZ_v9
      obtain ⟨f0, f1, f2, f3, f4, f5⟩ := free6_at hp
      obtain ⟨g0, g1, g2, g3, g4, g5⟩ := cell6_at hp
      have hE := set6_all (x0 := .string nm) (x1 := .string tn) (x2 := .int .i64 a) (x3 := .int .i64 b) (x4 := .int .i64 f) (x5 := .slice sr (n + m) cr) hp
      have HW := Lib.hid (below6 (hw_v9) (show D ≤ D + 1 + 1 by omega) (.string nm) (.string tn) (.int .i64 a) (.int .i64 b) (.int .i64 f) (.slice sr (n + m) cr))
      have HO := Lib.hid (owns_set (b := D + 2) (o := 5) (x := .slice sr (n + m) cr) (owns_set (b := D + 2) (o := 4) (x := .int .i64 f) (owns_set (b := D + 2) (o := 3) (x := .int .i64 b) (owns_set (b := D + 2) (o := 2) (x := .int .i64 a) (owns_set (b := D + 2) (o := 1) (x := .string tn) (owns_set (b := D + 2) (o := 0) (x := .string nm) hrow2 (by omega)) (by omega)) (by omega)) (by omega)) (by omega)) (by omega))
      clear hrow2
      obtain ⟨U, hU⟩ : ∃ U, ((((((v9.setCell ⟨D + 1 + 1, 0, none⟩ (.string nm)).setCell ⟨D + 1 + 1, 1, none⟩ (.string tn)).setCell ⟨D + 1 + 1, 2, none⟩ (.int .i64 a)).setCell ⟨D + 1 + 1, 3, none⟩ (.int .i64 b)).setCell ⟨D + 1 + 1, 4, none⟩ (.int .i64 f)).setCell ⟨D + 1 + 1, 5, none⟩ (.slice sr (n + m) cr)) = U := ⟨_, rfl⟩
      rw [hU] at hE HW HO
      obtain ⟨z0, z1, z2, z3, z4, z5⟩ := cell6_at hE
      have HUU := Lib.hid hU
      clear hU hE hp
      go_wp2
      rw [HUU.out]
      exact bodyPost_ret (v := .tuple #[.agg #[.string nm, .string tn, .int .i64 a, .int .i64 b, .int .i64 f, .slice sr (n + m) cr], .int .i64 0]) (by simp [results, Tryz.results27, go_sem, z0, z1, z2, z3, z4, z5]) rfl ⟨⟨sr, cr, rfl, wd_of HO.out (fun k hk => rowL_two Y X n m k hk), hD.symm ▸ new_of HO.out (by omega)⟩, by first | exact HW.out | (rw [hD]; exact HW.out)⟩
end Go.Proofs.YtbkbncapgljfaaaGreatDoor
