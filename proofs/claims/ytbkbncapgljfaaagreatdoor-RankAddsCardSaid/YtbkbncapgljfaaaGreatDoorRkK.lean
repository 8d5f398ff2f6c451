/- Contracts of rank's Below and Repitch. -/
import Derived.Test.YtbkbncapgljfaaaGreatDoorRkJ
namespace Go.Proofs.YtbkbncapgljfaaaGreatDoor
open Go Go.RowKit Go.Shelf

/-- The cells of n ints. -/
def rowL (X : Nat → Int) (n : Nat) : List Value := (List.range n).map fun k => .int .i64 (X k)
theorem cat_two (N : Nat → Nat) (X : Nat → Nat → Int) : catL N X 2 = rowL (X 0) (N 0) ++ rowL (X 1) (N 1) := by simp [catL, rowL]
theorem cat_one (N : Nat → Nat) (X : Nat → Nat → Int) : catL N X 1 = rowL (X 0) (N 0) := by simp [catL, rowL]
theorem rowL_at {X : Nat → Int} {n k : Nat} (h : k < n) : (rowL X n)[k]? = some (.int .i64 (X k)) := by simp [rowL, h]
theorem rowL_len (X : Nat → Int) (n : Nat) : (rowL X n).length = n := by simp [rowL]
theorem rowL_two (X Y : Nat → Int) (m n k : Nat) (h : k < m + n) : (rowL Y m ++ rowL X n)[k]? = some (.int .i64 (if k < m then Y k else X (k - m))) := by
  by_cases e : k < m
  · rw [if_pos e, List.getElem?_append_left (by rw [rowL_len]; exact e), rowL_at e]
  · rw [if_neg e, List.getElem?_append_right (by rw [rowL_len]; omega), rowL_len, rowL_at (by omega)]


set_option maxRecDepth 100000 in
set_option maxHeartbeats 4000000 in
theorem below_range (nm tn : ByteArray) (a b f : Int) (sa : Option Addr) (n cp : Nat) (X : Nat → Int) (sb : Option Addr) (m cq : Nat) (Y : Nat → Int) (s1 : nm.size ≤ 1099511627776) (s2 : tn.size ≤ 1099511627776) (hn : n ≤ 1099511627776) (hm : m ≤ 1099511627776) (h1 : cfE (rkE nm tn a b f n X) (wdE Y m) n m = 0) (h2 : ¬ -256 ≤ f - m) (w : World) (hW1 : Wd w (.slice sa n cp) n X) (hW2 : Wd w (.slice sb m cq) m Y) :
    Calls Tryz.prog 25 #[.agg #[.string nm, .string tn, .int .i64 a, .int .i64 b, .int .i64 f, .slice sa n cp], .slice sb m cq] w fun e w' => e = .returned (.tuple #[.agg #[.string ⟨#[]⟩, .string ⟨#[]⟩, .int .i64 0, .int .i64 0, .int .i64 0, .slice none 0 0], .int .i64 3]) ∧ Below w.heap.size w w' := by
  have CF := Lib.hid (fun W h h' => further_c nm tn a b f sa n cp X sb m cq Y s1 s2 hn hm W h h')
  obtain ⟨hk, hz, hl⟩ := cf_ok h1
  obtain ⟨_, _, _, hf, hn0, _, _⟩ := rk_ok hk
  rw [h1] at CF
  have q1 := wrap_in (q := f - (m : Int)) (by omega) (by omega)
  have FI := Lib.hid (fun (W : World) => show Calls Tryz.prog 35 #[.int .i64 (f - (m : Int))] W (fun e w' => e = .returned (.bool false) ∧ Below W.heap.size W w') from (isFirst_c (f - (m : Int)) W).mono (by rintro e w' ⟨h1, rfl⟩; exact ⟨by rw [h1, decide_eq_false (by omega)], Below.refl _ _⟩))
  clear h1 h2 hk hz hf hn0 hl
  have hW := Lib.hid hW1
  have hY := Lib.hid hW2
  clear hW1 hW2
  obtain ⟨D, hD⟩ : ∃ D, w.heap.size = D := ⟨_, rfl⟩
  go_enter Tryz.func25, Tryz.ntmps25
  have ld1 : ((w.alloc (.cells #[.string nm, .string tn, .int .i64 a, .int .i64 b, .int .i64 f, .slice sa n cp] 26)).alloc (.cells #[.string ⟨#[]⟩, .string ⟨#[]⟩, .int .i64 0, .int .i64 0, .int .i64 0, .slice none 0 0] 26)).heap[D]? = some (.cells #[.string nm, .string tn, .int .i64 a, .int .i64 b, .int .i64 f, .slice sa n cp] 26) := (heap_old (o := .cells #[.string ⟨#[]⟩, .string ⟨#[]⟩, .int .i64 0, .int .i64 0, .int .i64 0, .slice none 0 0] 26) (heap_new (by first | omega | (simp; omega))))
  have y1_0 := cell6_0 ld1
  have y1_1 := cell6_1 ld1
  have y1_2 := cell6_2 ld1
  have y1_3 := cell6_3 ld1
  have y1_4 := cell6_4 ld1
  have y1_5 := cell6_5 ld1
  clear ld1
  have W1 : Wd ((w.alloc (.cells #[.string nm, .string tn, .int .i64 a, .int .i64 b, .int .i64 f, .slice sa n cp] 26)).alloc (.cells #[.string ⟨#[]⟩, .string ⟨#[]⟩, .int .i64 0, .int .i64 0, .int .i64 0, .slice none 0 0] 26)) (.slice sa n cp) n X := hW.out.below (by first | exact (((Below.refl _ w).alloc (by first | omega | (simp; omega)) (.cells #[.string nm, .string tn, .int .i64 a, .int .i64 b, .int .i64 f, .slice sa n cp] 26)).alloc (by first | omega | (simp; omega)) (.cells #[.string ⟨#[]⟩, .string ⟨#[]⟩, .int .i64 0, .int .i64 0, .int .i64 0, .slice none 0 0] 26)) | (rw [hD]; exact (((Below.refl _ w).alloc (by first | omega | (simp; omega)) (.cells #[.string nm, .string tn, .int .i64 a, .int .i64 b, .int .i64 f, .slice sa n cp] 26)).alloc (by first | omega | (simp; omega)) (.cells #[.string ⟨#[]⟩, .string ⟨#[]⟩, .int .i64 0, .int .i64 0, .int .i64 0, .slice none 0 0] 26))))
  have W2 : Wd ((w.alloc (.cells #[.string nm, .string tn, .int .i64 a, .int .i64 b, .int .i64 f, .slice sa n cp] 26)).alloc (.cells #[.string ⟨#[]⟩, .string ⟨#[]⟩, .int .i64 0, .int .i64 0, .int .i64 0, .slice none 0 0] 26)) (.slice sb m cq) m Y := hY.out.below (by first | exact (((Below.refl _ w).alloc (by first | omega | (simp; omega)) (.cells #[.string nm, .string tn, .int .i64 a, .int .i64 b, .int .i64 f, .slice sa n cp] 26)).alloc (by first | omega | (simp; omega)) (.cells #[.string ⟨#[]⟩, .string ⟨#[]⟩, .int .i64 0, .int .i64 0, .int .i64 0, .slice none 0 0] 26)) | (rw [hD]; exact (((Below.refl _ w).alloc (by first | omega | (simp; omega)) (.cells #[.string nm, .string tn, .int .i64 a, .int .i64 b, .int .i64 f, .slice sa n cp] 26)).alloc (by first | omega | (simp; omega)) (.cells #[.string ⟨#[]⟩, .string ⟨#[]⟩, .int .i64 0, .int .i64 0, .int .i64 0, .slice none 0 0] 26))))
  go_wp2_with fail
  refine (CF.out _ W1 W2).mono ?_
  rintro e v2 ⟨rfl, hb_v2⟩
  have cR_v2 : v2.heap[D]? = some (.cells #[.string nm, .string tn, .int .i64 a, .int .i64 b, .int .i64 f, .slice sa n cp] 26) := (hb_v2.block (D) (Array.getElem?_eq_some_iff.1 (show ((w.alloc (.cells #[.string nm, .string tn, .int .i64 a, .int .i64 b, .int .i64 f, .slice sa n cp] 26)).alloc (.cells #[.string ⟨#[]⟩, .string ⟨#[]⟩, .int .i64 0, .int .i64 0, .int .i64 0, .slice none 0 0] 26)).heap[D]? = some (.cells #[.string nm, .string tn, .int .i64 a, .int .i64 b, .int .i64 f, .slice sa n cp] 26) from (heap_old (o := .cells #[.string ⟨#[]⟩, .string ⟨#[]⟩, .int .i64 0, .int .i64 0, .int .i64 0, .slice none 0 0] 26) (heap_new (by first | omega | (simp; omega)))))).1).trans (heap_old (o := .cells #[.string ⟨#[]⟩, .string ⟨#[]⟩, .int .i64 0, .int .i64 0, .int .i64 0, .slice none 0 0] 26) (heap_new (by first | omega | (simp; omega))))
  have cZ_v2 : v2.heap[D + 1]? = some (.cells #[.string ⟨#[]⟩, .string ⟨#[]⟩, .int .i64 0, .int .i64 0, .int .i64 0, .slice none 0 0] 26) := (hb_v2.block (D + 1) (Array.getElem?_eq_some_iff.1 (show ((w.alloc (.cells #[.string nm, .string tn, .int .i64 a, .int .i64 b, .int .i64 f, .slice sa n cp] 26)).alloc (.cells #[.string ⟨#[]⟩, .string ⟨#[]⟩, .int .i64 0, .int .i64 0, .int .i64 0, .slice none 0 0] 26)).heap[D + 1]? = some (.cells #[.string ⟨#[]⟩, .string ⟨#[]⟩, .int .i64 0, .int .i64 0, .int .i64 0, .slice none 0 0] 26) from (heap_new (by first | omega | (simp; omega))))).1).trans (heap_new (by first | omega | (simp; omega)))
  have hw_v2 : Below D w v2 := ((((Below.refl _ w).alloc (by first | omega | (simp; omega)) (.cells #[.string nm, .string tn, .int .i64 a, .int .i64 b, .int .i64 f, .slice sa n cp] 26)).alloc (by first | omega | (simp; omega)) (.cells #[.string ⟨#[]⟩, .string ⟨#[]⟩, .int .i64 0, .int .i64 0, .int .i64 0, .slice none 0 0] 26))).trans (hb_v2.mono (by first | omega | (simp; omega)))
  clear hb_v2 y1_0 y1_1 y1_2 y1_3 y1_4 y1_5
  have ld3 : v2.heap[D]? = some (.cells #[.string nm, .string tn, .int .i64 a, .int .i64 b, .int .i64 f, .slice sa n cp] 26) := cR_v2
  have y3_0 := cell6_0 ld3
  have y3_1 := cell6_1 ld3
  have y3_2 := cell6_2 ld3
  have y3_3 := cell6_3 ld3
  have y3_4 := cell6_4 ld3
  have y3_5 := cell6_5 ld3
  clear ld3
  go_wp2_with fail
  refine (FI.out _).mono ?_
  rintro e v4 ⟨rfl, hb_v4⟩
  have hs_v4 := hw_v2.size
  have cR_v4 : v4.heap[D]? = some (.cells #[.string nm, .string tn, .int .i64 a, .int .i64 b, .int .i64 f, .slice sa n cp] 26) := (hb_v4.block (D) (Array.getElem?_eq_some_iff.1 (show v2.heap[D]? = some (.cells #[.string nm, .string tn, .int .i64 a, .int .i64 b, .int .i64 f, .slice sa n cp] 26) from cR_v2)).1).trans cR_v2
  have cZ_v4 : v4.heap[D + 1]? = some (.cells #[.string ⟨#[]⟩, .string ⟨#[]⟩, .int .i64 0, .int .i64 0, .int .i64 0, .slice none 0 0] 26) := (hb_v4.block (D + 1) (Array.getElem?_eq_some_iff.1 (show v2.heap[D + 1]? = some (.cells #[.string ⟨#[]⟩, .string ⟨#[]⟩, .int .i64 0, .int .i64 0, .int .i64 0, .slice none 0 0] 26) from cZ_v2)).1).trans cZ_v2
  have hw_v4 : Below D w v4 := (hw_v2).trans (hb_v4.mono (by first | omega | (simp; omega)))
  clear cR_v2 cZ_v2 hb_v4 y3_0 y3_1 y3_2 y3_3 y3_4 y3_5 hw_v2 hs_v4
  have hp := cZ_v4
  obtain ⟨f0, f1, f2, f3, f4, f5⟩ := free6_at hp
  obtain ⟨g0, g1, g2, g3, g4, g5⟩ := cell6_at hp
  have hE := set6_all (x0 := .string ⟨#[]⟩) (x1 := .string ⟨#[]⟩) (x2 := .int .i64 0) (x3 := .int .i64 0) (x4 := .int .i64 0) (x5 := .slice none 0 0) hp
  have HW := Lib.hid (below6 (hw_v4) (show D ≤ D + 1 by omega) (.string ⟨#[]⟩) (.string ⟨#[]⟩) (.int .i64 0) (.int .i64 0) (.int .i64 0) (.slice none 0 0))
  obtain ⟨U, hU⟩ : ∃ U, ((((((v4.setCell ⟨D + 1, 0, none⟩ (.string ⟨#[]⟩)).setCell ⟨D + 1, 1, none⟩ (.string ⟨#[]⟩)).setCell ⟨D + 1, 2, none⟩ (.int .i64 0)).setCell ⟨D + 1, 3, none⟩ (.int .i64 0)).setCell ⟨D + 1, 4, none⟩ (.int .i64 0)).setCell ⟨D + 1, 5, none⟩ (.slice none 0 0)) = U := ⟨_, rfl⟩
  rw [hU] at hE HW
  obtain ⟨z0, z1, z2, z3, z4, z5⟩ := cell6_at hE
  have HUU := Lib.hid hU
  clear hU hE hp
  go_wp2
  rw [HUU.out]
  exact bodyPost_ret (v := .tuple #[.agg #[.string ⟨#[]⟩, .string ⟨#[]⟩, .int .i64 0, .int .i64 0, .int .i64 0, .slice none 0 0], .int .i64 3]) (by simp [results, Tryz.results25, go_sem, z0, z1, z2, z3, z4, z5]) rfl ⟨rfl, by first | exact HW.out | (rw [hD]; exact HW.out)⟩

set_option maxRecDepth 100000 in
set_option maxHeartbeats 4000000 in
theorem below_ok (nm tn : ByteArray) (a b f : Int) (sa : Option Addr) (n cp : Nat) (X : Nat → Int) (sb : Option Addr) (m cq : Nat) (Y : Nat → Int) (s1 : nm.size ≤ 1099511627776) (s2 : tn.size ≤ 1099511627776) (hn : n ≤ 1099511627776) (hm : m ≤ 1099511627776) (h1 : cfE (rkE nm tn a b f n X) (wdE Y m) n m = 0) (h2 : -256 ≤ f - m) (h3 : 0 < m) (w : World) (hW1 : Wd w (.slice sa n cp) n X) (hW2 : Wd w (.slice sb m cq) m Y) :
    Calls Tryz.prog 25 #[.agg #[.string nm, .string tn, .int .i64 a, .int .i64 b, .int .i64 f, .slice sa n cp], .slice sb m cq] w fun e w' => (∃ sr mr cr, e = .returned (.tuple #[.agg #[.string nm, .string tn, .int .i64 a, .int .i64 b, .int .i64 (f - m), .slice sr mr cr], .int .i64 0]) ∧ w'.ownsRow w.heap.size 3 1 (.slice sr mr cr) (m + n) (rowL Y m ++ rowL X n)) ∧ Below w.heap.size w w' := by
  have CF := Lib.hid (fun W h h' => further_c nm tn a b f sa n cp X sb m cq Y s1 s2 hn hm W h h')
  obtain ⟨hk, hz, hl⟩ := cf_ok h1
  obtain ⟨_, _, _, hf, hn0, _, _⟩ := rk_ok hk
  rw [h1] at CF
  have q1 := wrap_in (q := f - (m : Int)) (by omega) (by omega)
  have FI := Lib.hid (fun (W : World) => show Calls Tryz.prog 35 #[.int .i64 (f - (m : Int))] W (fun e w' => e = .returned (.bool true) ∧ Below W.heap.size W w') from (isFirst_c (f - (m : Int)) W).mono (by rintro e w' ⟨h1, rfl⟩; exact ⟨by rw [h1, decide_eq_true (by omega)], Below.refl _ _⟩))
  clear h1 h2 hk hz hf
  have hW := Lib.hid hW1
  have hY := Lib.hid hW2
  clear hW1 hW2
  obtain ⟨D, hD⟩ : ∃ D, w.heap.size = D := ⟨_, rfl⟩
  go_enter Tryz.func25, Tryz.ntmps25
  have ld1 : ((w.alloc (.cells #[.string nm, .string tn, .int .i64 a, .int .i64 b, .int .i64 f, .slice sa n cp] 26)).alloc (.cells #[.string ⟨#[]⟩, .string ⟨#[]⟩, .int .i64 0, .int .i64 0, .int .i64 0, .slice none 0 0] 26)).heap[D]? = some (.cells #[.string nm, .string tn, .int .i64 a, .int .i64 b, .int .i64 f, .slice sa n cp] 26) := (heap_old (o := .cells #[.string ⟨#[]⟩, .string ⟨#[]⟩, .int .i64 0, .int .i64 0, .int .i64 0, .slice none 0 0] 26) (heap_new (by first | omega | (simp; omega))))
  have y1_0 := cell6_0 ld1
  have y1_1 := cell6_1 ld1
  have y1_2 := cell6_2 ld1
  have y1_3 := cell6_3 ld1
  have y1_4 := cell6_4 ld1
  have y1_5 := cell6_5 ld1
  clear ld1
  have W3 : Wd ((w.alloc (.cells #[.string nm, .string tn, .int .i64 a, .int .i64 b, .int .i64 f, .slice sa n cp] 26)).alloc (.cells #[.string ⟨#[]⟩, .string ⟨#[]⟩, .int .i64 0, .int .i64 0, .int .i64 0, .slice none 0 0] 26)) (.slice sa n cp) n X := hW.out.below (by first | exact (((Below.refl _ w).alloc (by first | omega | (simp; omega)) (.cells #[.string nm, .string tn, .int .i64 a, .int .i64 b, .int .i64 f, .slice sa n cp] 26)).alloc (by first | omega | (simp; omega)) (.cells #[.string ⟨#[]⟩, .string ⟨#[]⟩, .int .i64 0, .int .i64 0, .int .i64 0, .slice none 0 0] 26)) | (rw [hD]; exact (((Below.refl _ w).alloc (by first | omega | (simp; omega)) (.cells #[.string nm, .string tn, .int .i64 a, .int .i64 b, .int .i64 f, .slice sa n cp] 26)).alloc (by first | omega | (simp; omega)) (.cells #[.string ⟨#[]⟩, .string ⟨#[]⟩, .int .i64 0, .int .i64 0, .int .i64 0, .slice none 0 0] 26))))
  have W4 : Wd ((w.alloc (.cells #[.string nm, .string tn, .int .i64 a, .int .i64 b, .int .i64 f, .slice sa n cp] 26)).alloc (.cells #[.string ⟨#[]⟩, .string ⟨#[]⟩, .int .i64 0, .int .i64 0, .int .i64 0, .slice none 0 0] 26)) (.slice sb m cq) m Y := hY.out.below (by first | exact (((Below.refl _ w).alloc (by first | omega | (simp; omega)) (.cells #[.string nm, .string tn, .int .i64 a, .int .i64 b, .int .i64 f, .slice sa n cp] 26)).alloc (by first | omega | (simp; omega)) (.cells #[.string ⟨#[]⟩, .string ⟨#[]⟩, .int .i64 0, .int .i64 0, .int .i64 0, .slice none 0 0] 26)) | (rw [hD]; exact (((Below.refl _ w).alloc (by first | omega | (simp; omega)) (.cells #[.string nm, .string tn, .int .i64 a, .int .i64 b, .int .i64 f, .slice sa n cp] 26)).alloc (by first | omega | (simp; omega)) (.cells #[.string ⟨#[]⟩, .string ⟨#[]⟩, .int .i64 0, .int .i64 0, .int .i64 0, .slice none 0 0] 26))))
  go_wp2_with fail
  refine (CF.out _ W3 W4).mono ?_
  rintro e v2 ⟨rfl, hb_v2⟩
  have cR_v2 : v2.heap[D]? = some (.cells #[.string nm, .string tn, .int .i64 a, .int .i64 b, .int .i64 f, .slice sa n cp] 26) := (hb_v2.block (D) (Array.getElem?_eq_some_iff.1 (show ((w.alloc (.cells #[.string nm, .string tn, .int .i64 a, .int .i64 b, .int .i64 f, .slice sa n cp] 26)).alloc (.cells #[.string ⟨#[]⟩, .string ⟨#[]⟩, .int .i64 0, .int .i64 0, .int .i64 0, .slice none 0 0] 26)).heap[D]? = some (.cells #[.string nm, .string tn, .int .i64 a, .int .i64 b, .int .i64 f, .slice sa n cp] 26) from (heap_old (o := .cells #[.string ⟨#[]⟩, .string ⟨#[]⟩, .int .i64 0, .int .i64 0, .int .i64 0, .slice none 0 0] 26) (heap_new (by first | omega | (simp; omega)))))).1).trans (heap_old (o := .cells #[.string ⟨#[]⟩, .string ⟨#[]⟩, .int .i64 0, .int .i64 0, .int .i64 0, .slice none 0 0] 26) (heap_new (by first | omega | (simp; omega))))
  have cZ_v2 : v2.heap[D + 1]? = some (.cells #[.string ⟨#[]⟩, .string ⟨#[]⟩, .int .i64 0, .int .i64 0, .int .i64 0, .slice none 0 0] 26) := (hb_v2.block (D + 1) (Array.getElem?_eq_some_iff.1 (show ((w.alloc (.cells #[.string nm, .string tn, .int .i64 a, .int .i64 b, .int .i64 f, .slice sa n cp] 26)).alloc (.cells #[.string ⟨#[]⟩, .string ⟨#[]⟩, .int .i64 0, .int .i64 0, .int .i64 0, .slice none 0 0] 26)).heap[D + 1]? = some (.cells #[.string ⟨#[]⟩, .string ⟨#[]⟩, .int .i64 0, .int .i64 0, .int .i64 0, .slice none 0 0] 26) from (heap_new (by first | omega | (simp; omega))))).1).trans (heap_new (by first | omega | (simp; omega)))
  have hw_v2 : Below D w v2 := ((((Below.refl _ w).alloc (by first | omega | (simp; omega)) (.cells #[.string nm, .string tn, .int .i64 a, .int .i64 b, .int .i64 f, .slice sa n cp] 26)).alloc (by first | omega | (simp; omega)) (.cells #[.string ⟨#[]⟩, .string ⟨#[]⟩, .int .i64 0, .int .i64 0, .int .i64 0, .slice none 0 0] 26))).trans (hb_v2.mono (by first | omega | (simp; omega)))
  clear hb_v2 y1_0 y1_1 y1_2 y1_3 y1_4 y1_5
  have ld3 : v2.heap[D]? = some (.cells #[.string nm, .string tn, .int .i64 a, .int .i64 b, .int .i64 f, .slice sa n cp] 26) := cR_v2
  have y3_0 := cell6_0 ld3
  have y3_1 := cell6_1 ld3
  have y3_2 := cell6_2 ld3
  have y3_3 := cell6_3 ld3
  have y3_4 := cell6_4 ld3
  have y3_5 := cell6_5 ld3
  clear ld3
  go_wp2_with fail
  refine (FI.out _).mono ?_
  rintro e v4 ⟨rfl, hb_v4⟩
  have hs_v4 := hw_v2.size
  have cR_v4 : v4.heap[D]? = some (.cells #[.string nm, .string tn, .int .i64 a, .int .i64 b, .int .i64 f, .slice sa n cp] 26) := (hb_v4.block (D) (Array.getElem?_eq_some_iff.1 (show v2.heap[D]? = some (.cells #[.string nm, .string tn, .int .i64 a, .int .i64 b, .int .i64 f, .slice sa n cp] 26) from cR_v2)).1).trans cR_v2
  have cZ_v4 : v4.heap[D + 1]? = some (.cells #[.string ⟨#[]⟩, .string ⟨#[]⟩, .int .i64 0, .int .i64 0, .int .i64 0, .slice none 0 0] 26) := (hb_v4.block (D + 1) (Array.getElem?_eq_some_iff.1 (show v2.heap[D + 1]? = some (.cells #[.string ⟨#[]⟩, .string ⟨#[]⟩, .int .i64 0, .int .i64 0, .int .i64 0, .slice none 0 0] 26) from cZ_v2)).1).trans cZ_v2
  have hw_v4 : Below D w v4 := (hw_v2).trans (hb_v4.mono (by first | omega | (simp; omega)))
  clear cR_v2 cZ_v2 hb_v4 y3_0 y3_1 y3_2 y3_3 y3_4 y3_5 hw_v2 hs_v4
  have ld5 : v4.heap[D]? = some (.cells #[.string nm, .string tn, .int .i64 a, .int .i64 b, .int .i64 f, .slice sa n cp] 26) := cR_v4
  have y5_0 := cell6_0 ld5
  have y5_1 := cell6_1 ld5
  have y5_2 := cell6_2 ld5
  have y5_3 := cell6_3 ld5
  have y5_4 := cell6_4 ld5
  have y5_5 := cell6_5 ld5
  clear ld5
  obtain ⟨EA, hEA⟩ : ∃ E, v4.heap.size = E := ⟨_, rfl⟩
  have W5 : Wd (v4.alloc (.cells #[.slice sb m cq, .slice sa n cp] 24)) (.slice sb m cq) m Y := hY.out.below (by first | exact (hw_v4.alloc (by have := hw_v4.size; first | omega | (simp; omega)) (.cells #[.slice sb m cq, .slice sa n cp] 24)) | (rw [hD]; exact (hw_v4.alloc (by have := hw_v4.size; first | omega | (simp; omega)) (.cells #[.slice sb m cq, .slice sa n cp] 24))))
  have W6 : Wd (v4.alloc (.cells #[.slice sb m cq, .slice sa n cp] 24)) (.slice sa n cp) n X := hW.out.below (by first | exact (hw_v4.alloc (by have := hw_v4.size; first | omega | (simp; omega)) (.cells #[.slice sb m cq, .slice sa n cp] 24)) | (rw [hD]; exact (hw_v4.alloc (by have := hw_v4.size; first | omega | (simp; omega)) (.cells #[.slice sb m cq, .slice sa n cp] 24))))
  have hA : (v4.alloc (.cells #[.slice sb m cq, .slice sa n cp] 24)).heap[EA]? = some (.cells #[.slice sb m cq, .slice sa n cp] 24) := (heap_new (by first | omega | (simp; omega)))
  have hsz : D + 2 ≤ ((v4.alloc (.cells #[.slice sb m cq, .slice sa n cp] 24))).heap.size := by have := (Array.getElem?_eq_some_iff.1 (show (v4.alloc (.cells #[.slice sb m cq, .slice sa n cp] 24)).heap[D + 1]? = some (.cells #[.string ⟨#[]⟩, .string ⟨#[]⟩, .int .i64 0, .int .i64 0, .int .i64 0, .slice none 0 0] 26) from (heap_old (o := .cells #[.slice sb m cq, .slice sa n cp] 24) cZ_v4))).1; have := (Array.getElem?_eq_some_iff.1 hA).1; omega
  have hpos : ∀ j, j < 2 → 0 < (fun j => if j = 0 then m else n) j := by intro j hj; rcases j with _ | _ | j <;> first | exact h3 | exact hn0 | omega
  have hT : sumN (fun j => if j = 0 then m else n) 2 ≤ 1000000 := by simp [sumN]; omega
  have hBl : EA < ((v4.alloc (.cells #[.slice sb m cq, .slice sa n cp] 24))).heap.size := (Array.getElem?_eq_some_iff.1 hA).1
  have hvv : ∀ j, j < 2 → ((v4.alloc (.cells #[.slice sb m cq, .slice sa n cp] 24))).cell? ⟨EA, j, none⟩ = some ((fun j => if j = 0 then Value.slice sb m cq else .slice sa n cp) j) := by intro j hj; rcases j with _ | _ | j <;> first | exact cell2_0 hA | exact cell2_1 hA | omega
  have hww : ∀ j, j < 2 → Wd ((v4.alloc (.cells #[.slice sb m cq, .slice sa n cp] 24))) ((fun j => if j = 0 then Value.slice sb m cq else .slice sa n cp) j) ((fun j => if j = 0 then m else n) j) ((fun j => if j = 0 then Y else X) j) := by intro j hj; rcases j with _ | _ | j <;> first | exact W5 | exact W6 | omega
  clear hA
  go_wp2_with fail
  refine (changed_c nm tn a b f (f - (m : Int)) (.slice sa n cp) (EA) 2 2 (fun j => if j = 0 then Value.slice sb m cq else .slice sa n cp) (fun j => if j = 0 then m else n) (fun j => if j = 0 then Y else X) ⟨_, _, _, rfl⟩ (by decide) (by decide) hpos hT _ hBl hvv hww).mono ?_
  rintro e v6 ⟨⟨sr, mr, cr, rfl, hrow⟩, hb_v6⟩
  have hs_v6 := hw_v4.size
  have cR_v6 : v6.heap[D]? = some (.cells #[.string nm, .string tn, .int .i64 a, .int .i64 b, .int .i64 f, .slice sa n cp] 26) := (hb_v6.block (D) (Array.getElem?_eq_some_iff.1 (show (v4.alloc (.cells #[.slice sb m cq, .slice sa n cp] 24)).heap[D]? = some (.cells #[.string nm, .string tn, .int .i64 a, .int .i64 b, .int .i64 f, .slice sa n cp] 26) from (heap_old (o := .cells #[.slice sb m cq, .slice sa n cp] 24) cR_v4))).1).trans (heap_old (o := .cells #[.slice sb m cq, .slice sa n cp] 24) cR_v4)
  have cZ_v6 : v6.heap[D + 1]? = some (.cells #[.string ⟨#[]⟩, .string ⟨#[]⟩, .int .i64 0, .int .i64 0, .int .i64 0, .slice none 0 0] 26) := (hb_v6.block (D + 1) (Array.getElem?_eq_some_iff.1 (show (v4.alloc (.cells #[.slice sb m cq, .slice sa n cp] 24)).heap[D + 1]? = some (.cells #[.string ⟨#[]⟩, .string ⟨#[]⟩, .int .i64 0, .int .i64 0, .int .i64 0, .slice none 0 0] 26) from (heap_old (o := .cells #[.slice sb m cq, .slice sa n cp] 24) cZ_v4))).1).trans (heap_old (o := .cells #[.slice sb m cq, .slice sa n cp] 24) cZ_v4)
  have cA_v6 : v6.heap[EA]? = some (.cells #[.slice sb m cq, .slice sa n cp] 24) := (hb_v6.block (EA) (Array.getElem?_eq_some_iff.1 (show (v4.alloc (.cells #[.slice sb m cq, .slice sa n cp] 24)).heap[EA]? = some (.cells #[.slice sb m cq, .slice sa n cp] 24) from (heap_new (by first | omega | (simp; omega))))).1).trans (heap_new (by first | omega | (simp; omega)))
  have hw_v6 : Below D w v6 := ((hw_v4.alloc (by have := hw_v4.size; first | omega | (simp; omega)) (.cells #[.slice sb m cq, .slice sa n cp] 24))).trans (hb_v6.mono (by first | omega | (simp; omega)))
  clear cR_v4 cZ_v4 hb_v6 y5_0 y5_1 y5_2 y5_3 y5_4 y5_5 hw_v4 hs_v6
  clear hpos hT hBl hvv hww
  rw [cat_two] at hrow
  simp only [sumN, Nat.zero_add, if_true, Nat.one_ne_zero, if_false] at hrow
  have hrow2 := owns_base (B := D + 2) hrow (by first | exact hsz | omega)
  clear hsz hrow
  have hp := cZ_v6
  obtain ⟨f0, f1, f2, f3, f4, f5⟩ := free6_at hp
  obtain ⟨g0, g1, g2, g3, g4, g5⟩ := cell6_at hp
  have hE := set6_all (x0 := .string nm) (x1 := .string tn) (x2 := .int .i64 a) (x3 := .int .i64 b) (x4 := .int .i64 (f - m)) (x5 := .slice sr mr cr) hp
  have HW := Lib.hid (below6 (hw_v6) (show D ≤ D + 1 by omega) (.string nm) (.string tn) (.int .i64 a) (.int .i64 b) (.int .i64 (f - m)) (.slice sr mr cr))
  have HO := Lib.hid (owns_set (b := D + 1) (o := 5) (x := .slice sr mr cr) (owns_set (b := D + 1) (o := 4) (x := .int .i64 (f - m)) (owns_set (b := D + 1) (o := 3) (x := .int .i64 b) (owns_set (b := D + 1) (o := 2) (x := .int .i64 a) (owns_set (b := D + 1) (o := 1) (x := .string tn) (owns_set (b := D + 1) (o := 0) (x := .string nm) hrow2 (by omega)) (by omega)) (by omega)) (by omega)) (by omega)) (by omega))
  clear hrow2
  obtain ⟨U, hU⟩ : ∃ U, ((((((v6.setCell ⟨D + 1, 0, none⟩ (.string nm)).setCell ⟨D + 1, 1, none⟩ (.string tn)).setCell ⟨D + 1, 2, none⟩ (.int .i64 a)).setCell ⟨D + 1, 3, none⟩ (.int .i64 b)).setCell ⟨D + 1, 4, none⟩ (.int .i64 (f - m))).setCell ⟨D + 1, 5, none⟩ (.slice sr mr cr)) = U := ⟨_, rfl⟩
  rw [hU] at hE HW HO
  obtain ⟨z0, z1, z2, z3, z4, z5⟩ := cell6_at hE
  have HUU := Lib.hid hU
  clear hU hE hp
  go_wp2
  rw [HUU.out]
  exact bodyPost_ret (v := .tuple #[.agg #[.string nm, .string tn, .int .i64 a, .int .i64 b, .int .i64 (f - m), .slice sr mr cr], .int .i64 0]) (by simp [results, Tryz.results25, go_sem, z0, z1, z2, z3, z4, z5]) rfl ⟨⟨sr, mr, cr, rfl, owns_base HO.out (by omega)⟩, by first | exact HW.out | (rw [hD]; exact HW.out)⟩
end Go.Proofs.YtbkbncapgljfaaaGreatDoor
