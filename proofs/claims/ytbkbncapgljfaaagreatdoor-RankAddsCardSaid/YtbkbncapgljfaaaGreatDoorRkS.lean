/- Contracts of rank's Note, Last, Wind, Total. -/
import Derived.Test.YtbkbncapgljfaaaGreatDoorRkR
namespace Go.Proofs.YtbkbncapgljfaaaGreatDoor
open Go Go.RowKit Go.Shelf

/-- checkPipe's answer. -/
def cpE (z k : Int) (n : Nat) : Int := if z = 0 then (if 0 ≤ k ∧ k < n then 0 else 10) else z
theorem cpipe_c (nm tn : ByteArray) (a b f : Int) (v : Value) (n : Nat) (X : Nat → Int) (k : Int) (s1 : nm.size ≤ 1099511627776) (s2 : tn.size ≤ 1099511627776) (hn : n ≤ 1099511627776) (w : World) (hWd : Wd w v n X) :
    Calls Tryz.prog 41 #[.agg #[.string nm, .string tn, .int .i64 a, .int .i64 b, .int .i64 f, v], .int .i64 k] w fun e w' => e = .returned (.int .i64 (cpE (rkE nm tn a b f n X) k n)) ∧ Below w.heap.size w w' := by
  unfold cpE
  by_cases h : rkE nm tn a b f n X = 0
  · rw [if_pos h]
    by_cases hk : 0 ≤ k ∧ k < n
    · rw [if_pos hk]; exact cpipe_ok nm tn a b f v n X k s1 s2 hn h hk w hWd
    · rw [if_neg hk]; exact cpipe_no nm tn a b f v n X k s1 s2 hn h hk w hWd
  · rw [if_neg h]; exact cpipe_bad nm tn a b f v n X k _ s1 s2 hn rfl h w hWd
theorem cp_ok {z k : Int} {n : Nat} (h : cpE z k n = 0) : z = 0 ∧ 0 ≤ k ∧ k < n := by
  unfold cpE at h
  split at h
  · rename_i hz
    split at h
    · rename_i hk; exact ⟨hz, hk⟩
    · cases h
  · exact absurd h ‹_›
/-- The sum of the first ones. -/
def sumI (X : Nat → Int) : Nat → Int
  | 0 => 0
  | k + 1 => sumI X k + X k
theorem sumI_bd {X : Nat → Int} {n : Nat} (h : ∀ k, k < n → 0 ≤ X k ∧ X k ≤ 1000000) : ∀ k, k ≤ n → 0 ≤ sumI X k ∧ sumI X k ≤ 1000000 * k
  | 0, _ => by simp [sumI]
  | k + 1, hk => by
    have := sumI_bd h k (by omega)
    have := h k (by omega)
    rw [sumI]; omega


set_option maxRecDepth 100000 in
set_option maxHeartbeats 4000000 in
theorem note_bad (nm tn : ByteArray) (a b f : Int) (v : Value) (n : Nat) (X : Nat → Int) (k z : Int) (s1 : nm.size ≤ 1099511627776) (s2 : tn.size ≤ 1099511627776) (hn : n ≤ 1099511627776) (hz : cpE (rkE nm tn a b f n X) k n = z) (hne : ¬ z = 0) (w : World) (hWd : Wd w v n X) :
    Calls Tryz.prog 19 #[.agg #[.string nm, .string tn, .int .i64 a, .int .i64 b, .int .i64 f, v], .int .i64 k] w fun e w' => e = .returned (.tuple #[.int .i64 0, .int .i64 z]) ∧ Below w.heap.size w w' := by
  have CP := Lib.hid (fun W h => cpipe_c nm tn a b f v n X k s1 s2 hn W h)
  rw [hz] at CP
  clear hz
  obtain ⟨sa, cp, rfl⟩ := hWd.len
  have hW := Lib.hid hWd
  clear hWd
  obtain ⟨D, hD⟩ : ∃ D, w.heap.size = D := ⟨_, rfl⟩
  go_enter Tryz.func19, Tryz.ntmps19
  have ld1 : (w.alloc (.cells #[.string nm, .string tn, .int .i64 a, .int .i64 b, .int .i64 f, .slice sa n cp] 26)).heap[D]? = some (.cells #[.string nm, .string tn, .int .i64 a, .int .i64 b, .int .i64 f, .slice sa n cp] 26) := (heap_new (by first | omega | (simp; omega)))
  have y1_0 := cell6_0 ld1
  have y1_1 := cell6_1 ld1
  have y1_2 := cell6_2 ld1
  have y1_3 := cell6_3 ld1
  have y1_4 := cell6_4 ld1
  have y1_5 := cell6_5 ld1
  clear ld1
  have W1 : Wd (w.alloc (.cells #[.string nm, .string tn, .int .i64 a, .int .i64 b, .int .i64 f, .slice sa n cp] 26)) (.slice sa n cp) n X := hW.out.below (by first | exact ((Below.refl _ w).alloc (by first | omega | (simp; omega)) (.cells #[.string nm, .string tn, .int .i64 a, .int .i64 b, .int .i64 f, .slice sa n cp] 26)) | (rw [hD]; exact ((Below.refl _ w).alloc (by first | omega | (simp; omega)) (.cells #[.string nm, .string tn, .int .i64 a, .int .i64 b, .int .i64 f, .slice sa n cp] 26))))
  go_wp2_with fail
  refine (CP.out _ W1).mono ?_
  rintro e v2 ⟨rfl, hb_v2⟩
  have cR_v2 : v2.heap[D]? = some (.cells #[.string nm, .string tn, .int .i64 a, .int .i64 b, .int .i64 f, .slice sa n cp] 26) := (hb_v2.block (D) (Array.getElem?_eq_some_iff.1 (show (w.alloc (.cells #[.string nm, .string tn, .int .i64 a, .int .i64 b, .int .i64 f, .slice sa n cp] 26)).heap[D]? = some (.cells #[.string nm, .string tn, .int .i64 a, .int .i64 b, .int .i64 f, .slice sa n cp] 26) from (heap_new (by first | omega | (simp; omega))))).1).trans (heap_new (by first | omega | (simp; omega)))
  have hw_v2 : Below D w v2 := (((Below.refl _ w).alloc (by first | omega | (simp; omega)) (.cells #[.string nm, .string tn, .int .i64 a, .int .i64 b, .int .i64 f, .slice sa n cp] 26))).trans (hb_v2.mono (by first | omega | (simp; omega)))
  clear hb_v2 y1_0 y1_1 y1_2 y1_3 y1_4 y1_5
  have HW := Lib.hid (hw_v2)
  go_wp2
  go_ret2
  exact ⟨rfl, by first | exact HW.out | (rw [hD]; exact HW.out)⟩

set_option maxRecDepth 100000 in
set_option maxHeartbeats 4000000 in
theorem windat_bad (nm tn : ByteArray) (a b f : Int) (v : Value) (n : Nat) (X : Nat → Int) (k z : Int) (s1 : nm.size ≤ 1099511627776) (s2 : tn.size ≤ 1099511627776) (hn : n ≤ 1099511627776) (hz : cpE (rkE nm tn a b f n X) k n = z) (hne : ¬ z = 0) (w : World) (hWd : Wd w v n X) :
    Calls Tryz.prog 21 #[.agg #[.string nm, .string tn, .int .i64 a, .int .i64 b, .int .i64 f, v], .int .i64 k] w fun e w' => e = .returned (.tuple #[.int .i64 0, .int .i64 z]) ∧ Below w.heap.size w w' := by
  have CP := Lib.hid (fun W h => cpipe_c nm tn a b f v n X k s1 s2 hn W h)
  rw [hz] at CP
  clear hz
  obtain ⟨sa, cp, rfl⟩ := hWd.len
  have hW := Lib.hid hWd
  clear hWd
  obtain ⟨D, hD⟩ : ∃ D, w.heap.size = D := ⟨_, rfl⟩
  go_enter Tryz.func21, Tryz.ntmps21
  have ld1 : (w.alloc (.cells #[.string nm, .string tn, .int .i64 a, .int .i64 b, .int .i64 f, .slice sa n cp] 26)).heap[D]? = some (.cells #[.string nm, .string tn, .int .i64 a, .int .i64 b, .int .i64 f, .slice sa n cp] 26) := (heap_new (by first | omega | (simp; omega)))
  have y1_0 := cell6_0 ld1
  have y1_1 := cell6_1 ld1
  have y1_2 := cell6_2 ld1
  have y1_3 := cell6_3 ld1
  have y1_4 := cell6_4 ld1
  have y1_5 := cell6_5 ld1
  clear ld1
  have W2 : Wd (w.alloc (.cells #[.string nm, .string tn, .int .i64 a, .int .i64 b, .int .i64 f, .slice sa n cp] 26)) (.slice sa n cp) n X := hW.out.below (by first | exact ((Below.refl _ w).alloc (by first | omega | (simp; omega)) (.cells #[.string nm, .string tn, .int .i64 a, .int .i64 b, .int .i64 f, .slice sa n cp] 26)) | (rw [hD]; exact ((Below.refl _ w).alloc (by first | omega | (simp; omega)) (.cells #[.string nm, .string tn, .int .i64 a, .int .i64 b, .int .i64 f, .slice sa n cp] 26))))
  go_wp2_with fail
  refine (CP.out _ W2).mono ?_
  rintro e v2 ⟨rfl, hb_v2⟩
  have cR_v2 : v2.heap[D]? = some (.cells #[.string nm, .string tn, .int .i64 a, .int .i64 b, .int .i64 f, .slice sa n cp] 26) := (hb_v2.block (D) (Array.getElem?_eq_some_iff.1 (show (w.alloc (.cells #[.string nm, .string tn, .int .i64 a, .int .i64 b, .int .i64 f, .slice sa n cp] 26)).heap[D]? = some (.cells #[.string nm, .string tn, .int .i64 a, .int .i64 b, .int .i64 f, .slice sa n cp] 26) from (heap_new (by first | omega | (simp; omega))))).1).trans (heap_new (by first | omega | (simp; omega)))
  have hw_v2 : Below D w v2 := (((Below.refl _ w).alloc (by first | omega | (simp; omega)) (.cells #[.string nm, .string tn, .int .i64 a, .int .i64 b, .int .i64 f, .slice sa n cp] 26))).trans (hb_v2.mono (by first | omega | (simp; omega)))
  clear hb_v2 y1_0 y1_1 y1_2 y1_3 y1_4 y1_5
  have HW := Lib.hid (hw_v2)
  go_wp2
  go_ret2
  exact ⟨rfl, by first | exact HW.out | (rw [hD]; exact HW.out)⟩

set_option maxRecDepth 100000 in
set_option maxHeartbeats 4000000 in
theorem note_ok (nm tn : ByteArray) (a b f : Int) (v : Value) (n : Nat) (X : Nat → Int) (k : Int) (s1 : nm.size ≤ 1099511627776) (s2 : tn.size ≤ 1099511627776) (hn : n ≤ 1099511627776) (hz : cpE (rkE nm tn a b f n X) k n = 0) (w : World) (hWd : Wd w v n X) :
    Calls Tryz.prog 19 #[.agg #[.string nm, .string tn, .int .i64 a, .int .i64 b, .int .i64 f, v], .int .i64 k] w fun e w' => e = .returned (.tuple #[.int .i64 (f + k), .int .i64 0]) ∧ Below w.heap.size w w' := by
  have CP := Lib.hid (fun W h => cpipe_c nm tn a b f v n X k s1 s2 hn W h)
  rw [hz] at CP
  obtain ⟨h0, h1, h2⟩ := cp_ok hz
  obtain ⟨_, _, _, hf, _, hn1, _⟩ := rk_ok h0
  have q1 := wrap_in (q := f + k) (by omega) (by omega)
  clear hz h0 h1 h2 hf hn1
  obtain ⟨sa, cp, rfl⟩ := hWd.len
  have hW := Lib.hid hWd
  clear hWd
  obtain ⟨D, hD⟩ : ∃ D, w.heap.size = D := ⟨_, rfl⟩
  go_enter Tryz.func19, Tryz.ntmps19
  have ld1 : (w.alloc (.cells #[.string nm, .string tn, .int .i64 a, .int .i64 b, .int .i64 f, .slice sa n cp] 26)).heap[D]? = some (.cells #[.string nm, .string tn, .int .i64 a, .int .i64 b, .int .i64 f, .slice sa n cp] 26) := (heap_new (by first | omega | (simp; omega)))
  have y1_0 := cell6_0 ld1
  have y1_1 := cell6_1 ld1
  have y1_2 := cell6_2 ld1
  have y1_3 := cell6_3 ld1
  have y1_4 := cell6_4 ld1
  have y1_5 := cell6_5 ld1
  clear ld1
  have W3 : Wd (w.alloc (.cells #[.string nm, .string tn, .int .i64 a, .int .i64 b, .int .i64 f, .slice sa n cp] 26)) (.slice sa n cp) n X := hW.out.below (by first | exact ((Below.refl _ w).alloc (by first | omega | (simp; omega)) (.cells #[.string nm, .string tn, .int .i64 a, .int .i64 b, .int .i64 f, .slice sa n cp] 26)) | (rw [hD]; exact ((Below.refl _ w).alloc (by first | omega | (simp; omega)) (.cells #[.string nm, .string tn, .int .i64 a, .int .i64 b, .int .i64 f, .slice sa n cp] 26))))
  go_wp2_with fail
  refine (CP.out _ W3).mono ?_
  rintro e v2 ⟨rfl, hb_v2⟩
  have cR_v2 : v2.heap[D]? = some (.cells #[.string nm, .string tn, .int .i64 a, .int .i64 b, .int .i64 f, .slice sa n cp] 26) := (hb_v2.block (D) (Array.getElem?_eq_some_iff.1 (show (w.alloc (.cells #[.string nm, .string tn, .int .i64 a, .int .i64 b, .int .i64 f, .slice sa n cp] 26)).heap[D]? = some (.cells #[.string nm, .string tn, .int .i64 a, .int .i64 b, .int .i64 f, .slice sa n cp] 26) from (heap_new (by first | omega | (simp; omega))))).1).trans (heap_new (by first | omega | (simp; omega)))
  have hw_v2 : Below D w v2 := (((Below.refl _ w).alloc (by first | omega | (simp; omega)) (.cells #[.string nm, .string tn, .int .i64 a, .int .i64 b, .int .i64 f, .slice sa n cp] 26))).trans (hb_v2.mono (by first | omega | (simp; omega)))
  clear hb_v2 y1_0 y1_1 y1_2 y1_3 y1_4 y1_5
  have ld3 : v2.heap[D]? = some (.cells #[.string nm, .string tn, .int .i64 a, .int .i64 b, .int .i64 f, .slice sa n cp] 26) := cR_v2
  have y3_0 := cell6_0 ld3
  have y3_1 := cell6_1 ld3
  have y3_2 := cell6_2 ld3
  have y3_3 := cell6_3 ld3
  have y3_4 := cell6_4 ld3
  have y3_5 := cell6_5 ld3
  clear ld3
  have HW := Lib.hid (hw_v2)
  go_wp2
  go_ret2
  exact ⟨rfl, by first | exact HW.out | (rw [hD]; exact HW.out)⟩

set_option maxRecDepth 100000 in
set_option maxHeartbeats 4000000 in
theorem windat_ok (nm tn : ByteArray) (a b f : Int) (v : Value) (n : Nat) (X : Nat → Int) (k : Nat) (s1 : nm.size ≤ 1099511627776) (s2 : tn.size ≤ 1099511627776) (hn : n ≤ 1099511627776) (hz : cpE (rkE nm tn a b f n X) k n = 0) (w : World) (hWd : Wd w v n X) :
    Calls Tryz.prog 21 #[.agg #[.string nm, .string tn, .int .i64 a, .int .i64 b, .int .i64 f, v], .int .i64 (k : Int)] w fun e w' => e = .returned (.tuple #[.int .i64 (X k), .int .i64 0]) ∧ Below w.heap.size w w' := by
  have CP := Lib.hid (fun W h => cpipe_c nm tn a b f v n X k s1 s2 hn W h)
  rw [hz] at CP
  obtain ⟨h0, h1, h2⟩ := cp_ok hz
  have hkn : k < n := by omega
  clear hz h0
  obtain ⟨sa, cp, rfl⟩ := hWd.len
  have hW := Lib.hid hWd
  clear hWd
  obtain ⟨D, hD⟩ : ∃ D, w.heap.size = D := ⟨_, rfl⟩
  go_enter Tryz.func21, Tryz.ntmps21
  have ld1 : (w.alloc (.cells #[.string nm, .string tn, .int .i64 a, .int .i64 b, .int .i64 f, .slice sa n cp] 26)).heap[D]? = some (.cells #[.string nm, .string tn, .int .i64 a, .int .i64 b, .int .i64 f, .slice sa n cp] 26) := (heap_new (by first | omega | (simp; omega)))
  have y1_0 := cell6_0 ld1
  have y1_1 := cell6_1 ld1
  have y1_2 := cell6_2 ld1
  have y1_3 := cell6_3 ld1
  have y1_4 := cell6_4 ld1
  have y1_5 := cell6_5 ld1
  clear ld1
  have W4 : Wd (w.alloc (.cells #[.string nm, .string tn, .int .i64 a, .int .i64 b, .int .i64 f, .slice sa n cp] 26)) (.slice sa n cp) n X := hW.out.below (by first | exact ((Below.refl _ w).alloc (by first | omega | (simp; omega)) (.cells #[.string nm, .string tn, .int .i64 a, .int .i64 b, .int .i64 f, .slice sa n cp] 26)) | (rw [hD]; exact ((Below.refl _ w).alloc (by first | omega | (simp; omega)) (.cells #[.string nm, .string tn, .int .i64 a, .int .i64 b, .int .i64 f, .slice sa n cp] 26))))
  go_wp2_with fail
  refine (CP.out _ W4).mono ?_
  rintro e v2 ⟨rfl, hb_v2⟩
  have cR_v2 : v2.heap[D]? = some (.cells #[.string nm, .string tn, .int .i64 a, .int .i64 b, .int .i64 f, .slice sa n cp] 26) := (hb_v2.block (D) (Array.getElem?_eq_some_iff.1 (show (w.alloc (.cells #[.string nm, .string tn, .int .i64 a, .int .i64 b, .int .i64 f, .slice sa n cp] 26)).heap[D]? = some (.cells #[.string nm, .string tn, .int .i64 a, .int .i64 b, .int .i64 f, .slice sa n cp] 26) from (heap_new (by first | omega | (simp; omega))))).1).trans (heap_new (by first | omega | (simp; omega)))
  have hw_v2 : Below D w v2 := (((Below.refl _ w).alloc (by first | omega | (simp; omega)) (.cells #[.string nm, .string tn, .int .i64 a, .int .i64 b, .int .i64 f, .slice sa n cp] 26))).trans (hb_v2.mono (by first | omega | (simp; omega)))
  clear hb_v2 y1_0 y1_1 y1_2 y1_3 y1_4 y1_5
  have ld3 : v2.heap[D]? = some (.cells #[.string nm, .string tn, .int .i64 a, .int .i64 b, .int .i64 f, .slice sa n cp] 26) := cR_v2
  have y3_0 := cell6_0 ld3
  have y3_1 := cell6_1 ld3
  have y3_2 := cell6_2 ld3
  have y3_3 := cell6_3 ld3
  have y3_4 := cell6_4 ld3
  have y3_5 := cell6_5 ld3
  clear ld3
  have W5 : Wd v2 (.slice sa n cp) n X := hW.out.below (by first | exact hw_v2 | (rw [hD]; exact hw_v2))
  obtain ⟨g, o, c, e0, hc, hg, c0⟩ := W5.at hkn
  cases e0
  clear W5
  have HW := Lib.hid (hw_v2)
  go_wp2
  go_ret2
  exact ⟨rfl, by first | exact HW.out | (rw [hD]; exact HW.out)⟩

set_option maxRecDepth 100000 in
set_option maxHeartbeats 4000000 in
theorem last_bad (nm tn : ByteArray) (a b f : Int) (v : Value) (n : Nat) (X : Nat → Int) (z : Int) (s1 : nm.size ≤ 1099511627776) (s2 : tn.size ≤ 1099511627776) (hn : n ≤ 1099511627776) (hz : rkE nm tn a b f n X = z) (hne : ¬ z = 0) (w : World) (hWd : Wd w v n X) :
    Calls Tryz.prog 20 #[.agg #[.string nm, .string tn, .int .i64 a, .int .i64 b, .int .i64 f, v]] w fun e w' => e = .returned (.tuple #[.int .i64 0, .int .i64 z]) ∧ Below w.heap.size w w' := by
  have CK := Lib.hid (fun W h => rcheck_c nm tn a b f v n X s1 s2 hn W h)
  rw [hz] at CK
  clear hz
  obtain ⟨sa, cp, rfl⟩ := hWd.len
  have hW := Lib.hid hWd
  clear hWd
  obtain ⟨D, hD⟩ : ∃ D, w.heap.size = D := ⟨_, rfl⟩
  go_enter Tryz.func20, Tryz.ntmps20
  have ld1 : (w.alloc (.cells #[.string nm, .string tn, .int .i64 a, .int .i64 b, .int .i64 f, .slice sa n cp] 26)).heap[D]? = some (.cells #[.string nm, .string tn, .int .i64 a, .int .i64 b, .int .i64 f, .slice sa n cp] 26) := (heap_new (by first | omega | (simp; omega)))
  have y1_0 := cell6_0 ld1
  have y1_1 := cell6_1 ld1
  have y1_2 := cell6_2 ld1
  have y1_3 := cell6_3 ld1
  have y1_4 := cell6_4 ld1
  have y1_5 := cell6_5 ld1
  clear ld1
  have W6 : Wd (w.alloc (.cells #[.string nm, .string tn, .int .i64 a, .int .i64 b, .int .i64 f, .slice sa n cp] 26)) (.slice sa n cp) n X := hW.out.below (by first | exact ((Below.refl _ w).alloc (by first | omega | (simp; omega)) (.cells #[.string nm, .string tn, .int .i64 a, .int .i64 b, .int .i64 f, .slice sa n cp] 26)) | (rw [hD]; exact ((Below.refl _ w).alloc (by first | omega | (simp; omega)) (.cells #[.string nm, .string tn, .int .i64 a, .int .i64 b, .int .i64 f, .slice sa n cp] 26))))
  go_wp2_with fail
  refine (CK.out _ W6).mono ?_
  rintro e v2 ⟨rfl, hb_v2⟩
  have cR_v2 : v2.heap[D]? = some (.cells #[.string nm, .string tn, .int .i64 a, .int .i64 b, .int .i64 f, .slice sa n cp] 26) := (hb_v2.block (D) (Array.getElem?_eq_some_iff.1 (show (w.alloc (.cells #[.string nm, .string tn, .int .i64 a, .int .i64 b, .int .i64 f, .slice sa n cp] 26)).heap[D]? = some (.cells #[.string nm, .string tn, .int .i64 a, .int .i64 b, .int .i64 f, .slice sa n cp] 26) from (heap_new (by first | omega | (simp; omega))))).1).trans (heap_new (by first | omega | (simp; omega)))
  have hw_v2 : Below D w v2 := (((Below.refl _ w).alloc (by first | omega | (simp; omega)) (.cells #[.string nm, .string tn, .int .i64 a, .int .i64 b, .int .i64 f, .slice sa n cp] 26))).trans (hb_v2.mono (by first | omega | (simp; omega)))
  clear hb_v2 y1_0 y1_1 y1_2 y1_3 y1_4 y1_5
  have HW := Lib.hid (hw_v2)
  go_wp2
  go_ret2
  exact ⟨rfl, by first | exact HW.out | (rw [hD]; exact HW.out)⟩

set_option maxRecDepth 100000 in
set_option maxHeartbeats 4000000 in
theorem last_ok (nm tn : ByteArray) (a b f : Int) (v : Value) (n : Nat) (X : Nat → Int) (s1 : nm.size ≤ 1099511627776) (s2 : tn.size ≤ 1099511627776) (hn : n ≤ 1099511627776) (hz : rkE nm tn a b f n X = 0) (w : World) (hWd : Wd w v n X) :
    Calls Tryz.prog 20 #[.agg #[.string nm, .string tn, .int .i64 a, .int .i64 b, .int .i64 f, v]] w fun e w' => e = .returned (.tuple #[.int .i64 (f + n - 1), .int .i64 0]) ∧ Below w.heap.size w w' := by
  have CK := Lib.hid (fun W h => rcheck_c nm tn a b f v n X s1 s2 hn W h)
  obtain ⟨_, _, _, hf, hn0, hn1, _⟩ := rk_ok hz
  have LA := Lib.hid (fun W h => last_c nm tn a b f v n X hf hn1 W h)
  rw [hz] at CK
  clear hz hf hn0 hn1
  obtain ⟨sa, cp, rfl⟩ := hWd.len
  have hW := Lib.hid hWd
  clear hWd
  obtain ⟨D, hD⟩ : ∃ D, w.heap.size = D := ⟨_, rfl⟩
  go_enter Tryz.func20, Tryz.ntmps20
  have ld1 : (w.alloc (.cells #[.string nm, .string tn, .int .i64 a, .int .i64 b, .int .i64 f, .slice sa n cp] 26)).heap[D]? = some (.cells #[.string nm, .string tn, .int .i64 a, .int .i64 b, .int .i64 f, .slice sa n cp] 26) := (heap_new (by first | omega | (simp; omega)))
  have y1_0 := cell6_0 ld1
  have y1_1 := cell6_1 ld1
  have y1_2 := cell6_2 ld1
  have y1_3 := cell6_3 ld1
  have y1_4 := cell6_4 ld1
  have y1_5 := cell6_5 ld1
  clear ld1
  have W7 : Wd (w.alloc (.cells #[.string nm, .string tn, .int .i64 a, .int .i64 b, .int .i64 f, .slice sa n cp] 26)) (.slice sa n cp) n X := hW.out.below (by first | exact ((Below.refl _ w).alloc (by first | omega | (simp; omega)) (.cells #[.string nm, .string tn, .int .i64 a, .int .i64 b, .int .i64 f, .slice sa n cp] 26)) | (rw [hD]; exact ((Below.refl _ w).alloc (by first | omega | (simp; omega)) (.cells #[.string nm, .string tn, .int .i64 a, .int .i64 b, .int .i64 f, .slice sa n cp] 26))))
  go_wp2_with fail
  refine (CK.out _ W7).mono ?_
  rintro e v2 ⟨rfl, hb_v2⟩
  have cR_v2 : v2.heap[D]? = some (.cells #[.string nm, .string tn, .int .i64 a, .int .i64 b, .int .i64 f, .slice sa n cp] 26) := (hb_v2.block (D) (Array.getElem?_eq_some_iff.1 (show (w.alloc (.cells #[.string nm, .string tn, .int .i64 a, .int .i64 b, .int .i64 f, .slice sa n cp] 26)).heap[D]? = some (.cells #[.string nm, .string tn, .int .i64 a, .int .i64 b, .int .i64 f, .slice sa n cp] 26) from (heap_new (by first | omega | (simp; omega))))).1).trans (heap_new (by first | omega | (simp; omega)))
  have hw_v2 : Below D w v2 := (((Below.refl _ w).alloc (by first | omega | (simp; omega)) (.cells #[.string nm, .string tn, .int .i64 a, .int .i64 b, .int .i64 f, .slice sa n cp] 26))).trans (hb_v2.mono (by first | omega | (simp; omega)))
  clear hb_v2 y1_0 y1_1 y1_2 y1_3 y1_4 y1_5
  have ld3 : v2.heap[D]? = some (.cells #[.string nm, .string tn, .int .i64 a, .int .i64 b, .int .i64 f, .slice sa n cp] 26) := cR_v2
  have y3_0 := cell6_0 ld3
  have y3_1 := cell6_1 ld3
  have y3_2 := cell6_2 ld3
  have y3_3 := cell6_3 ld3
  have y3_4 := cell6_4 ld3
  have y3_5 := cell6_5 ld3
  clear ld3
  have W8 : Wd v2 (.slice sa n cp) n X := hW.out.below (by first | exact hw_v2 | (rw [hD]; exact hw_v2))
  go_wp2_with fail
  refine (LA.out _ W8).mono ?_
  rintro e v4 ⟨rfl, hb_v4⟩
  have hs_v4 := hw_v2.size
  have cR_v4 : v4.heap[D]? = some (.cells #[.string nm, .string tn, .int .i64 a, .int .i64 b, .int .i64 f, .slice sa n cp] 26) := (hb_v4.block (D) (Array.getElem?_eq_some_iff.1 (show v2.heap[D]? = some (.cells #[.string nm, .string tn, .int .i64 a, .int .i64 b, .int .i64 f, .slice sa n cp] 26) from cR_v2)).1).trans cR_v2
  have hw_v4 : Below D w v4 := (hw_v2).trans (hb_v4.mono (by first | omega | (simp; omega)))
  clear cR_v2 hb_v4 y3_0 y3_1 y3_2 y3_3 y3_4 y3_5 hw_v2 hs_v4
  have HW := Lib.hid (hw_v4)
  go_wp2
  go_ret2
  exact ⟨rfl, by first | exact HW.out | (rw [hD]; exact HW.out)⟩

set_option maxRecDepth 100000 in
set_option maxHeartbeats 4000000 in
theorem total_bad (nm tn : ByteArray) (a b f : Int) (v : Value) (n : Nat) (X : Nat → Int) (z : Int) (s1 : nm.size ≤ 1099511627776) (s2 : tn.size ≤ 1099511627776) (hn : n ≤ 1099511627776) (hz : rkE nm tn a b f n X = z) (hne : ¬ z = 0) (w : World) (hWd : Wd w v n X) :
    Calls Tryz.prog 22 #[.agg #[.string nm, .string tn, .int .i64 a, .int .i64 b, .int .i64 f, v]] w fun e w' => e = .returned (.tuple #[.int .i64 0, .int .i64 z]) ∧ Below w.heap.size w w' := by
  have CK := Lib.hid (fun W h => rcheck_c nm tn a b f v n X s1 s2 hn W h)
  rw [hz] at CK
  clear hz
  obtain ⟨sa, cp, rfl⟩ := hWd.len
  have hW := Lib.hid hWd
  clear hWd
  obtain ⟨D, hD⟩ : ∃ D, w.heap.size = D := ⟨_, rfl⟩
  go_enter Tryz.func22, Tryz.ntmps22
  have ld1 : (w.alloc (.cells #[.string nm, .string tn, .int .i64 a, .int .i64 b, .int .i64 f, .slice sa n cp] 26)).heap[D]? = some (.cells #[.string nm, .string tn, .int .i64 a, .int .i64 b, .int .i64 f, .slice sa n cp] 26) := (heap_new (by first | omega | (simp; omega)))
  have y1_0 := cell6_0 ld1
  have y1_1 := cell6_1 ld1
  have y1_2 := cell6_2 ld1
  have y1_3 := cell6_3 ld1
  have y1_4 := cell6_4 ld1
  have y1_5 := cell6_5 ld1
  clear ld1
  have W9 : Wd (w.alloc (.cells #[.string nm, .string tn, .int .i64 a, .int .i64 b, .int .i64 f, .slice sa n cp] 26)) (.slice sa n cp) n X := hW.out.below (by first | exact ((Below.refl _ w).alloc (by first | omega | (simp; omega)) (.cells #[.string nm, .string tn, .int .i64 a, .int .i64 b, .int .i64 f, .slice sa n cp] 26)) | (rw [hD]; exact ((Below.refl _ w).alloc (by first | omega | (simp; omega)) (.cells #[.string nm, .string tn, .int .i64 a, .int .i64 b, .int .i64 f, .slice sa n cp] 26))))
  go_wp2_with fail
  refine (CK.out _ W9).mono ?_
  rintro e v2 ⟨rfl, hb_v2⟩
  have cR_v2 : v2.heap[D]? = some (.cells #[.string nm, .string tn, .int .i64 a, .int .i64 b, .int .i64 f, .slice sa n cp] 26) := (hb_v2.block (D) (Array.getElem?_eq_some_iff.1 (show (w.alloc (.cells #[.string nm, .string tn, .int .i64 a, .int .i64 b, .int .i64 f, .slice sa n cp] 26)).heap[D]? = some (.cells #[.string nm, .string tn, .int .i64 a, .int .i64 b, .int .i64 f, .slice sa n cp] 26) from (heap_new (by first | omega | (simp; omega))))).1).trans (heap_new (by first | omega | (simp; omega)))
  have hw_v2 : Below D w v2 := (((Below.refl _ w).alloc (by first | omega | (simp; omega)) (.cells #[.string nm, .string tn, .int .i64 a, .int .i64 b, .int .i64 f, .slice sa n cp] 26))).trans (hb_v2.mono (by first | omega | (simp; omega)))
  clear hb_v2 y1_0 y1_1 y1_2 y1_3 y1_4 y1_5
  have HW := Lib.hid (hw_v2)
  go_wp2
  go_ret2
  exact ⟨rfl, by first | exact HW.out | (rw [hD]; exact HW.out)⟩

set_option maxRecDepth 100000 in
set_option maxHeartbeats 4000000 in
theorem total_ok (nm tn : ByteArray) (a b f : Int) (v : Value) (n : Nat) (X : Nat → Int) (s1 : nm.size ≤ 1099511627776) (s2 : tn.size ≤ 1099511627776) (hn : n ≤ 1099511627776) (hz : rkE nm tn a b f n X = 0) (w : World) (hWd : Wd w v n X) :
    Calls Tryz.prog 22 #[.agg #[.string nm, .string tn, .int .i64 a, .int .i64 b, .int .i64 f, v]] w fun e w' => e = .returned (.tuple #[.int .i64 (sumI X n), .int .i64 0]) ∧ Below w.heap.size w w' := by
  have CK := Lib.hid (fun W h => rcheck_c nm tn a b f v n X s1 s2 hn W h)
  obtain ⟨_, _, _, _, hn0, hn1, hx⟩ := rk_ok hz
  have HX := Lib.hid (sumI_bd hx)
  have HS := Lib.hid (fun k => show sumI X (k + 1) = sumI X k + X k from rfl)
  rw [hz] at CK
  clear hz hx
  obtain ⟨sa, cp, rfl⟩ := hWd.len
  have hW := Lib.hid hWd
  clear hWd
  obtain ⟨D, hD⟩ : ∃ D, w.heap.size = D := ⟨_, rfl⟩
  go_enter Tryz.func22, Tryz.ntmps22
  have ld1 : (w.alloc (.cells #[.string nm, .string tn, .int .i64 a, .int .i64 b, .int .i64 f, .slice sa n cp] 26)).heap[D]? = some (.cells #[.string nm, .string tn, .int .i64 a, .int .i64 b, .int .i64 f, .slice sa n cp] 26) := (heap_new (by first | omega | (simp; omega)))
  have y1_0 := cell6_0 ld1
  have y1_1 := cell6_1 ld1
  have y1_2 := cell6_2 ld1
  have y1_3 := cell6_3 ld1
  have y1_4 := cell6_4 ld1
  have y1_5 := cell6_5 ld1
  clear ld1
  have W10 : Wd (w.alloc (.cells #[.string nm, .string tn, .int .i64 a, .int .i64 b, .int .i64 f, .slice sa n cp] 26)) (.slice sa n cp) n X := hW.out.below (by first | exact ((Below.refl _ w).alloc (by first | omega | (simp; omega)) (.cells #[.string nm, .string tn, .int .i64 a, .int .i64 b, .int .i64 f, .slice sa n cp] 26)) | (rw [hD]; exact ((Below.refl _ w).alloc (by first | omega | (simp; omega)) (.cells #[.string nm, .string tn, .int .i64 a, .int .i64 b, .int .i64 f, .slice sa n cp] 26))))
  go_wp2_with fail
  refine (CK.out _ W10).mono ?_
  rintro e v2 ⟨rfl, hb_v2⟩
  have cR_v2 : v2.heap[D]? = some (.cells #[.string nm, .string tn, .int .i64 a, .int .i64 b, .int .i64 f, .slice sa n cp] 26) := (hb_v2.block (D) (Array.getElem?_eq_some_iff.1 (show (w.alloc (.cells #[.string nm, .string tn, .int .i64 a, .int .i64 b, .int .i64 f, .slice sa n cp] 26)).heap[D]? = some (.cells #[.string nm, .string tn, .int .i64 a, .int .i64 b, .int .i64 f, .slice sa n cp] 26) from (heap_new (by first | omega | (simp; omega))))).1).trans (heap_new (by first | omega | (simp; omega)))
  have hw_v2 : Below D w v2 := (((Below.refl _ w).alloc (by first | omega | (simp; omega)) (.cells #[.string nm, .string tn, .int .i64 a, .int .i64 b, .int .i64 f, .slice sa n cp] 26))).trans (hb_v2.mono (by first | omega | (simp; omega)))
  clear hb_v2 y1_0 y1_1 y1_2 y1_3 y1_4 y1_5
  have ld3 : v2.heap[D]? = some (.cells #[.string nm, .string tn, .int .i64 a, .int .i64 b, .int .i64 f, .slice sa n cp] 26) := cR_v2
  have y3_0 := cell6_0 ld3
  have y3_1 := cell6_1 ld3
  have y3_2 := cell6_2 ld3
  have y3_3 := cell6_3 ld3
  have y3_4 := cell6_4 ld3
  have y3_5 := cell6_5 ld3
  clear ld3
  have W11 : Wd v2 (.slice sa n cp) n X := hW.out.below (by first | exact hw_v2 | (rw [hD]; exact hw_v2))
  have HY := Lib.hid W11
  have HB := Lib.hid hw_v2
  clear W11 hw_v2
  go_wp2_with fail
  go_loopw [5, 7, 16] (fun s x i wr => ∃ k : Nat, k ≤ n ∧ s = .int .i64 (sumI X k) ∧ i = .int .i64 (k : Int) ∧ wr = v2) (fun _ _ i _ => (n - intOf i).toNat)
  case atStart => exact ⟨0, Nat.zero_le _, rfl, rfl, by first | rfl | trivial⟩
  case round =>
    obtain ⟨k, hk, rfl, rfl, hwr⟩ := hrel
    subst wr
    by_cases hkn : k < n
    · have hki : (k : Int) < n := by omega
      obtain ⟨g, o, c, e0, hc, hg, c0⟩ := HY.out.at hkn
      cases e0
      have b1 := HX.out k hk
      have b2 := HX.out (k + 1) hkn
      rw [HS.out] at b2
      have q1 := wrap_in (q := sumI X k + X k) (by omega) (by omega)
      have q2 := wrap_in (q := (k : Int) + 1) (by omega) (by omega)
      go_wp2_with fail
      go_roundw
      case rel => exact ⟨k + 1, hkn, by rw [HS.out], rfl, by first | rfl | trivial⟩
      case measure => simp [intOf]; omega
    · obtain rfl : k = n := by omega
      have hki : ¬ (k : Int) < k := by omega
      go_wp2
      go_ret2
      exact ⟨rfl, by first | exact HB.out | (rw [hD]; exact HB.out)⟩
end Go.Proofs.YtbkbncapgljfaaaGreatDoor
