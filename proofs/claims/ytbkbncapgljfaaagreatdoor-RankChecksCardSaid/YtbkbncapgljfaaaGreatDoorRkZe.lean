/- The walk of RankChecks. -/
import Derived.Test.YtbkbncapgljfaaaGreatDoorRkZ
import Derived.Test.YtbkbncapgljfaaaGreatDoorRkZd
namespace Go.Proofs.YtbkbncapgljfaaaGreatDoor
open Go Go.RowKit Go.Shelf

def rcI (D : Nat) (nm tn : ByteArray) (a b f : Int) (sa : Option Addr) (n cp : Nat) (z : Int) (nb : Bool) : Nat → Value → World → Prop
  | 0, v, _ => v = .agg #[.string nm, .string tn, .int .i64 a, .int .i64 b, .int .i64 f, .slice sa n cp]
  | 1, v, _ => v = .int .i64 z
  | 2, v, _ => v = .int .i64 z
  | 3, v, _ => v = .bool false
  | 4, v, _ => v = .bool false
  | 5, v, _ => v = .pointer (some ⟨D, 0, none⟩)
  | 6, v, _ => v = .string nm
  | 7, v, _ => v = .bool nb
  | 8, v, _ => v = .pointer (some ⟨D, 0, none⟩)
  | 9, v, _ => v = .string nm
  | 10, v, _ => v = .bool nb
  | 11, v, _ => v = .bool false
  | 12, v, _ => v = .bool false
  | 13, v, _ => v = .bool false
  | 14, v, _ => v = .agg #[.string nm, .string tn, .int .i64 a, .int .i64 b, .int .i64 f, .slice sa n cp]
  | 15, v, _ => v = .agg #[.string nm, .string tn, .int .i64 a, .int .i64 b, .int .i64 f, .slice sa n cp]
  | 16, v, _ => v = .bool true
  | 17, v, _ => v = .bool false
  | 18, v, _ => v = .bool false
  | _, _, _ => True

theorem rcI_up (D : Nat) (nm tn : ByteArray) (a b f : Int) (sa : Option Addr) (n cp : Nat) (z : Int) (nb : Bool) : ∀ (j : Nat) (v : Value) (A B : World), Below A.heap.size A B → rcI D nm tn a b f sa n cp z nb j v A → rcI D nm tn a b f sa n cp z nb j v B
  | 0, _, _, _, _, h => h
  | 1, _, _, _, _, h => h
  | 2, _, _, _, _, h => h
  | 3, _, _, _, _, h => h
  | 4, _, _, _, _, h => h
  | 5, _, _, _, _, h => h
  | 6, _, _, _, _, h => h
  | 7, _, _, _, _, h => h
  | 8, _, _, _, _, h => h
  | 9, _, _, _, _, h => h
  | 10, _, _, _, _, h => h
  | 11, _, _, _, _, h => h
  | 12, _, _, _, _, h => h
  | 13, _, _, _, _, h => h
  | 14, _, _, _, _, h => h
  | 15, _, _, _, _, h => h
  | 16, _, _, _, _, h => h
  | 17, _, _, _, _, h => h
  | 18, _, _, _, _, h => h
  | _ + 19, _, _, _, _, _ => trivial

def rdI (V : World) (nm tn : ByteArray) (a b f : Int) (sa : Option Addr) (n cp : Nat) (z : Int) : Nat → Value → World → Prop
  | 0, v, W => ∃ sr cr, v = .agg #[.string ⟨#[82, 111, 119]⟩, .string ⟨#[79, 112, 101, 110]⟩, .int .i64 8, .int .i64 1, .int .i64 0, .slice sr 1 cr] ∧ Wd W (.slice sr 1 cr) 1 (fun _ => 1)
  | 1, v, _ => v = .agg #[.string nm, .string tn, .int .i64 a, .int .i64 b, .int .i64 f, .slice sa n cp]
  | 2, v, _ => v = .tuple #[.agg #[.string ⟨#[]⟩, .string ⟨#[]⟩, .int .i64 0, .int .i64 0, .int .i64 0, .slice none 0 0], .int .i64 z]
  | 3, v, _ => v = .tuple #[.agg #[.string ⟨#[]⟩, .string ⟨#[]⟩, .int .i64 0, .int .i64 0, .int .i64 0, .slice none 0 0], .int .i64 z]
  | 4, v, _ => v = .agg #[.string ⟨#[]⟩, .string ⟨#[]⟩, .int .i64 0, .int .i64 0, .int .i64 0, .slice none 0 0]
  | 5, v, _ => v = .int .i64 z
  | 6, v, W => ∃ E, v = .pointer (some ⟨E, 0, none⟩) ∧ V.heap.size ≤ E ∧ W.heap[E]? = some (.cells #[.string ⟨#[]⟩, .string ⟨#[]⟩, .int .i64 0, .int .i64 0, .int .i64 0, .slice none 0 0] 26)
  | 8, v, _ => v = .int .i64 z
  | _, _, _ => True

theorem rdI_up (V : World) (nm tn : ByteArray) (a b f : Int) (sa : Option Addr) (n cp : Nat) (z : Int) : ∀ (j : Nat) (v : Value) (A B : World), Below A.heap.size A B → rdI V nm tn a b f sa n cp z j v A → rdI V nm tn a b f sa n cp z j v B
  | 0, _, _, _, hb, h => (by obtain ⟨sr, cr, h1, h2⟩ := h; exact ⟨sr, cr, h1, h2.below hb⟩)
  | 1, _, _, _, _, h => h
  | 2, _, _, _, _, h => h
  | 3, _, _, _, _, h => h
  | 4, _, _, _, _, h => h
  | 5, _, _, _, _, h => h
  | 6, _, _, _, hb, h => (by obtain ⟨E, h1, h2, h3⟩ := h; exact ⟨E, h1, h2, (hb.block E (Array.getElem?_eq_some_iff.1 h3).1).trans h3⟩)
  | 7, _, _, _, _, h => h
  | 8, _, _, _, _, h => h
  | _ + 9, _, _, _, _, _ => trivial

def rdJ (z : Int) : Nat → Value → Prop
  | 3, v => v = .tuple #[.agg #[.string ⟨#[]⟩, .string ⟨#[]⟩, .int .i64 0, .int .i64 0, .int .i64 0, .slice none 0 0], .int .i64 z]
  | 5, v => v = .int .i64 z
  | 8, v => v = .int .i64 z
  | _, _ => True
theorem rdJ_of (V : World) (nm tn : ByteArray) (a b f : Int) (sa : Option Addr) (n cp : Nat) (z : Int) : ∀ (j : Nat) (v : Value) (A : World), rdI V nm tn a b f sa n cp z j v A → rdJ z j v
  | 0, _, _, _ => trivial
  | 1, _, _, _ => trivial
  | 2, _, _, _ => trivial
  | 3, _, _, h => h
  | 4, _, _, _ => trivial
  | 5, _, _, h => h
  | 6, _, _, _ => trivial
  | 7, _, _, _ => trivial
  | 8, _, _, h => h
  | _ + 9, _, _, _ => trivial

set_option maxRecDepth 100000 in
set_option maxHeartbeats 8000000 in
theorem checks_many (nm tn : ByteArray) (a b f : Int) (sa : Option Addr) (n cp : Nat) (X : Nat → Int) (hfew : fewB nm tn n = false) (w : World) (h1 : Wd w (.slice sa n cp) n X) (G : Gi w) :
    Calls Tryz.prog 3 #[.agg #[.string nm, .string tn, .int .i64 a, .int .i64 b, .int .i64 f, .slice sa n cp]] w fun e w' => e = .returned (.bool true) ∧ Below w.heap.size w w' := by
  have KN := Lib.hid (fun W G => known_c W G)
  have FA := Lib.hid (fun W h1 => few_c nm tn a b f (.slice sa n cp) n X W h1)
  rw [hfew] at FA
  clear hfew
  have hW := Lib.hid h1
  clear h1
  obtain ⟨D, hD⟩ : ∃ D, w.heap.size = D := ⟨_, rfl⟩
  go_enter Tryz.func3, Tryz.ntmps3
  have G1 : Gi (w.alloc (.cells #[.string nm, .string tn, .int .i64 a, .int .i64 b, .int .i64 f, .slice sa n cp] 26)) := G.below (by first | exact ((Below.refl _ w).alloc (by first | omega | (simp; omega)) (.cells #[.string nm, .string tn, .int .i64 a, .int .i64 b, .int .i64 f, .slice sa n cp] 26)) | (rw [hD]; exact ((Below.refl _ w).alloc (by first | omega | (simp; omega)) (.cells #[.string nm, .string tn, .int .i64 a, .int .i64 b, .int .i64 f, .slice sa n cp] 26))))
  go_wp2_with fail
  refine (KN.out _ G1).mono ?_
  rintro e v1 ⟨rfl, hb_v1⟩
  have cR_v1 : v1.heap[D]? = some (.cells #[.string nm, .string tn, .int .i64 a, .int .i64 b, .int .i64 f, .slice sa n cp] 26) := (hb_v1.block (D) (Array.getElem?_eq_some_iff.1 (show (w.alloc (.cells #[.string nm, .string tn, .int .i64 a, .int .i64 b, .int .i64 f, .slice sa n cp] 26)).heap[D]? = some (.cells #[.string nm, .string tn, .int .i64 a, .int .i64 b, .int .i64 f, .slice sa n cp] 26) from (heap_new (by first | omega | (simp; omega))))).1).trans (heap_new (by first | omega | (simp; omega)))
  have hw_v1 : Below D w v1 := (((Below.refl _ w).alloc (by first | omega | (simp; omega)) (.cells #[.string nm, .string tn, .int .i64 a, .int .i64 b, .int .i64 f, .slice sa n cp] 26))).trans (hb_v1.mono (by first | omega | (simp; omega)))
  clear hb_v1
  have ld2 : v1.heap[D]? = some (.cells #[.string nm, .string tn, .int .i64 a, .int .i64 b, .int .i64 f, .slice sa n cp] 26) := cR_v1
  have y2_0 := cell6_0 ld2
  have y2_1 := cell6_1 ld2
  have y2_2 := cell6_2 ld2
  have y2_3 := cell6_3 ld2
  have y2_4 := cell6_4 ld2
  have y2_5 := cell6_5 ld2
  clear ld2
  have W2 : Wd v1 (.slice sa n cp) n X := hW.out.below (by first | exact hw_v1 | (rw [hD]; exact hw_v1))
  go_wp2_with fail
  refine (FA.out _ W2).mono ?_
  rintro e v3 ⟨rfl, hb_v3⟩
  have hs_v3 := hw_v1.size
  have cR_v3 : v3.heap[D]? = some (.cells #[.string nm, .string tn, .int .i64 a, .int .i64 b, .int .i64 f, .slice sa n cp] 26) := (hb_v3.block (D) (Array.getElem?_eq_some_iff.1 (show v1.heap[D]? = some (.cells #[.string nm, .string tn, .int .i64 a, .int .i64 b, .int .i64 f, .slice sa n cp] 26) from cR_v1)).1).trans cR_v1
  have hw_v3 : Below D w v3 := (hw_v1).trans (hb_v3.mono (by first | omega | (simp; omega)))
  clear cR_v1 hb_v3 y2_0 y2_1 y2_2 y2_3 y2_4 y2_5 hw_v1 hs_v3
  have G3 : Gi v3 := G.below (by first | exact hw_v3 | (rw [hD]; exact hw_v3))
  go_wp2_with fail
  refine (KN.out _ G3).mono ?_
  rintro e v4 ⟨rfl, hb_v4⟩
  have hs_v4 := hw_v3.size
  have cR_v4 : v4.heap[D]? = some (.cells #[.string nm, .string tn, .int .i64 a, .int .i64 b, .int .i64 f, .slice sa n cp] 26) := (hb_v4.block (D) (Array.getElem?_eq_some_iff.1 (show v3.heap[D]? = some (.cells #[.string nm, .string tn, .int .i64 a, .int .i64 b, .int .i64 f, .slice sa n cp] 26) from cR_v3)).1).trans cR_v3
  have hw_v4 : Below D w v4 := (hw_v3).trans (hb_v4.mono (by first | omega | (simp; omega)))
  clear cR_v3 hb_v4 hw_v3 hs_v4
  have HW := Lib.hid (hw_v4)
  go_wp2
  go_ret
  exact ⟨rfl, by first | exact HW.out | (rw [hD]; exact HW.out)⟩

set_option maxRecDepth 100000 in
set_option maxHeartbeats 8000000 in
theorem checks_right (nm tn : ByteArray) (a b f : Int) (sa : Option Addr) (n cp : Nat) (X : Nat → Int) (hfew : fewB nm tn n = true) (z : Int) (hz : rkE nm tn a b f n X = z) (hz0 : z = 0) (w : World) (h1 : Wd w (.slice sa n cp) n X) (G : Gi w) :
    Calls Tryz.prog 3 #[.agg #[.string nm, .string tn, .int .i64 a, .int .i64 b, .int .i64 f, .slice sa n cp]] w fun e w' => e = .returned (.bool true) ∧ Below w.heap.size w w' := by
  have KN := Lib.hid (fun W G => known_c W G)
  have FA := Lib.hid (fun W h1 => few_c nm tn a b f (.slice sa n cp) n X W h1)
  rw [hfew] at FA
  obtain ⟨hn30, t1, t2⟩ := of_decide_eq_true (show decide ((n ≤ 30 ∨ n = 129) ∧ nm.size ≤ 40 ∧ tn.size ≤ 40) = true from hfew)
  have s1 : nm.size ≤ 1099511627776 := by omega
  have s2 : tn.size ≤ 1099511627776 := by omega
  have hn : n ≤ 1099511627776 := by omega
  obtain ⟨nb, hnb⟩ : ∃ x, nameB nm.data.toList = x := ⟨_, rfl⟩
  have LC := Lib.hid (fun W h => lcheck_c nm tn a b f sa n cp X s1 s2 hn W h)
  have CK := Lib.hid (fun W h => rcheck_c nm tn a b f (.slice sa n cp) n X s1 s2 hn W h)
  have N1 := Lib.hid (fun (W : World) => show Calls Tryz.prog 15 #[.string nm] W (fun e w' => e = .returned (.bool (nameB nm.data.toList)) ∧ Below W.heap.size W w') from (isName_c nm s1 W).mono (by rintro e w' ⟨h1, rfl⟩; exact ⟨h1, Below.refl _ _⟩))
  have N2 := Lib.hid (fun (W : World) => show Calls Tryz.prog 16 #[.string nm] W (fun e w' => e = .returned (.bool (nameB nm.data.toList)) ∧ Below W.heap.size W w') from (lisName_c nm s1 W).mono (by rintro e w' ⟨h1, rfl⟩; exact ⟨h1, Below.refl _ _⟩))
  have EQ := Lib.hid (fun W h h' => requal_c nm tn a b f (.slice sa n cp) n X nm tn a b f (.slice sa n cp) n X (by omega) W h h')
  rw [hnb] at N1 N2
  rw [same_eq nm tn a b f n X X (fun _ _ => rfl)] at EQ
  rw [hz] at LC CK
  clear hz hnb hfew
  have HZ0 := Lib.hid hz0
  clear hz0
  have hW := Lib.hid h1
  clear h1
  obtain ⟨D, hD⟩ : ∃ D, w.heap.size = D := ⟨_, rfl⟩
  go_enter Tryz.func3, Tryz.ntmps3
  have G4 : Gi (w.alloc (.cells #[.string nm, .string tn, .int .i64 a, .int .i64 b, .int .i64 f, .slice sa n cp] 26)) := G.below (by first | exact ((Below.refl _ w).alloc (by first | omega | (simp; omega)) (.cells #[.string nm, .string tn, .int .i64 a, .int .i64 b, .int .i64 f, .slice sa n cp] 26)) | (rw [hD]; exact ((Below.refl _ w).alloc (by first | omega | (simp; omega)) (.cells #[.string nm, .string tn, .int .i64 a, .int .i64 b, .int .i64 f, .slice sa n cp] 26))))
  go_wp2_with fail
  refine (KN.out _ G4).mono ?_
  rintro e v1 ⟨rfl, hb_v1⟩
  have cR_v1 : v1.heap[D]? = some (.cells #[.string nm, .string tn, .int .i64 a, .int .i64 b, .int .i64 f, .slice sa n cp] 26) := (hb_v1.block (D) (Array.getElem?_eq_some_iff.1 (show (w.alloc (.cells #[.string nm, .string tn, .int .i64 a, .int .i64 b, .int .i64 f, .slice sa n cp] 26)).heap[D]? = some (.cells #[.string nm, .string tn, .int .i64 a, .int .i64 b, .int .i64 f, .slice sa n cp] 26) from (heap_new (by first | omega | (simp; omega))))).1).trans (heap_new (by first | omega | (simp; omega)))
  have hw_v1 : Below D w v1 := (((Below.refl _ w).alloc (by first | omega | (simp; omega)) (.cells #[.string nm, .string tn, .int .i64 a, .int .i64 b, .int .i64 f, .slice sa n cp] 26))).trans (hb_v1.mono (by first | omega | (simp; omega)))
  clear hb_v1
  have ld2 : v1.heap[D]? = some (.cells #[.string nm, .string tn, .int .i64 a, .int .i64 b, .int .i64 f, .slice sa n cp] 26) := cR_v1
  have y2_0 := cell6_0 ld2
  have y2_1 := cell6_1 ld2
  have y2_2 := cell6_2 ld2
  have y2_3 := cell6_3 ld2
  have y2_4 := cell6_4 ld2
  have y2_5 := cell6_5 ld2
  clear ld2
  have W5 : Wd v1 (.slice sa n cp) n X := hW.out.below (by first | exact hw_v1 | (rw [hD]; exact hw_v1))
  go_wp2_with fail
  refine (FA.out _ W5).mono ?_
  rintro e v3 ⟨rfl, hb_v3⟩
  have hs_v3 := hw_v1.size
  have cR_v3 : v3.heap[D]? = some (.cells #[.string nm, .string tn, .int .i64 a, .int .i64 b, .int .i64 f, .slice sa n cp] 26) := (hb_v3.block (D) (Array.getElem?_eq_some_iff.1 (show v1.heap[D]? = some (.cells #[.string nm, .string tn, .int .i64 a, .int .i64 b, .int .i64 f, .slice sa n cp] 26) from cR_v1)).1).trans cR_v1
  have hw_v3 : Below D w v3 := (hw_v1).trans (hb_v3.mono (by first | omega | (simp; omega)))
  clear cR_v1 hb_v3 y2_0 y2_1 y2_2 y2_3 y2_4 y2_5 hw_v1 hs_v3
  have W6 : Wd v3 (.slice sa n cp) n X := hW.out.below (by first | exact hw_v3 | (rw [hD]; exact hw_v3))
  have ld4 : v3.heap[D]? = some (.cells #[.string nm, .string tn, .int .i64 a, .int .i64 b, .int .i64 f, .slice sa n cp] 26) := cR_v3
  have y4_0 := cell6_0 ld4
  have y4_1 := cell6_1 ld4
  have y4_2 := cell6_2 ld4
  have y4_3 := cell6_3 ld4
  have y4_4 := cell6_4 ld4
  have y4_5 := cell6_5 ld4
  clear ld4
  go_wp2_with fail
  refine (LC.out _ W6).mono ?_
  rintro e v5 ⟨rfl, hb_v5⟩
  have hs_v5 := hw_v3.size
  have cR_v5 : v5.heap[D]? = some (.cells #[.string nm, .string tn, .int .i64 a, .int .i64 b, .int .i64 f, .slice sa n cp] 26) := (hb_v5.block (D) (Array.getElem?_eq_some_iff.1 (show v3.heap[D]? = some (.cells #[.string nm, .string tn, .int .i64 a, .int .i64 b, .int .i64 f, .slice sa n cp] 26) from cR_v3)).1).trans cR_v3
  have hw_v5 : Below D w v5 := (hw_v3).trans (hb_v5.mono (by first | omega | (simp; omega)))
  clear cR_v3 hb_v5 y4_0 y4_1 y4_2 y4_3 y4_4 y4_5 hw_v3 hs_v5
  have W7 : Wd v5 (.slice sa n cp) n X := hW.out.below (by first | exact hw_v5 | (rw [hD]; exact hw_v5))
  obtain ⟨V4, hV4⟩ : ∃ V, v5 = V := ⟨_, rfl⟩
  have hw_V4 : Below D w V4 := by rw [← hV4]; exact hw_v5
  have HR_V4 := Lib.hid (show V4.heap[D]? = some (.cells #[.string nm, .string tn, .int .i64 a, .int .i64 b, .int .i64 f, .slice sa n cp] 26) by rw [← hV4]; exact cR_v5)
  have HWR := Lib.hid (show Wd V4 (.slice sa n cp) n X by rw [← hV4]; exact W7)
  clear W7
  clear cR_v5 hw_v5
  have HEV4 := Lib.hid hV4
  clear hV4
  go_upto_region 4 with fail
  rw [HEV4.out]
  refine wp_region_slots_at rfl rfl (fun base ys => ((((((((((((((((((base.set 39 (ys 0)).set 40 (ys 1)).set 41 (ys 2)).set 42 (ys 3)).set 43 (ys 4)).set 44 (ys 5)).set 45 (ys 6)).set 46 (ys 7)).set 47 (ys 8)).set 48 (ys 9)).set 49 (ys 10)).set 50 (ys 11)).set 51 (ys 12)).set 52 (ys 13)).set 53 (ys 14)).set 54 (ys 15)).set 55 (ys 16)).set 56 (ys 17)).set 57 (ys 18)) (BelowI _ (fun A => Below V4.heap.size V4 A) (rcI D nm tn a b f sa n cp z nb)) (fun _ => undef) (by kernel_rfl) (below_start (R := fun A => Below V4.heap.size V4 A) ⟨rfl, rfl, rfl, Nat.le_refl _, fun _ _ => rfl⟩) ?h4
  case h4 =>
    intro FF hFF
    simp only [List.set_cons_succ, List.set_cons_zero] at hFF
    subst hFF
    refine ⟨rfl, ?_, ?_⟩
    refine ⟨?_, ?_⟩
    · refine SlotStep.below (fun A B hb h => h.trans (hb.mono h.size)) (rcI_up D nm tn a b f sa n cp z nb) ?_
      intro ys W hR hd K hK
      have hl := (hR.block (D) (Array.getElem?_eq_some_iff.1 HR_V4.out).1).trans HR_V4.out
      have c0 := cell6_0 hl
      have c1 := cell6_1 hl
      have c2 := cell6_2 hl
      have c3 := cell6_3 hl
      have c4 := cell6_4 hl
      have c5 := cell6_5 hl
      clear hl
      go_simp
      have hK2 := hK (.agg #[.string nm, .string tn, .int .i64 a, .int .i64 b, .int .i64 f, .slice sa n cp]) _ (Below.refl _ _) rfl
      simp (config := { decide := true }) only [upd, if_true, if_false] at hK2
      exact hK2
    refine ⟨?_, ?_⟩
    · refine SlotStep.below (fun A B hb h => h.trans (hb.mono h.size)) (rcI_up D nm tn a b f sa n cp z nb) ?_
      intro ys W hR hd K hK
      have dd0 : ys 0 = (.agg #[.string nm, .string tn, .int .i64 a, .int .i64 b, .int .i64 f, .slice sa n cp]) := hd 0 (by kernel_rfl) (by decide)
      go_simp
      refine (CK.out W (HWR.out.below hR)).mono ?_
      rintro e w5 ⟨rfl, hb5⟩
      have hK2 := hK (.int .i64 z) _ hb5 rfl
      simp (config := { decide := true }) only [upd, if_true, if_false, dd0] at hK2
      exact hK2
    refine ⟨?_, ?_⟩
    · refine SlotStep.below (fun A B hb h => h.trans (hb.mono h.size)) (rcI_up D nm tn a b f sa n cp z nb) ?_
      intro ys W hR hd K hK
      go_simp
      have hK2 := hK (.int .i64 z) _ (Below.refl _ _) rfl
      simp (config := { decide := true }) only [upd, if_true, if_false] at hK2
      exact hK2
    refine ⟨?_, ?_⟩
    · refine SlotStep.below (fun A B hb h => h.trans (hb.mono h.size)) (rcI_up D nm tn a b f sa n cp z nb) ?_
      intro ys W hR hd K hK
      have dd1 : ys 1 = (.int .i64 z) := hd 1 (by kernel_rfl) (by decide)
      have dd2 : ys 2 = (.int .i64 z) := hd 2 (by kernel_rfl) (by decide)
      go_simp
      have hK2 := hK (.bool false) _ (Below.refl _ _) rfl
      simp (config := { decide := true }) only [upd, if_true, if_false, dd1, dd2] at hK2
      exact hK2
    refine ⟨?_, ?_⟩
    · refine SlotStep.below (fun A B hb h => h.trans (hb.mono h.size)) (rcI_up D nm tn a b f sa n cp z nb) ?_
      intro ys W hR hd K hK
      have dd3 : ys 3 = (.bool false) := hd 3 (by kernel_rfl) (by decide)
      go_simp
      have hK2 := hK (.bool false) _ (Below.refl _ _) rfl
      simp (config := { decide := true }) only [upd, if_true, if_false, dd3] at hK2
      exact hK2
    refine ⟨?_, ?_⟩
    · refine SlotStep.below (fun A B hb h => h.trans (hb.mono h.size)) (rcI_up D nm tn a b f sa n cp z nb) ?_
      intro ys W hR hd K hK
      have dd4 : ys 4 = (.bool false) := hd 4 (by kernel_rfl) (by decide)
      go_simp
      have hK2 := hK (.pointer (some ⟨D, 0, none⟩)) _ (Below.refl _ _) rfl
      simp (config := { decide := true }) only [upd, if_true, if_false, dd4] at hK2
      exact hK2
    refine ⟨?_, ?_⟩
    · refine SlotStep.below (fun A B hb h => h.trans (hb.mono h.size)) (rcI_up D nm tn a b f sa n cp z nb) ?_
      intro ys W hR hd K hK
      have dd4 : ys 4 = (.bool false) := hd 4 (by kernel_rfl) (by decide)
      have dd5 : ys 5 = (.pointer (some ⟨D, 0, none⟩)) := hd 5 (by kernel_rfl) (by decide)
      have hl := (hR.block (D) (Array.getElem?_eq_some_iff.1 HR_V4.out).1).trans HR_V4.out
      have c0 := cell6_0 hl
      clear hl
      go_simp
      have hK2 := hK (.string nm) _ (Below.refl _ _) rfl
      simp (config := { decide := true }) only [upd, if_true, if_false, dd4, dd5] at hK2
      exact hK2
    refine ⟨?_, ?_⟩
    · refine SlotStep.below (fun A B hb h => h.trans (hb.mono h.size)) (rcI_up D nm tn a b f sa n cp z nb) ?_
      intro ys W hR hd K hK
      have dd4 : ys 4 = (.bool false) := hd 4 (by kernel_rfl) (by decide)
      have dd6 : ys 6 = (.string nm) := hd 6 (by kernel_rfl) (by decide)
      go_simp
      refine (N1.out W).mono ?_
      rintro e w5 ⟨rfl, hb5⟩
      have hK2 := hK (.bool nb) _ hb5 rfl
      simp (config := { decide := true }) only [upd, if_true, if_false, dd4, dd6] at hK2
      exact hK2
    refine ⟨?_, ?_⟩
    · refine SlotStep.below (fun A B hb h => h.trans (hb.mono h.size)) (rcI_up D nm tn a b f sa n cp z nb) ?_
      intro ys W hR hd K hK
      have dd4 : ys 4 = (.bool false) := hd 4 (by kernel_rfl) (by decide)
      go_simp
      have hK2 := hK (.pointer (some ⟨D, 0, none⟩)) _ (Below.refl _ _) rfl
      simp (config := { decide := true }) only [upd, if_true, if_false, dd4] at hK2
      exact hK2
    refine ⟨?_, ?_⟩
    · refine SlotStep.below (fun A B hb h => h.trans (hb.mono h.size)) (rcI_up D nm tn a b f sa n cp z nb) ?_
      intro ys W hR hd K hK
      have dd4 : ys 4 = (.bool false) := hd 4 (by kernel_rfl) (by decide)
      have dd8 : ys 8 = (.pointer (some ⟨D, 0, none⟩)) := hd 8 (by kernel_rfl) (by decide)
      have hl := (hR.block (D) (Array.getElem?_eq_some_iff.1 HR_V4.out).1).trans HR_V4.out
      have c0 := cell6_0 hl
      clear hl
      go_simp
      have hK2 := hK (.string nm) _ (Below.refl _ _) rfl
      simp (config := { decide := true }) only [upd, if_true, if_false, dd4, dd8] at hK2
      exact hK2
    refine ⟨?_, ?_⟩
    · refine SlotStep.below (fun A B hb h => h.trans (hb.mono h.size)) (rcI_up D nm tn a b f sa n cp z nb) ?_
      intro ys W hR hd K hK
      have dd4 : ys 4 = (.bool false) := hd 4 (by kernel_rfl) (by decide)
      have dd9 : ys 9 = (.string nm) := hd 9 (by kernel_rfl) (by decide)
      go_simp
      refine (N2.out W).mono ?_
      rintro e w5 ⟨rfl, hb5⟩
      have hK2 := hK (.bool nb) _ hb5 rfl
      simp (config := { decide := true }) only [upd, if_true, if_false, dd4, dd9] at hK2
      exact hK2
    refine ⟨?_, ?_⟩
    · refine SlotStep.below (fun A B hb h => h.trans (hb.mono h.size)) (rcI_up D nm tn a b f sa n cp z nb) ?_
      intro ys W hR hd K hK
      have dd4 : ys 4 = (.bool false) := hd 4 (by kernel_rfl) (by decide)
      have dd7 : ys 7 = (.bool nb) := hd 7 (by kernel_rfl) (by decide)
      have dd10 : ys 10 = (.bool nb) := hd 10 (by kernel_rfl) (by decide)
      go_simp
      have hK2 := hK (.bool false) _ (Below.refl _ _) rfl
      simp (config := { decide := true }) only [upd, if_true, if_false, dd4, dd7, dd10] at hK2
      exact hK2
    refine ⟨?_, ?_⟩
    · refine SlotStep.below (fun A B hb h => h.trans (hb.mono h.size)) (rcI_up D nm tn a b f sa n cp z nb) ?_
      intro ys W hR hd K hK
      have dd4 : ys 4 = (.bool false) := hd 4 (by kernel_rfl) (by decide)
      have dd11 : ys 11 = (.bool false) := hd 11 (by kernel_rfl) (by decide)
      go_simp
      have hK2 := hK (.bool false) _ (Below.refl _ _) rfl
      simp (config := { decide := true }) only [upd, if_true, if_false, dd4, dd11] at hK2
      exact hK2
    refine ⟨?_, ?_⟩
    · refine SlotStep.below (fun A B hb h => h.trans (hb.mono h.size)) (rcI_up D nm tn a b f sa n cp z nb) ?_
      intro ys W hR hd K hK
      have dd12 : ys 12 = (.bool false) := hd 12 (by kernel_rfl) (by decide)
      go_simp
      have hK2 := hK (.bool false) _ (Below.refl _ _) rfl
      simp (config := { decide := true }) only [upd, if_true, if_false, dd12] at hK2
      exact hK2
    refine ⟨?_, ?_⟩
    · refine SlotStep.below (fun A B hb h => h.trans (hb.mono h.size)) (rcI_up D nm tn a b f sa n cp z nb) ?_
      intro ys W hR hd K hK
      have dd13 : ys 13 = (.bool false) := hd 13 (by kernel_rfl) (by decide)
      have hl := (hR.block (D) (Array.getElem?_eq_some_iff.1 HR_V4.out).1).trans HR_V4.out
      have c0 := cell6_0 hl
      have c1 := cell6_1 hl
      have c2 := cell6_2 hl
      have c3 := cell6_3 hl
      have c4 := cell6_4 hl
      have c5 := cell6_5 hl
      clear hl
      go_simp
      have hK2 := hK (.agg #[.string nm, .string tn, .int .i64 a, .int .i64 b, .int .i64 f, .slice sa n cp]) _ (Below.refl _ _) rfl
      simp (config := { decide := true }) only [upd, if_true, if_false, dd13] at hK2
      exact hK2
    refine ⟨?_, ?_⟩
    · refine SlotStep.below (fun A B hb h => h.trans (hb.mono h.size)) (rcI_up D nm tn a b f sa n cp z nb) ?_
      intro ys W hR hd K hK
      have dd13 : ys 13 = (.bool false) := hd 13 (by kernel_rfl) (by decide)
      have hl := (hR.block (D) (Array.getElem?_eq_some_iff.1 HR_V4.out).1).trans HR_V4.out
      have c0 := cell6_0 hl
      have c1 := cell6_1 hl
      have c2 := cell6_2 hl
      have c3 := cell6_3 hl
      have c4 := cell6_4 hl
      have c5 := cell6_5 hl
      clear hl
      go_simp
      have hK2 := hK (.agg #[.string nm, .string tn, .int .i64 a, .int .i64 b, .int .i64 f, .slice sa n cp]) _ (Below.refl _ _) rfl
      simp (config := { decide := true }) only [upd, if_true, if_false, dd13] at hK2
      exact hK2
    refine ⟨?_, ?_⟩
    · refine SlotStep.below (fun A B hb h => h.trans (hb.mono h.size)) (rcI_up D nm tn a b f sa n cp z nb) ?_
      intro ys W hR hd K hK
      have dd13 : ys 13 = (.bool false) := hd 13 (by kernel_rfl) (by decide)
      have dd14 : ys 14 = (.agg #[.string nm, .string tn, .int .i64 a, .int .i64 b, .int .i64 f, .slice sa n cp]) := hd 14 (by kernel_rfl) (by decide)
      have dd15 : ys 15 = (.agg #[.string nm, .string tn, .int .i64 a, .int .i64 b, .int .i64 f, .slice sa n cp]) := hd 15 (by kernel_rfl) (by decide)
      go_simp
      refine (EQ.out W (HWR.out.below hR) (HWR.out.below hR)).mono ?_
      rintro e w5 ⟨rfl, hb5⟩
      have hK2 := hK (.bool true) _ hb5 rfl
      simp (config := { decide := true }) only [upd, if_true, if_false, dd13, dd14, dd15] at hK2
      exact hK2
    refine ⟨?_, ?_⟩
    · refine SlotStep.below (fun A B hb h => h.trans (hb.mono h.size)) (rcI_up D nm tn a b f sa n cp z nb) ?_
      intro ys W hR hd K hK
      have dd13 : ys 13 = (.bool false) := hd 13 (by kernel_rfl) (by decide)
      have dd16 : ys 16 = (.bool true) := hd 16 (by kernel_rfl) (by decide)
      go_simp
      have hK2 := hK (.bool false) _ (Below.refl _ _) rfl
      simp (config := { decide := true }) only [upd, if_true, if_false, dd13, dd16] at hK2
      exact hK2
    refine ⟨?_, ?_⟩
    · refine SlotStep.below (fun A B hb h => h.trans (hb.mono h.size)) (rcI_up D nm tn a b f sa n cp z nb) ?_
      intro ys W hR hd K hK
      have dd13 : ys 13 = (.bool false) := hd 13 (by kernel_rfl) (by decide)
      have dd17 : ys 17 = (.bool false) := hd 17 (by kernel_rfl) (by decide)
      go_simp
      have hK2 := hK (.bool false) _ (Below.refl _ _) rfl
      simp (config := { decide := true }) only [upd, if_true, if_false, dd13, dd17] at hK2
      exact hK2
    trivial
    · intro L5 ys5 U4 hL5 hI5
      obtain ⟨hR5, hj5⟩ := hI5
      have d18_U4 : ys5 18 = (.bool false) := hj5 18 (by decide) (hL5 18 (by decide))
      simp only [d18_U4]
      clear d18_U4
      generalize ys5 0 = y0 at *
      generalize ys5 1 = y1 at *
      generalize ys5 2 = y2 at *
      generalize ys5 3 = y3 at *
      generalize ys5 4 = y4 at *
      generalize ys5 5 = y5 at *
      generalize ys5 6 = y6 at *
      generalize ys5 7 = y7 at *
      generalize ys5 8 = y8 at *
      generalize ys5 9 = y9 at *
      generalize ys5 10 = y10 at *
      generalize ys5 11 = y11 at *
      generalize ys5 12 = y12 at *
      generalize ys5 13 = y13 at *
      generalize ys5 14 = y14 at *
      generalize ys5 15 = y15 at *
      generalize ys5 16 = y16 at *
      generalize ys5 17 = y17 at *
      have cR_U4 : U4.heap[D]? = some (.cells #[.string nm, .string tn, .int .i64 a, .int .i64 b, .int .i64 f, .slice sa n cp] 26) := (hR5.block (D) (Array.getElem?_eq_some_iff.1 HR_V4.out).1).trans HR_V4.out
      have hw_U4 : Below D w U4 := hw_V4.trans (hR5.mono (by have := hw_V4.size; first | omega | (simp; omega)))
      clear hj5 hL5 hR5 hw_V4  HR_V4
      have hz0 := HZ0.out
      clear HZ0
      subst hz0
      clear HWR
      have HW := Lib.hid (hw_U4)
      go_wp2
      go_ret
      exact ⟨rfl, by first | exact HW.out | (rw [hD]; exact HW.out)⟩

set_option maxRecDepth 100000 in
set_option maxHeartbeats 8000000 in
theorem checks_wrong (nm tn : ByteArray) (a b f : Int) (sa : Option Addr) (n cp : Nat) (X : Nat → Int) (hfew : fewB nm tn n = true) (z : Int) (hz : rkE nm tn a b f n X = z) (hne : ¬ z = 0) (w : World) (h1 : Wd w (.slice sa n cp) n X) (G : Gi w) :
    Calls Tryz.prog 3 #[.agg #[.string nm, .string tn, .int .i64 a, .int .i64 b, .int .i64 f, .slice sa n cp]] w fun e w' => e = .returned (.bool true) ∧ Below w.heap.size w w' := by
  have KN := Lib.hid (fun W G => known_c W G)
  have FA := Lib.hid (fun W h1 => few_c nm tn a b f (.slice sa n cp) n X W h1)
  rw [hfew] at FA
  obtain ⟨hn30, t1, t2⟩ := of_decide_eq_true (show decide ((n ≤ 30 ∨ n = 129) ∧ nm.size ≤ 40 ∧ tn.size ≤ 40) = true from hfew)
  have s1 : nm.size ≤ 1099511627776 := by omega
  have s2 : tn.size ≤ 1099511627776 := by omega
  have hn : n ≤ 1099511627776 := by omega
  obtain ⟨nb, hnb⟩ : ∃ x, nameB nm.data.toList = x := ⟨_, rfl⟩
  have LC := Lib.hid (fun W h => lcheck_c nm tn a b f sa n cp X s1 s2 hn W h)
  have CK := Lib.hid (fun W h => rcheck_c nm tn a b f (.slice sa n cp) n X s1 s2 hn W h)
  have N1 := Lib.hid (fun (W : World) => show Calls Tryz.prog 15 #[.string nm] W (fun e w' => e = .returned (.bool (nameB nm.data.toList)) ∧ Below W.heap.size W w') from (isName_c nm s1 W).mono (by rintro e w' ⟨h1, rfl⟩; exact ⟨h1, Below.refl _ _⟩))
  have N2 := Lib.hid (fun (W : World) => show Calls Tryz.prog 16 #[.string nm] W (fun e w' => e = .returned (.bool (nameB nm.data.toList)) ∧ Below W.heap.size W w') from (lisName_c nm s1 W).mono (by rintro e w' ⟨h1, rfl⟩; exact ⟨h1, Below.refl _ _⟩))
  have EQ := Lib.hid (fun W h h' => requal_c nm tn a b f (.slice sa n cp) n X nm tn a b f (.slice sa n cp) n X (by omega) W h h')
  rw [hnb] at N1 N2
  rw [same_eq nm tn a b f n X X (fun _ _ => rfl)] at EQ
  rw [hz] at LC CK
  have hc : cpE (rkE nm tn a b f n X) 0 n = z := by unfold cpE; rw [if_neg (by rw [hz]; exact hne), hz]
  have hcf : cfE (rkE nm tn a b f n X) (wdE X 0) n 0 = z := by unfold cfE; rw [if_neg (by rw [hz]; exact hne), hz]
  have hrow : rkE ⟨#[82, 111, 119]⟩ ⟨#[79, 112, 101, 110]⟩ 8 1 0 1 (fun _ => 1) = 0 := rk_of (by decide +kernel) (by decide +kernel) (by decide +kernel) (by omega) (by omega) (by omega) (fun _ _ => by omega)
  have NU := Lib.hid (fun W h => number_bad nm tn a b f (.slice sa n cp) n X 0 z s1 s2 hn hz hne W h)
  have NO := Lib.hid (fun W h => note_bad nm tn a b f (.slice sa n cp) n X 0 z s1 s2 hn hc hne W h)
  have WI := Lib.hid (fun W h => windat_bad nm tn a b f (.slice sa n cp) n X 0 z s1 s2 hn hc hne W h)
  have LA := Lib.hid (fun W h => last_bad nm tn a b f (.slice sa n cp) n X z s1 s2 hn hz hne W h)
  have TO := Lib.hid (fun W h => total_bad nm tn a b f (.slice sa n cp) n X z s1 s2 hn hz hne W h)
  have SO := Lib.hid (fun W h => sound_bad nm tn a b f (.slice sa n cp) n X 0 z s1 s2 hn hz hne W h)
  have SL := Lib.hid (fun W h => slice_bad nm tn a b f sa n cp X 0 1 z s1 s2 hn hc hne W h)
  have BE := Lib.hid (fun W h h' => below_bad nm tn a b f sa n cp X none 0 0 X s1 s2 hn (by omega) z hcf hne W h h')
  have AB := Lib.hid (fun W h h' => above_bad nm tn a b f sa n cp X none 0 0 X s1 s2 hn (by omega) z hcf hne W h h')
  have JO := Lib.hid (fun sr cr W h h' => join_bad2 ⟨#[82, 111, 119]⟩ ⟨#[79, 112, 101, 110]⟩ 8 1 0 sr 1 cr (fun _ => 1) nm tn a b f sa n cp X (by decide) (by decide) (by omega) s1 s2 hn z hrow hz hne W h h')
  have RO := Lib.hid (fun W => row_c 8 0 1 (by omega) W)
  have RE := Lib.hid (fun W h => repitch_bad nm tn a b f sa n cp X 0 0 s1 s2 hn z hz hne W h)
  have SZ := Lib.hid (fun va vb W h h' => same_wd ⟨#[]⟩ ⟨#[]⟩ 0 0 0 0 X X (by omega) (fun _ _ => rfl) va vb W h h')
  clear hz hc hcf hrow hnb hfew
  have hW := Lib.hid h1
  clear h1
  obtain ⟨D, hD⟩ : ∃ D, w.heap.size = D := ⟨_, rfl⟩
  go_enter Tryz.func3, Tryz.ntmps3
  have G8 : Gi (w.alloc (.cells #[.string nm, .string tn, .int .i64 a, .int .i64 b, .int .i64 f, .slice sa n cp] 26)) := G.below (by first | exact ((Below.refl _ w).alloc (by first | omega | (simp; omega)) (.cells #[.string nm, .string tn, .int .i64 a, .int .i64 b, .int .i64 f, .slice sa n cp] 26)) | (rw [hD]; exact ((Below.refl _ w).alloc (by first | omega | (simp; omega)) (.cells #[.string nm, .string tn, .int .i64 a, .int .i64 b, .int .i64 f, .slice sa n cp] 26))))
  go_wp2_with fail
  refine (KN.out _ G8).mono ?_
  rintro e v1 ⟨rfl, hb_v1⟩
  have cR_v1 : v1.heap[D]? = some (.cells #[.string nm, .string tn, .int .i64 a, .int .i64 b, .int .i64 f, .slice sa n cp] 26) := (hb_v1.block (D) (Array.getElem?_eq_some_iff.1 (show (w.alloc (.cells #[.string nm, .string tn, .int .i64 a, .int .i64 b, .int .i64 f, .slice sa n cp] 26)).heap[D]? = some (.cells #[.string nm, .string tn, .int .i64 a, .int .i64 b, .int .i64 f, .slice sa n cp] 26) from (heap_new (by first | omega | (simp; omega))))).1).trans (heap_new (by first | omega | (simp; omega)))
  have hw_v1 : Below D w v1 := (((Below.refl _ w).alloc (by first | omega | (simp; omega)) (.cells #[.string nm, .string tn, .int .i64 a, .int .i64 b, .int .i64 f, .slice sa n cp] 26))).trans (hb_v1.mono (by first | omega | (simp; omega)))
  clear hb_v1
  have ld2 : v1.heap[D]? = some (.cells #[.string nm, .string tn, .int .i64 a, .int .i64 b, .int .i64 f, .slice sa n cp] 26) := cR_v1
  have y2_0 := cell6_0 ld2
  have y2_1 := cell6_1 ld2
  have y2_2 := cell6_2 ld2
  have y2_3 := cell6_3 ld2
  have y2_4 := cell6_4 ld2
  have y2_5 := cell6_5 ld2
  clear ld2
  have W9 : Wd v1 (.slice sa n cp) n X := hW.out.below (by first | exact hw_v1 | (rw [hD]; exact hw_v1))
  go_wp2_with fail
  refine (FA.out _ W9).mono ?_
  rintro e v3 ⟨rfl, hb_v3⟩
  have hs_v3 := hw_v1.size
  have cR_v3 : v3.heap[D]? = some (.cells #[.string nm, .string tn, .int .i64 a, .int .i64 b, .int .i64 f, .slice sa n cp] 26) := (hb_v3.block (D) (Array.getElem?_eq_some_iff.1 (show v1.heap[D]? = some (.cells #[.string nm, .string tn, .int .i64 a, .int .i64 b, .int .i64 f, .slice sa n cp] 26) from cR_v1)).1).trans cR_v1
  have hw_v3 : Below D w v3 := (hw_v1).trans (hb_v3.mono (by first | omega | (simp; omega)))
  clear cR_v1 hb_v3 y2_0 y2_1 y2_2 y2_3 y2_4 y2_5 hw_v1 hs_v3
  have W10 : Wd v3 (.slice sa n cp) n X := hW.out.below (by first | exact hw_v3 | (rw [hD]; exact hw_v3))
  have ld4 : v3.heap[D]? = some (.cells #[.string nm, .string tn, .int .i64 a, .int .i64 b, .int .i64 f, .slice sa n cp] 26) := cR_v3
  have y4_0 := cell6_0 ld4
  have y4_1 := cell6_1 ld4
  have y4_2 := cell6_2 ld4
  have y4_3 := cell6_3 ld4
  have y4_4 := cell6_4 ld4
  have y4_5 := cell6_5 ld4
  clear ld4
  go_wp2_with fail
  refine (LC.out _ W10).mono ?_
  rintro e v5 ⟨rfl, hb_v5⟩
  have hs_v5 := hw_v3.size
  have cR_v5 : v5.heap[D]? = some (.cells #[.string nm, .string tn, .int .i64 a, .int .i64 b, .int .i64 f, .slice sa n cp] 26) := (hb_v5.block (D) (Array.getElem?_eq_some_iff.1 (show v3.heap[D]? = some (.cells #[.string nm, .string tn, .int .i64 a, .int .i64 b, .int .i64 f, .slice sa n cp] 26) from cR_v3)).1).trans cR_v3
  have hw_v5 : Below D w v5 := (hw_v3).trans (hb_v5.mono (by first | omega | (simp; omega)))
  clear cR_v3 hb_v5 y4_0 y4_1 y4_2 y4_3 y4_4 y4_5 hw_v3 hs_v5
  have W11 : Wd v5 (.slice sa n cp) n X := hW.out.below (by first | exact hw_v5 | (rw [hD]; exact hw_v5))
  obtain ⟨V4, hV4⟩ : ∃ V, v5 = V := ⟨_, rfl⟩
  have hw_V4 : Below D w V4 := by rw [← hV4]; exact hw_v5
  have HR_V4 := Lib.hid (show V4.heap[D]? = some (.cells #[.string nm, .string tn, .int .i64 a, .int .i64 b, .int .i64 f, .slice sa n cp] 26) by rw [← hV4]; exact cR_v5)
  have HWR := Lib.hid (show Wd V4 (.slice sa n cp) n X by rw [← hV4]; exact W11)
  clear W11
  clear cR_v5 hw_v5
  have HEV4 := Lib.hid hV4
  clear hV4
  go_upto_region 4 with fail
  rw [HEV4.out]
  refine wp_region_slots_at rfl rfl (fun base ys => ((((((((((((((((((base.set 39 (ys 0)).set 40 (ys 1)).set 41 (ys 2)).set 42 (ys 3)).set 43 (ys 4)).set 44 (ys 5)).set 45 (ys 6)).set 46 (ys 7)).set 47 (ys 8)).set 48 (ys 9)).set 49 (ys 10)).set 50 (ys 11)).set 51 (ys 12)).set 52 (ys 13)).set 53 (ys 14)).set 54 (ys 15)).set 55 (ys 16)).set 56 (ys 17)).set 57 (ys 18)) (BelowI _ (fun A => Below V4.heap.size V4 A) (rcI D nm tn a b f sa n cp z nb)) (fun _ => undef) (by kernel_rfl) (below_start (R := fun A => Below V4.heap.size V4 A) ⟨rfl, rfl, rfl, Nat.le_refl _, fun _ _ => rfl⟩) ?h4
  case h4 =>
    intro FF hFF
    simp only [List.set_cons_succ, List.set_cons_zero] at hFF
    subst hFF
    refine ⟨rfl, ?_, ?_⟩
    refine ⟨?_, ?_⟩
    · refine SlotStep.below (fun A B hb h => h.trans (hb.mono h.size)) (rcI_up D nm tn a b f sa n cp z nb) ?_
      intro ys W hR hd K hK
      have hl := (hR.block (D) (Array.getElem?_eq_some_iff.1 HR_V4.out).1).trans HR_V4.out
      have c0 := cell6_0 hl
      have c1 := cell6_1 hl
      have c2 := cell6_2 hl
      have c3 := cell6_3 hl
      have c4 := cell6_4 hl
      have c5 := cell6_5 hl
      clear hl
      go_simp
      have hK2 := hK (.agg #[.string nm, .string tn, .int .i64 a, .int .i64 b, .int .i64 f, .slice sa n cp]) _ (Below.refl _ _) rfl
      simp (config := { decide := true }) only [upd, if_true, if_false] at hK2
      exact hK2
    refine ⟨?_, ?_⟩
    · refine SlotStep.below (fun A B hb h => h.trans (hb.mono h.size)) (rcI_up D nm tn a b f sa n cp z nb) ?_
      intro ys W hR hd K hK
      have dd0 : ys 0 = (.agg #[.string nm, .string tn, .int .i64 a, .int .i64 b, .int .i64 f, .slice sa n cp]) := hd 0 (by kernel_rfl) (by decide)
      go_simp
      refine (CK.out W (HWR.out.below hR)).mono ?_
      rintro e w5 ⟨rfl, hb5⟩
      have hK2 := hK (.int .i64 z) _ hb5 rfl
      simp (config := { decide := true }) only [upd, if_true, if_false, dd0] at hK2
      exact hK2
    refine ⟨?_, ?_⟩
    · refine SlotStep.below (fun A B hb h => h.trans (hb.mono h.size)) (rcI_up D nm tn a b f sa n cp z nb) ?_
      intro ys W hR hd K hK
      go_simp
      have hK2 := hK (.int .i64 z) _ (Below.refl _ _) rfl
      simp (config := { decide := true }) only [upd, if_true, if_false] at hK2
      exact hK2
    refine ⟨?_, ?_⟩
    · refine SlotStep.below (fun A B hb h => h.trans (hb.mono h.size)) (rcI_up D nm tn a b f sa n cp z nb) ?_
      intro ys W hR hd K hK
      have dd1 : ys 1 = (.int .i64 z) := hd 1 (by kernel_rfl) (by decide)
      have dd2 : ys 2 = (.int .i64 z) := hd 2 (by kernel_rfl) (by decide)
      go_simp
      have hK2 := hK (.bool false) _ (Below.refl _ _) rfl
      simp (config := { decide := true }) only [upd, if_true, if_false, dd1, dd2] at hK2
      exact hK2
    refine ⟨?_, ?_⟩
    · refine SlotStep.below (fun A B hb h => h.trans (hb.mono h.size)) (rcI_up D nm tn a b f sa n cp z nb) ?_
      intro ys W hR hd K hK
      have dd3 : ys 3 = (.bool false) := hd 3 (by kernel_rfl) (by decide)
      go_simp
      have hK2 := hK (.bool false) _ (Below.refl _ _) rfl
      simp (config := { decide := true }) only [upd, if_true, if_false, dd3] at hK2
      exact hK2
    refine ⟨?_, ?_⟩
    · refine SlotStep.below (fun A B hb h => h.trans (hb.mono h.size)) (rcI_up D nm tn a b f sa n cp z nb) ?_
      intro ys W hR hd K hK
      have dd4 : ys 4 = (.bool false) := hd 4 (by kernel_rfl) (by decide)
      go_simp
      have hK2 := hK (.pointer (some ⟨D, 0, none⟩)) _ (Below.refl _ _) rfl
      simp (config := { decide := true }) only [upd, if_true, if_false, dd4] at hK2
      exact hK2
    refine ⟨?_, ?_⟩
    · refine SlotStep.below (fun A B hb h => h.trans (hb.mono h.size)) (rcI_up D nm tn a b f sa n cp z nb) ?_
      intro ys W hR hd K hK
      have dd4 : ys 4 = (.bool false) := hd 4 (by kernel_rfl) (by decide)
      have dd5 : ys 5 = (.pointer (some ⟨D, 0, none⟩)) := hd 5 (by kernel_rfl) (by decide)
      have hl := (hR.block (D) (Array.getElem?_eq_some_iff.1 HR_V4.out).1).trans HR_V4.out
      have c0 := cell6_0 hl
      clear hl
      go_simp
      have hK2 := hK (.string nm) _ (Below.refl _ _) rfl
      simp (config := { decide := true }) only [upd, if_true, if_false, dd4, dd5] at hK2
      exact hK2
    refine ⟨?_, ?_⟩
    · refine SlotStep.below (fun A B hb h => h.trans (hb.mono h.size)) (rcI_up D nm tn a b f sa n cp z nb) ?_
      intro ys W hR hd K hK
      have dd4 : ys 4 = (.bool false) := hd 4 (by kernel_rfl) (by decide)
      have dd6 : ys 6 = (.string nm) := hd 6 (by kernel_rfl) (by decide)
      go_simp
      refine (N1.out W).mono ?_
      rintro e w5 ⟨rfl, hb5⟩
      have hK2 := hK (.bool nb) _ hb5 rfl
      simp (config := { decide := true }) only [upd, if_true, if_false, dd4, dd6] at hK2
      exact hK2
    refine ⟨?_, ?_⟩
    · refine SlotStep.below (fun A B hb h => h.trans (hb.mono h.size)) (rcI_up D nm tn a b f sa n cp z nb) ?_
      intro ys W hR hd K hK
      have dd4 : ys 4 = (.bool false) := hd 4 (by kernel_rfl) (by decide)
      go_simp
      have hK2 := hK (.pointer (some ⟨D, 0, none⟩)) _ (Below.refl _ _) rfl
      simp (config := { decide := true }) only [upd, if_true, if_false, dd4] at hK2
      exact hK2
    refine ⟨?_, ?_⟩
    · refine SlotStep.below (fun A B hb h => h.trans (hb.mono h.size)) (rcI_up D nm tn a b f sa n cp z nb) ?_
      intro ys W hR hd K hK
      have dd4 : ys 4 = (.bool false) := hd 4 (by kernel_rfl) (by decide)
      have dd8 : ys 8 = (.pointer (some ⟨D, 0, none⟩)) := hd 8 (by kernel_rfl) (by decide)
      have hl := (hR.block (D) (Array.getElem?_eq_some_iff.1 HR_V4.out).1).trans HR_V4.out
      have c0 := cell6_0 hl
      clear hl
      go_simp
      have hK2 := hK (.string nm) _ (Below.refl _ _) rfl
      simp (config := { decide := true }) only [upd, if_true, if_false, dd4, dd8] at hK2
      exact hK2
    refine ⟨?_, ?_⟩
    · refine SlotStep.below (fun A B hb h => h.trans (hb.mono h.size)) (rcI_up D nm tn a b f sa n cp z nb) ?_
      intro ys W hR hd K hK
      have dd4 : ys 4 = (.bool false) := hd 4 (by kernel_rfl) (by decide)
      have dd9 : ys 9 = (.string nm) := hd 9 (by kernel_rfl) (by decide)
      go_simp
      refine (N2.out W).mono ?_
      rintro e w5 ⟨rfl, hb5⟩
      have hK2 := hK (.bool nb) _ hb5 rfl
      simp (config := { decide := true }) only [upd, if_true, if_false, dd4, dd9] at hK2
      exact hK2
    refine ⟨?_, ?_⟩
    · refine SlotStep.below (fun A B hb h => h.trans (hb.mono h.size)) (rcI_up D nm tn a b f sa n cp z nb) ?_
      intro ys W hR hd K hK
      have dd4 : ys 4 = (.bool false) := hd 4 (by kernel_rfl) (by decide)
      have dd7 : ys 7 = (.bool nb) := hd 7 (by kernel_rfl) (by decide)
      have dd10 : ys 10 = (.bool nb) := hd 10 (by kernel_rfl) (by decide)
      go_simp
      have hK2 := hK (.bool false) _ (Below.refl _ _) rfl
      simp (config := { decide := true }) only [upd, if_true, if_false, dd4, dd7, dd10] at hK2
      exact hK2
    refine ⟨?_, ?_⟩
    · refine SlotStep.below (fun A B hb h => h.trans (hb.mono h.size)) (rcI_up D nm tn a b f sa n cp z nb) ?_
      intro ys W hR hd K hK
      have dd4 : ys 4 = (.bool false) := hd 4 (by kernel_rfl) (by decide)
      have dd11 : ys 11 = (.bool false) := hd 11 (by kernel_rfl) (by decide)
      go_simp
      have hK2 := hK (.bool false) _ (Below.refl _ _) rfl
      simp (config := { decide := true }) only [upd, if_true, if_false, dd4, dd11] at hK2
      exact hK2
    refine ⟨?_, ?_⟩
    · refine SlotStep.below (fun A B hb h => h.trans (hb.mono h.size)) (rcI_up D nm tn a b f sa n cp z nb) ?_
      intro ys W hR hd K hK
      have dd12 : ys 12 = (.bool false) := hd 12 (by kernel_rfl) (by decide)
      go_simp
      have hK2 := hK (.bool false) _ (Below.refl _ _) rfl
      simp (config := { decide := true }) only [upd, if_true, if_false, dd12] at hK2
      exact hK2
    refine ⟨?_, ?_⟩
    · refine SlotStep.below (fun A B hb h => h.trans (hb.mono h.size)) (rcI_up D nm tn a b f sa n cp z nb) ?_
      intro ys W hR hd K hK
      have dd13 : ys 13 = (.bool false) := hd 13 (by kernel_rfl) (by decide)
      have hl := (hR.block (D) (Array.getElem?_eq_some_iff.1 HR_V4.out).1).trans HR_V4.out
      have c0 := cell6_0 hl
      have c1 := cell6_1 hl
      have c2 := cell6_2 hl
      have c3 := cell6_3 hl
      have c4 := cell6_4 hl
      have c5 := cell6_5 hl
      clear hl
      go_simp
      have hK2 := hK (.agg #[.string nm, .string tn, .int .i64 a, .int .i64 b, .int .i64 f, .slice sa n cp]) _ (Below.refl _ _) rfl
      simp (config := { decide := true }) only [upd, if_true, if_false, dd13] at hK2
      exact hK2
    refine ⟨?_, ?_⟩
    · refine SlotStep.below (fun A B hb h => h.trans (hb.mono h.size)) (rcI_up D nm tn a b f sa n cp z nb) ?_
      intro ys W hR hd K hK
      have dd13 : ys 13 = (.bool false) := hd 13 (by kernel_rfl) (by decide)
      have hl := (hR.block (D) (Array.getElem?_eq_some_iff.1 HR_V4.out).1).trans HR_V4.out
      have c0 := cell6_0 hl
      have c1 := cell6_1 hl
      have c2 := cell6_2 hl
      have c3 := cell6_3 hl
      have c4 := cell6_4 hl
      have c5 := cell6_5 hl
      clear hl
      go_simp
      have hK2 := hK (.agg #[.string nm, .string tn, .int .i64 a, .int .i64 b, .int .i64 f, .slice sa n cp]) _ (Below.refl _ _) rfl
      simp (config := { decide := true }) only [upd, if_true, if_false, dd13] at hK2
      exact hK2
    refine ⟨?_, ?_⟩
    · refine SlotStep.below (fun A B hb h => h.trans (hb.mono h.size)) (rcI_up D nm tn a b f sa n cp z nb) ?_
      intro ys W hR hd K hK
      have dd13 : ys 13 = (.bool false) := hd 13 (by kernel_rfl) (by decide)
      have dd14 : ys 14 = (.agg #[.string nm, .string tn, .int .i64 a, .int .i64 b, .int .i64 f, .slice sa n cp]) := hd 14 (by kernel_rfl) (by decide)
      have dd15 : ys 15 = (.agg #[.string nm, .string tn, .int .i64 a, .int .i64 b, .int .i64 f, .slice sa n cp]) := hd 15 (by kernel_rfl) (by decide)
      go_simp
      refine (EQ.out W (HWR.out.below hR) (HWR.out.below hR)).mono ?_
      rintro e w5 ⟨rfl, hb5⟩
      have hK2 := hK (.bool true) _ hb5 rfl
      simp (config := { decide := true }) only [upd, if_true, if_false, dd13, dd14, dd15] at hK2
      exact hK2
    refine ⟨?_, ?_⟩
    · refine SlotStep.below (fun A B hb h => h.trans (hb.mono h.size)) (rcI_up D nm tn a b f sa n cp z nb) ?_
      intro ys W hR hd K hK
      have dd13 : ys 13 = (.bool false) := hd 13 (by kernel_rfl) (by decide)
      have dd16 : ys 16 = (.bool true) := hd 16 (by kernel_rfl) (by decide)
      go_simp
      have hK2 := hK (.bool false) _ (Below.refl _ _) rfl
      simp (config := { decide := true }) only [upd, if_true, if_false, dd13, dd16] at hK2
      exact hK2
    refine ⟨?_, ?_⟩
    · refine SlotStep.below (fun A B hb h => h.trans (hb.mono h.size)) (rcI_up D nm tn a b f sa n cp z nb) ?_
      intro ys W hR hd K hK
      have dd13 : ys 13 = (.bool false) := hd 13 (by kernel_rfl) (by decide)
      have dd17 : ys 17 = (.bool false) := hd 17 (by kernel_rfl) (by decide)
      go_simp
      have hK2 := hK (.bool false) _ (Below.refl _ _) rfl
      simp (config := { decide := true }) only [upd, if_true, if_false, dd13, dd17] at hK2
      exact hK2
    trivial
    · intro L5 ys5 U4 hL5 hI5
      obtain ⟨hR5, hj5⟩ := hI5
      have d18_U4 : ys5 18 = (.bool false) := hj5 18 (by decide) (hL5 18 (by decide))
      simp only [d18_U4]
      clear d18_U4
      generalize ys5 0 = y0 at *
      generalize ys5 1 = y1 at *
      generalize ys5 2 = y2 at *
      generalize ys5 3 = y3 at *
      generalize ys5 4 = y4 at *
      generalize ys5 5 = y5 at *
      generalize ys5 6 = y6 at *
      generalize ys5 7 = y7 at *
      generalize ys5 8 = y8 at *
      generalize ys5 9 = y9 at *
      generalize ys5 10 = y10 at *
      generalize ys5 11 = y11 at *
      generalize ys5 12 = y12 at *
      generalize ys5 13 = y13 at *
      generalize ys5 14 = y14 at *
      generalize ys5 15 = y15 at *
      generalize ys5 16 = y16 at *
      generalize ys5 17 = y17 at *
      have cR_U4 : U4.heap[D]? = some (.cells #[.string nm, .string tn, .int .i64 a, .int .i64 b, .int .i64 f, .slice sa n cp] 26) := (hR5.block (D) (Array.getElem?_eq_some_iff.1 HR_V4.out).1).trans HR_V4.out
      have hw_U4 : Below D w U4 := hw_V4.trans (hR5.mono (by have := hw_V4.size; first | omega | (simp; omega)))
      clear hj5 hL5 hR5 hw_V4  HR_V4
      clear HWR LC CK N1 N2 EQ
      have ld6 : U4.heap[D]? = some (.cells #[.string nm, .string tn, .int .i64 a, .int .i64 b, .int .i64 f, .slice sa n cp] 26) := cR_U4
      have y6_0 := cell6_0 ld6
      have y6_1 := cell6_1 ld6
      have y6_2 := cell6_2 ld6
      have y6_3 := cell6_3 ld6
      have y6_4 := cell6_4 ld6
      have y6_5 := cell6_5 ld6
      clear ld6
      have W12 : Wd U4 (.slice sa n cp) n X := hW.out.below (by first | exact hw_U4 | (rw [hD]; exact hw_U4))
      go_wp2_with fail
      refine (NU.out _ W12).mono ?_
      rintro e v7 ⟨rfl, hb_v7⟩
      have hs_v7 := hw_U4.size
      have cR_v7 : v7.heap[D]? = some (.cells #[.string nm, .string tn, .int .i64 a, .int .i64 b, .int .i64 f, .slice sa n cp] 26) := (hb_v7.block (D) (Array.getElem?_eq_some_iff.1 (show U4.heap[D]? = some (.cells #[.string nm, .string tn, .int .i64 a, .int .i64 b, .int .i64 f, .slice sa n cp] 26) from cR_U4)).1).trans cR_U4
      have hw_v7 : Below D w v7 := (hw_U4).trans (hb_v7.mono (by first | omega | (simp; omega)))
      clear cR_U4 hb_v7 y6_0 y6_1 y6_2 y6_3 y6_4 y6_5 hw_U4 hs_v7
      have ld8 : v7.heap[D]? = some (.cells #[.string nm, .string tn, .int .i64 a, .int .i64 b, .int .i64 f, .slice sa n cp] 26) := cR_v7
      have y8_0 := cell6_0 ld8
      have y8_1 := cell6_1 ld8
      have y8_2 := cell6_2 ld8
      have y8_3 := cell6_3 ld8
      have y8_4 := cell6_4 ld8
      have y8_5 := cell6_5 ld8
      clear ld8
      have W13 : Wd v7 (.slice sa n cp) n X := hW.out.below (by first | exact hw_v7 | (rw [hD]; exact hw_v7))
      go_wp2_with fail
      refine (NO.out _ W13).mono ?_
      rintro e v9 ⟨rfl, hb_v9⟩
      have hs_v9 := hw_v7.size
      have cR_v9 : v9.heap[D]? = some (.cells #[.string nm, .string tn, .int .i64 a, .int .i64 b, .int .i64 f, .slice sa n cp] 26) := (hb_v9.block (D) (Array.getElem?_eq_some_iff.1 (show v7.heap[D]? = some (.cells #[.string nm, .string tn, .int .i64 a, .int .i64 b, .int .i64 f, .slice sa n cp] 26) from cR_v7)).1).trans cR_v7
      have hw_v9 : Below D w v9 := (hw_v7).trans (hb_v9.mono (by first | omega | (simp; omega)))
      clear cR_v7 hb_v9 y8_0 y8_1 y8_2 y8_3 y8_4 y8_5 hw_v7 hs_v9
      have ld10 : v9.heap[D]? = some (.cells #[.string nm, .string tn, .int .i64 a, .int .i64 b, .int .i64 f, .slice sa n cp] 26) := cR_v9
      have y10_0 := cell6_0 ld10
      have y10_1 := cell6_1 ld10
      have y10_2 := cell6_2 ld10
      have y10_3 := cell6_3 ld10
      have y10_4 := cell6_4 ld10
      have y10_5 := cell6_5 ld10
      clear ld10
      have W14 : Wd v9 (.slice sa n cp) n X := hW.out.below (by first | exact hw_v9 | (rw [hD]; exact hw_v9))
      go_wp2_with fail
      refine (LA.out _ W14).mono ?_
      rintro e v11 ⟨rfl, hb_v11⟩
      have hs_v11 := hw_v9.size
      have cR_v11 : v11.heap[D]? = some (.cells #[.string nm, .string tn, .int .i64 a, .int .i64 b, .int .i64 f, .slice sa n cp] 26) := (hb_v11.block (D) (Array.getElem?_eq_some_iff.1 (show v9.heap[D]? = some (.cells #[.string nm, .string tn, .int .i64 a, .int .i64 b, .int .i64 f, .slice sa n cp] 26) from cR_v9)).1).trans cR_v9
      have hw_v11 : Below D w v11 := (hw_v9).trans (hb_v11.mono (by first | omega | (simp; omega)))
      clear cR_v9 hb_v11 y10_0 y10_1 y10_2 y10_3 y10_4 y10_5 hw_v9 hs_v11
      have ld12 : v11.heap[D]? = some (.cells #[.string nm, .string tn, .int .i64 a, .int .i64 b, .int .i64 f, .slice sa n cp] 26) := cR_v11
      have y12_0 := cell6_0 ld12
      have y12_1 := cell6_1 ld12
      have y12_2 := cell6_2 ld12
      have y12_3 := cell6_3 ld12
      have y12_4 := cell6_4 ld12
      have y12_5 := cell6_5 ld12
      clear ld12
      have W15 : Wd v11 (.slice sa n cp) n X := hW.out.below (by first | exact hw_v11 | (rw [hD]; exact hw_v11))
      go_wp2_with fail
      refine (WI.out _ W15).mono ?_
      rintro e v13 ⟨rfl, hb_v13⟩
      have hs_v13 := hw_v11.size
      have cR_v13 : v13.heap[D]? = some (.cells #[.string nm, .string tn, .int .i64 a, .int .i64 b, .int .i64 f, .slice sa n cp] 26) := (hb_v13.block (D) (Array.getElem?_eq_some_iff.1 (show v11.heap[D]? = some (.cells #[.string nm, .string tn, .int .i64 a, .int .i64 b, .int .i64 f, .slice sa n cp] 26) from cR_v11)).1).trans cR_v11
      have hw_v13 : Below D w v13 := (hw_v11).trans (hb_v13.mono (by first | omega | (simp; omega)))
      clear cR_v11 hb_v13 y12_0 y12_1 y12_2 y12_3 y12_4 y12_5 hw_v11 hs_v13
      have ld14 : v13.heap[D]? = some (.cells #[.string nm, .string tn, .int .i64 a, .int .i64 b, .int .i64 f, .slice sa n cp] 26) := cR_v13
      have y14_0 := cell6_0 ld14
      have y14_1 := cell6_1 ld14
      have y14_2 := cell6_2 ld14
      have y14_3 := cell6_3 ld14
      have y14_4 := cell6_4 ld14
      have y14_5 := cell6_5 ld14
      clear ld14
      have W16 : Wd v13 (.slice sa n cp) n X := hW.out.below (by first | exact hw_v13 | (rw [hD]; exact hw_v13))
      go_wp2_with fail
      refine (TO.out _ W16).mono ?_
      rintro e v15 ⟨rfl, hb_v15⟩
      have hs_v15 := hw_v13.size
      have cR_v15 : v15.heap[D]? = some (.cells #[.string nm, .string tn, .int .i64 a, .int .i64 b, .int .i64 f, .slice sa n cp] 26) := (hb_v15.block (D) (Array.getElem?_eq_some_iff.1 (show v13.heap[D]? = some (.cells #[.string nm, .string tn, .int .i64 a, .int .i64 b, .int .i64 f, .slice sa n cp] 26) from cR_v13)).1).trans cR_v13
      have hw_v15 : Below D w v15 := (hw_v13).trans (hb_v15.mono (by first | omega | (simp; omega)))
      clear cR_v13 hb_v15 y14_0 y14_1 y14_2 y14_3 y14_4 y14_5 hw_v13 hs_v15
      have ld16 : v15.heap[D]? = some (.cells #[.string nm, .string tn, .int .i64 a, .int .i64 b, .int .i64 f, .slice sa n cp] 26) := cR_v15
      have y16_0 := cell6_0 ld16
      have y16_1 := cell6_1 ld16
      have y16_2 := cell6_2 ld16
      have y16_3 := cell6_3 ld16
      have y16_4 := cell6_4 ld16
      have y16_5 := cell6_5 ld16
      clear ld16
      have W17 : Wd v15 (.slice sa n cp) n X := hW.out.below (by first | exact hw_v15 | (rw [hD]; exact hw_v15))
      go_wp2_with fail
      refine (SO.out _ W17).mono ?_
      rintro e v17 ⟨rfl, hb_v17⟩
      have hs_v17 := hw_v15.size
      have cR_v17 : v17.heap[D]? = some (.cells #[.string nm, .string tn, .int .i64 a, .int .i64 b, .int .i64 f, .slice sa n cp] 26) := (hb_v17.block (D) (Array.getElem?_eq_some_iff.1 (show v15.heap[D]? = some (.cells #[.string nm, .string tn, .int .i64 a, .int .i64 b, .int .i64 f, .slice sa n cp] 26) from cR_v15)).1).trans cR_v15
      have hw_v17 : Below D w v17 := (hw_v15).trans (hb_v17.mono (by first | omega | (simp; omega)))
      clear cR_v15 hb_v17 y16_0 y16_1 y16_2 y16_3 y16_4 y16_5 hw_v15 hs_v17
      have ld18 : v17.heap[D]? = some (.cells #[.string nm, .string tn, .int .i64 a, .int .i64 b, .int .i64 f, .slice sa n cp] 26) := cR_v17
      have y18_0 := cell6_0 ld18
      have y18_1 := cell6_1 ld18
      have y18_2 := cell6_2 ld18
      have y18_3 := cell6_3 ld18
      have y18_4 := cell6_4 ld18
      have y18_5 := cell6_5 ld18
      clear ld18
      have W18 : Wd v17 (.slice sa n cp) n X := hW.out.below (by first | exact hw_v17 | (rw [hD]; exact hw_v17))
      go_wp2_with fail
      refine (SL.out _ W18).mono ?_
      rintro e v19 ⟨rfl, hb_v19⟩
      have hs_v19 := hw_v17.size
      have cR_v19 : v19.heap[D]? = some (.cells #[.string nm, .string tn, .int .i64 a, .int .i64 b, .int .i64 f, .slice sa n cp] 26) := (hb_v19.block (D) (Array.getElem?_eq_some_iff.1 (show v17.heap[D]? = some (.cells #[.string nm, .string tn, .int .i64 a, .int .i64 b, .int .i64 f, .slice sa n cp] 26) from cR_v17)).1).trans cR_v17
      have hw_v19 : Below D w v19 := (hw_v17).trans (hb_v19.mono (by first | omega | (simp; omega)))
      clear cR_v17 hb_v19 y18_0 y18_1 y18_2 y18_3 y18_4 y18_5 hw_v17 hs_v19
      obtain ⟨ES, hES⟩ : ∃ E, v19.heap.size = E := ⟨_, rfl⟩
      have ld20 : (v19.alloc (.cells #[.string ⟨#[]⟩, .string ⟨#[]⟩, .int .i64 0, .int .i64 0, .int .i64 0, .slice none 0 0] 26)).heap[D]? = some (.cells #[.string nm, .string tn, .int .i64 a, .int .i64 b, .int .i64 f, .slice sa n cp] 26) := (heap_old (o := .cells #[.string ⟨#[]⟩, .string ⟨#[]⟩, .int .i64 0, .int .i64 0, .int .i64 0, .slice none 0 0] 26) cR_v19)
      have y20_0 := cell6_0 ld20
      have y20_1 := cell6_1 ld20
      have y20_2 := cell6_2 ld20
      have y20_3 := cell6_3 ld20
      have y20_4 := cell6_4 ld20
      have y20_5 := cell6_5 ld20
      clear ld20
      have W19 : Wd (v19.alloc (.cells #[.string ⟨#[]⟩, .string ⟨#[]⟩, .int .i64 0, .int .i64 0, .int .i64 0, .slice none 0 0] 26)) (.slice sa n cp) n X := hW.out.below (by first | exact (hw_v19.alloc (by have := hw_v19.size; first | omega | (simp; omega)) (.cells #[.string ⟨#[]⟩, .string ⟨#[]⟩, .int .i64 0, .int .i64 0, .int .i64 0, .slice none 0 0] 26)) | (rw [hD]; exact (hw_v19.alloc (by have := hw_v19.size; first | omega | (simp; omega)) (.cells #[.string ⟨#[]⟩, .string ⟨#[]⟩, .int .i64 0, .int .i64 0, .int .i64 0, .slice none 0 0] 26))))
      have Z20 := wd_nil ((v19.alloc (.cells #[.string ⟨#[]⟩, .string ⟨#[]⟩, .int .i64 0, .int .i64 0, .int .i64 0, .slice none 0 0] 26))) X
      go_wp2_with fail
      refine (BE.out _ W19 Z20).mono ?_
      rintro e v21 ⟨rfl, hb_v21⟩
      have hs_v21 := hw_v19.size
      have cR_v21 : v21.heap[D]? = some (.cells #[.string nm, .string tn, .int .i64 a, .int .i64 b, .int .i64 f, .slice sa n cp] 26) := (hb_v21.block (D) (Array.getElem?_eq_some_iff.1 (show (v19.alloc (.cells #[.string ⟨#[]⟩, .string ⟨#[]⟩, .int .i64 0, .int .i64 0, .int .i64 0, .slice none 0 0] 26)).heap[D]? = some (.cells #[.string nm, .string tn, .int .i64 a, .int .i64 b, .int .i64 f, .slice sa n cp] 26) from (heap_old (o := .cells #[.string ⟨#[]⟩, .string ⟨#[]⟩, .int .i64 0, .int .i64 0, .int .i64 0, .slice none 0 0] 26) cR_v19))).1).trans (heap_old (o := .cells #[.string ⟨#[]⟩, .string ⟨#[]⟩, .int .i64 0, .int .i64 0, .int .i64 0, .slice none 0 0] 26) cR_v19)
      have cS_v21 : v21.heap[ES]? = some (.cells #[.string ⟨#[]⟩, .string ⟨#[]⟩, .int .i64 0, .int .i64 0, .int .i64 0, .slice none 0 0] 26) := (hb_v21.block (ES) (Array.getElem?_eq_some_iff.1 (show (v19.alloc (.cells #[.string ⟨#[]⟩, .string ⟨#[]⟩, .int .i64 0, .int .i64 0, .int .i64 0, .slice none 0 0] 26)).heap[ES]? = some (.cells #[.string ⟨#[]⟩, .string ⟨#[]⟩, .int .i64 0, .int .i64 0, .int .i64 0, .slice none 0 0] 26) from (heap_new (by first | omega | (simp; omega))))).1).trans (heap_new (by first | omega | (simp; omega)))
      have hw_v21 : Below D w v21 := ((hw_v19.alloc (by have := hw_v19.size; first | omega | (simp; omega)) (.cells #[.string ⟨#[]⟩, .string ⟨#[]⟩, .int .i64 0, .int .i64 0, .int .i64 0, .slice none 0 0] 26))).trans (hb_v21.mono (by first | omega | (simp; omega)))
      clear cR_v19 hb_v21 y20_0 y20_1 y20_2 y20_3 y20_4 y20_5 hw_v19 hs_v21
      obtain ⟨EU, hEU⟩ : ∃ E, v21.heap.size = E := ⟨_, rfl⟩
      have ld22 : (v21.alloc (.cells #[.string ⟨#[]⟩, .string ⟨#[]⟩, .int .i64 0, .int .i64 0, .int .i64 0, .slice none 0 0] 26)).heap[D]? = some (.cells #[.string nm, .string tn, .int .i64 a, .int .i64 b, .int .i64 f, .slice sa n cp] 26) := (heap_old (o := .cells #[.string ⟨#[]⟩, .string ⟨#[]⟩, .int .i64 0, .int .i64 0, .int .i64 0, .slice none 0 0] 26) cR_v21)
      have y22_0 := cell6_0 ld22
      have y22_1 := cell6_1 ld22
      have y22_2 := cell6_2 ld22
      have y22_3 := cell6_3 ld22
      have y22_4 := cell6_4 ld22
      have y22_5 := cell6_5 ld22
      clear ld22
      have W21 : Wd (v21.alloc (.cells #[.string ⟨#[]⟩, .string ⟨#[]⟩, .int .i64 0, .int .i64 0, .int .i64 0, .slice none 0 0] 26)) (.slice sa n cp) n X := hW.out.below (by first | exact (hw_v21.alloc (by have := hw_v21.size; first | omega | (simp; omega)) (.cells #[.string ⟨#[]⟩, .string ⟨#[]⟩, .int .i64 0, .int .i64 0, .int .i64 0, .slice none 0 0] 26)) | (rw [hD]; exact (hw_v21.alloc (by have := hw_v21.size; first | omega | (simp; omega)) (.cells #[.string ⟨#[]⟩, .string ⟨#[]⟩, .int .i64 0, .int .i64 0, .int .i64 0, .slice none 0 0] 26))))
      have Z22 := wd_nil ((v21.alloc (.cells #[.string ⟨#[]⟩, .string ⟨#[]⟩, .int .i64 0, .int .i64 0, .int .i64 0, .slice none 0 0] 26))) X
      go_wp2_with fail
      refine (AB.out _ W21 Z22).mono ?_
      rintro e v23 ⟨rfl, hb_v23⟩
      have hs_v23 := hw_v21.size
      have cR_v23 : v23.heap[D]? = some (.cells #[.string nm, .string tn, .int .i64 a, .int .i64 b, .int .i64 f, .slice sa n cp] 26) := (hb_v23.block (D) (Array.getElem?_eq_some_iff.1 (show (v21.alloc (.cells #[.string ⟨#[]⟩, .string ⟨#[]⟩, .int .i64 0, .int .i64 0, .int .i64 0, .slice none 0 0] 26)).heap[D]? = some (.cells #[.string nm, .string tn, .int .i64 a, .int .i64 b, .int .i64 f, .slice sa n cp] 26) from (heap_old (o := .cells #[.string ⟨#[]⟩, .string ⟨#[]⟩, .int .i64 0, .int .i64 0, .int .i64 0, .slice none 0 0] 26) cR_v21))).1).trans (heap_old (o := .cells #[.string ⟨#[]⟩, .string ⟨#[]⟩, .int .i64 0, .int .i64 0, .int .i64 0, .slice none 0 0] 26) cR_v21)
      have cS_v23 : v23.heap[ES]? = some (.cells #[.string ⟨#[]⟩, .string ⟨#[]⟩, .int .i64 0, .int .i64 0, .int .i64 0, .slice none 0 0] 26) := (hb_v23.block (ES) (Array.getElem?_eq_some_iff.1 (show (v21.alloc (.cells #[.string ⟨#[]⟩, .string ⟨#[]⟩, .int .i64 0, .int .i64 0, .int .i64 0, .slice none 0 0] 26)).heap[ES]? = some (.cells #[.string ⟨#[]⟩, .string ⟨#[]⟩, .int .i64 0, .int .i64 0, .int .i64 0, .slice none 0 0] 26) from (heap_old (o := .cells #[.string ⟨#[]⟩, .string ⟨#[]⟩, .int .i64 0, .int .i64 0, .int .i64 0, .slice none 0 0] 26) cS_v21))).1).trans (heap_old (o := .cells #[.string ⟨#[]⟩, .string ⟨#[]⟩, .int .i64 0, .int .i64 0, .int .i64 0, .slice none 0 0] 26) cS_v21)
      have cU_v23 : v23.heap[EU]? = some (.cells #[.string ⟨#[]⟩, .string ⟨#[]⟩, .int .i64 0, .int .i64 0, .int .i64 0, .slice none 0 0] 26) := (hb_v23.block (EU) (Array.getElem?_eq_some_iff.1 (show (v21.alloc (.cells #[.string ⟨#[]⟩, .string ⟨#[]⟩, .int .i64 0, .int .i64 0, .int .i64 0, .slice none 0 0] 26)).heap[EU]? = some (.cells #[.string ⟨#[]⟩, .string ⟨#[]⟩, .int .i64 0, .int .i64 0, .int .i64 0, .slice none 0 0] 26) from (heap_new (by first | omega | (simp; omega))))).1).trans (heap_new (by first | omega | (simp; omega)))
      have hw_v23 : Below D w v23 := ((hw_v21.alloc (by have := hw_v21.size; first | omega | (simp; omega)) (.cells #[.string ⟨#[]⟩, .string ⟨#[]⟩, .int .i64 0, .int .i64 0, .int .i64 0, .slice none 0 0] 26))).trans (hb_v23.mono (by first | omega | (simp; omega)))
      clear cR_v21 cS_v21 hb_v23 y22_0 y22_1 y22_2 y22_3 y22_4 y22_5 hw_v21 hs_v23
      obtain ⟨EY, hEY⟩ : ∃ E, v23.heap.size = E := ⟨_, rfl⟩
      have ld24 : (v23.alloc (.cells #[.string ⟨#[]⟩, .string ⟨#[]⟩, .int .i64 0, .int .i64 0, .int .i64 0, .slice none 0 0] 26)).heap[D]? = some (.cells #[.string nm, .string tn, .int .i64 a, .int .i64 b, .int .i64 f, .slice sa n cp] 26) := (heap_old (o := .cells #[.string ⟨#[]⟩, .string ⟨#[]⟩, .int .i64 0, .int .i64 0, .int .i64 0, .slice none 0 0] 26) cR_v23)
      have y24_0 := cell6_0 ld24
      have y24_1 := cell6_1 ld24
      have y24_2 := cell6_2 ld24
      have y24_3 := cell6_3 ld24
      have y24_4 := cell6_4 ld24
      have y24_5 := cell6_5 ld24
      clear ld24
      have W23 : Wd (v23.alloc (.cells #[.string ⟨#[]⟩, .string ⟨#[]⟩, .int .i64 0, .int .i64 0, .int .i64 0, .slice none 0 0] 26)) (.slice sa n cp) n X := hW.out.below (by first | exact (hw_v23.alloc (by have := hw_v23.size; first | omega | (simp; omega)) (.cells #[.string ⟨#[]⟩, .string ⟨#[]⟩, .int .i64 0, .int .i64 0, .int .i64 0, .slice none 0 0] 26)) | (rw [hD]; exact (hw_v23.alloc (by have := hw_v23.size; first | omega | (simp; omega)) (.cells #[.string ⟨#[]⟩, .string ⟨#[]⟩, .int .i64 0, .int .i64 0, .int .i64 0, .slice none 0 0] 26))))
      obtain ⟨V, hV⟩ : ∃ V, (v23.alloc (.cells #[.string ⟨#[]⟩, .string ⟨#[]⟩, .int .i64 0, .int .i64 0, .int .i64 0, .slice none 0 0] 26)) = V := ⟨_, rfl⟩
      have cRV := Lib.hid (show V.heap[D]? = some (.cells #[.string nm, .string tn, .int .i64 a, .int .i64 b, .int .i64 f, .slice sa n cp] 26) by rw [← hV]; exact (heap_old (o := .cells #[.string ⟨#[]⟩, .string ⟨#[]⟩, .int .i64 0, .int .i64 0, .int .i64 0, .slice none 0 0] 26) cR_v23))
      have cSV := Lib.hid (show V.heap[ES]? = some (.cells #[.string ⟨#[]⟩, .string ⟨#[]⟩, .int .i64 0, .int .i64 0, .int .i64 0, .slice none 0 0] 26) by rw [← hV]; exact (heap_old (o := .cells #[.string ⟨#[]⟩, .string ⟨#[]⟩, .int .i64 0, .int .i64 0, .int .i64 0, .slice none 0 0] 26) cS_v23))
      have cUV := Lib.hid (show V.heap[EU]? = some (.cells #[.string ⟨#[]⟩, .string ⟨#[]⟩, .int .i64 0, .int .i64 0, .int .i64 0, .slice none 0 0] 26) by rw [← hV]; exact (heap_old (o := .cells #[.string ⟨#[]⟩, .string ⟨#[]⟩, .int .i64 0, .int .i64 0, .int .i64 0, .slice none 0 0] 26) cU_v23))
      have cYV := Lib.hid (show V.heap[EY]? = some (.cells #[.string ⟨#[]⟩, .string ⟨#[]⟩, .int .i64 0, .int .i64 0, .int .i64 0, .slice none 0 0] 26) by rw [← hV]; exact (heap_new (by first | omega | (simp; omega))))
      have HBV := Lib.hid (show Below D w V by rw [← hV]; exact (hw_v23.alloc (by have := hw_v23.size; first | omega | (simp; omega)) (.cells #[.string ⟨#[]⟩, .string ⟨#[]⟩, .int .i64 0, .int .i64 0, .int .i64 0, .slice none 0 0] 26)))
      have HWR := Lib.hid (show Wd V (.slice sa n cp) n X by rw [← hV]; exact W23)
      have HEV := Lib.hid hV
      clear hV W23 cR_v23 cS_v23 cU_v23 hw_v23
      go_upto_region 17 with fail
      rw [HEV.out]
      clear y24_0 y24_1 y24_2 y24_3 y24_4 y24_5
      refine wp_region_slots_at rfl rfl (fun base ys => (((((((base.set 108 (ys 0)).set 109 (ys 1)).set 110 (ys 2)).set 107 (ys 3)).set 111 (ys 4)).set 112 (ys 5)).set 24 (ys 6)).set 25 (ys 8)) (StI _ 7 6 (Below V.heap.size V) (rdI V nm tn a b f sa n cp z) (rdJ z) (fun q A => ∃ E, q = .pointer (some ⟨E, 0, none⟩) ∧ V.heap.size ≤ E ∧ A.heap[E]? = some (.cells #[.string ⟨#[]⟩, .string ⟨#[]⟩, .int .i64 0, .int .i64 0, .int .i64 0, .slice none 0 0] 26) ∧ Below V.heap.size V A)) (fun _ => undef) (by kernel_rfl) (st_start (by decide) ((Below.refl _ _).trans ⟨rfl, rfl, rfl, Nat.le_refl _, fun _ _ => rfl⟩)) ?h17
      case h17 =>
        intro FF hFF
        simp only [List.set_cons_succ, List.set_cons_zero] at hFF
        subst hFF
        refine ⟨rfl, ?_, ?_⟩
        refine ⟨?_, ?_⟩
        · refine SlotStep.stB rfl (by decide) (fun L hc h => (clo_at hc 2 0 rfl (by kernel_rfl) (clo_at hc 3 2 rfl (by kernel_rfl) (clo_at hc 4 3 rfl (by kernel_rfl) (clo_at hc 7 4 rfl (by kernel_rfl) h))))) (fun A B hb h => h.trans (hb.mono h.size)) (rdI_up V nm tn a b f sa n cp z) ?_
          intro ys W hR hd K hK
          go_simp
          refine (RO.out W).mono ?_
          rintro e w5 ⟨⟨v5, rfl, hm5⟩, hb5⟩; obtain ⟨sr, cr, rfl⟩ := hm5.len
          have hK2 := hK (.agg #[.string ⟨#[82, 111, 119]⟩, .string ⟨#[79, 112, 101, 110]⟩, .int .i64 8, .int .i64 1, .int .i64 0, .slice sr 1 cr]) _ hb5 ⟨sr, cr, rfl, hm5⟩
          simp (config := { decide := true }) only [upd, if_true, if_false] at hK2
          exact hK2
        refine ⟨?_, ?_⟩
        · refine SlotStep.stB rfl (by decide) (fun L hc h => (clo_at hc 2 1 rfl (by kernel_rfl) (clo_at hc 3 2 rfl (by kernel_rfl) (clo_at hc 4 3 rfl (by kernel_rfl) (clo_at hc 7 4 rfl (by kernel_rfl) h))))) (fun A B hb h => h.trans (hb.mono h.size)) (rdI_up V nm tn a b f sa n cp z) ?_
          intro ys W hR hd K hK
          have hl := (hR.block D (Array.getElem?_eq_some_iff.1 cRV.out).1).trans cRV.out
          have c0 := cell6_0 hl
          have c1 := cell6_1 hl
          have c2 := cell6_2 hl
          have c3 := cell6_3 hl
          have c4 := cell6_4 hl
          have c5 := cell6_5 hl
          clear hl
          go_simp
          have hK2 := hK (.agg #[.string nm, .string tn, .int .i64 a, .int .i64 b, .int .i64 f, .slice sa n cp]) _ (Below.refl _ _) rfl
          simp (config := { decide := true }) only [upd, if_true, if_false] at hK2
          exact hK2
        refine ⟨?_, ?_⟩
        · refine SlotStep.stB rfl (by decide) (fun L hc h => (clo_at hc 3 2 rfl (by kernel_rfl) (clo_at hc 4 3 rfl (by kernel_rfl) (clo_at hc 7 4 rfl (by kernel_rfl) h)))) (fun A B hb h => h.trans (hb.mono h.size)) (rdI_up V nm tn a b f sa n cp z) ?_
          intro ys W hR hd K hK
          have dd1 : ys 1 = (.agg #[.string nm, .string tn, .int .i64 a, .int .i64 b, .int .i64 f, .slice sa n cp]) := hd 1 (by kernel_rfl) (by decide)
          obtain ⟨sr, cr, dd0, hw0⟩ : ∃ sr cr, ys 0 = .agg #[.string ⟨#[82, 111, 119]⟩, .string ⟨#[79, 112, 101, 110]⟩, .int .i64 8, .int .i64 1, .int .i64 0, .slice sr 1 cr] ∧ Wd W (.slice sr 1 cr) 1 (fun _ => 1) := hd 0 (by kernel_rfl) (by decide)
          have HJ := Lib.hid (JO.out sr cr W hw0 (HWR.out.below hR))
          clear hw0
          go_simp
          refine (HJ.out).mono ?_
          rintro e w5 ⟨rfl, hb5⟩
          have hK2 := hK (.tuple #[.agg #[.string ⟨#[]⟩, .string ⟨#[]⟩, .int .i64 0, .int .i64 0, .int .i64 0, .slice none 0 0], .int .i64 z]) _ hb5 rfl
          simp (config := { decide := true }) only [upd, if_true, if_false, dd1, dd0] at hK2
          exact hK2
        refine ⟨?_, ?_⟩
        · refine SlotStep.stB rfl (by decide) (fun L hc h => (clo_at hc 4 3 rfl (by kernel_rfl) (clo_at hc 7 4 rfl (by kernel_rfl) h))) (fun A B hb h => h.trans (hb.mono h.size)) (rdI_up V nm tn a b f sa n cp z) ?_
          intro ys W hR hd K hK
          have dd2 : ys 2 = (.tuple #[.agg #[.string ⟨#[]⟩, .string ⟨#[]⟩, .int .i64 0, .int .i64 0, .int .i64 0, .slice none 0 0], .int .i64 z]) := hd 2 (by kernel_rfl) (by decide)
          go_simp
          have hK2 := hK (.tuple #[.agg #[.string ⟨#[]⟩, .string ⟨#[]⟩, .int .i64 0, .int .i64 0, .int .i64 0, .slice none 0 0], .int .i64 z]) _ (Below.refl _ _) rfl
          simp (config := { decide := true }) only [upd, if_true, if_false, dd2] at hK2
          exact hK2
        refine ⟨?_, ?_⟩
        · refine SlotStep.stB rfl (by decide) (fun L hc h => (clo_at hc 7 4 rfl (by kernel_rfl) h)) (fun A B hb h => h.trans (hb.mono h.size)) (rdI_up V nm tn a b f sa n cp z) ?_
          intro ys W hR hd K hK
          have dd3 : ys 3 = (.tuple #[.agg #[.string ⟨#[]⟩, .string ⟨#[]⟩, .int .i64 0, .int .i64 0, .int .i64 0, .slice none 0 0], .int .i64 z]) := hd 3 (by kernel_rfl) (by decide)
          go_simp
          have hK2 := hK (.agg #[.string ⟨#[]⟩, .string ⟨#[]⟩, .int .i64 0, .int .i64 0, .int .i64 0, .slice none 0 0]) _ (Below.refl _ _) rfl
          simp (config := { decide := true }) only [upd, if_true, if_false, dd3] at hK2
          exact hK2
        refine ⟨?_, ?_⟩
        · refine SlotStep.stP rfl (by decide) (by decide) (rdJ_of V nm tn a b f sa n cp z) ?_
          intro ys W hd K hK
          have dd3 : ys 3 = .tuple #[.agg #[.string ⟨#[]⟩, .string ⟨#[]⟩, .int .i64 0, .int .i64 0, .int .i64 0, .slice none 0 0], .int .i64 z] := hd 3 (by kernel_rfl) (by decide)
          go_simp
          have hK2 := hK (.int .i64 z) rfl (fun _ => rfl)
          simp (config := { decide := true }) only [upd, if_true, if_false, dd3] at hK2
          exact hK2
        refine ⟨?_, ?_⟩
        · refine SlotStep.stB rfl (by decide) (fun L hc h => (clo_at hc 7 6 rfl (by kernel_rfl) h)) (fun A B hb h => h.trans (hb.mono h.size)) (rdI_up V nm tn a b f sa n cp z) ?_
          intro ys W hR hd K hK
          go_simp
          have hK2 := hK (.pointer (some ⟨W.heap.size, 0, none⟩)) _ ((Below.refl _ W).alloc (Nat.le_refl _) (.cells #[.string ⟨#[]⟩, .string ⟨#[]⟩, .int .i64 0, .int .i64 0, .int .i64 0, .slice none 0 0] 26)) ⟨_, rfl, hR.size, heap_new rfl⟩
          simp (config := { decide := true }) only [upd, if_true, if_false] at hK2
          exact hK2
        refine ⟨?_, ?_⟩
        · refine SlotStep.stS rfl rfl (by decide) (rdJ_of V nm tn a b f sa n cp z) (fun _ => trivial) ?_
          intro ys W hR hd K hK
          have dd4 : ys 4 = .agg #[.string ⟨#[]⟩, .string ⟨#[]⟩, .int .i64 0, .int .i64 0, .int .i64 0, .slice none 0 0] := hd 4 (by kernel_rfl) (by decide)
          obtain ⟨E, dd6, hE, hp⟩ : ∃ E, ys 6 = .pointer (some ⟨E, 0, none⟩) ∧ V.heap.size ≤ E ∧ W.heap[E]? = some (.cells #[.string ⟨#[]⟩, .string ⟨#[]⟩, .int .i64 0, .int .i64 0, .int .i64 0, .slice none 0 0] 26) := hd 6 (by kernel_rfl) (by decide)
          obtain ⟨c0, c1, c2, c3, c4, c5⟩ := cell6_at hp
          obtain ⟨f0, f1, f2, f3, f4, f5⟩ := free6_at hp
          have HP := Lib.hid hp
          clear hp
          go_simp
          have hK2 := hK undef _ ⟨E, dd6, hE, set6_all HP.out, below6 hR hE _ _ _ _ _ _⟩
          simp (config := { decide := true }) only [upd, if_true, if_false, dd4, dd6] at hK2
          exact hK2
        refine ⟨?_, ?_⟩
        · refine SlotStep.stP rfl (by decide) (by decide) (rdJ_of V nm tn a b f sa n cp z) ?_
          intro ys W hd K hK
          have dd5 : ys 5 = .int .i64 z := hd 5 (by kernel_rfl) (by decide)
          go_simp
          have hK2 := hK (.int .i64 z) rfl (fun _ => rfl)
          simp (config := { decide := true }) only [upd, if_true, if_false, dd5] at hK2
          exact hK2
        trivial
        · intro L6 ys6 U hL6 hI6
          obtain ⟨⟨EW, d6, hEW, cWU, hbU⟩, hj⟩ := st_end (by decide) hL6 hI6
          have d8 : ys6 8 = .int .i64 z := hj 8 (by decide)
          simp only [d6, d8]
          generalize ys6 0 = v0_ at *
          generalize ys6 1 = v1_ at *
          generalize ys6 2 = v2_ at *
          generalize ys6 3 = v3_ at *
          generalize ys6 4 = v4_ at *
          generalize ys6 5 = v5_ at *
          have cRU := (hbU.block (D) (Array.getElem?_eq_some_iff.1 cRV.out).1).trans cRV.out
          have cSU := (hbU.block (ES) (Array.getElem?_eq_some_iff.1 cSV.out).1).trans cSV.out
          have cUU := (hbU.block (EU) (Array.getElem?_eq_some_iff.1 cUV.out).1).trans cUV.out
          have cYU := (hbU.block (EY) (Array.getElem?_eq_some_iff.1 cYV.out).1).trans cYV.out
          have hw_U : Below D w U := HBV.out.trans (hbU.mono (by have := HBV.out.size; omega))
          clear hj hL6 hI6 d6 d8 hbU hEW HBV HEV HWR cRV cSV cUV cYV
          have ld25 : U.heap[D]? = some (.cells #[.string nm, .string tn, .int .i64 a, .int .i64 b, .int .i64 f, .slice sa n cp] 26) := cRU
          have y25_0 := cell6_0 ld25
          have y25_1 := cell6_1 ld25
          have y25_2 := cell6_2 ld25
          have y25_3 := cell6_3 ld25
          have y25_4 := cell6_4 ld25
          have y25_5 := cell6_5 ld25
          clear ld25
          have W24 : Wd U (.slice sa n cp) n X := hW.out.below (by first | exact hw_U | (rw [hD]; exact hw_U))
          go_wp2_with fail
          refine (RE.out _ W24).mono ?_
          rintro e v26 ⟨rfl, hb_v26⟩
          have hs_v26 := hw_U.size
          have cR_v26 : v26.heap[D]? = some (.cells #[.string nm, .string tn, .int .i64 a, .int .i64 b, .int .i64 f, .slice sa n cp] 26) := (hb_v26.block (D) (Array.getElem?_eq_some_iff.1 (show U.heap[D]? = some (.cells #[.string nm, .string tn, .int .i64 a, .int .i64 b, .int .i64 f, .slice sa n cp] 26) from cRU)).1).trans cRU
          have cS_v26 : v26.heap[ES]? = some (.cells #[.string ⟨#[]⟩, .string ⟨#[]⟩, .int .i64 0, .int .i64 0, .int .i64 0, .slice none 0 0] 26) := (hb_v26.block (ES) (Array.getElem?_eq_some_iff.1 (show U.heap[ES]? = some (.cells #[.string ⟨#[]⟩, .string ⟨#[]⟩, .int .i64 0, .int .i64 0, .int .i64 0, .slice none 0 0] 26) from cSU)).1).trans cSU
          have cU_v26 : v26.heap[EU]? = some (.cells #[.string ⟨#[]⟩, .string ⟨#[]⟩, .int .i64 0, .int .i64 0, .int .i64 0, .slice none 0 0] 26) := (hb_v26.block (EU) (Array.getElem?_eq_some_iff.1 (show U.heap[EU]? = some (.cells #[.string ⟨#[]⟩, .string ⟨#[]⟩, .int .i64 0, .int .i64 0, .int .i64 0, .slice none 0 0] 26) from cUU)).1).trans cUU
          have cY_v26 : v26.heap[EY]? = some (.cells #[.string ⟨#[]⟩, .string ⟨#[]⟩, .int .i64 0, .int .i64 0, .int .i64 0, .slice none 0 0] 26) := (hb_v26.block (EY) (Array.getElem?_eq_some_iff.1 (show U.heap[EY]? = some (.cells #[.string ⟨#[]⟩, .string ⟨#[]⟩, .int .i64 0, .int .i64 0, .int .i64 0, .slice none 0 0] 26) from cYU)).1).trans cYU
          have cW_v26 : v26.heap[EW]? = some (.cells #[.string ⟨#[]⟩, .string ⟨#[]⟩, .int .i64 0, .int .i64 0, .int .i64 0, .slice none 0 0] 26) := (hb_v26.block (EW) (Array.getElem?_eq_some_iff.1 (show U.heap[EW]? = some (.cells #[.string ⟨#[]⟩, .string ⟨#[]⟩, .int .i64 0, .int .i64 0, .int .i64 0, .slice none 0 0] 26) from cWU)).1).trans cWU
          have hw_v26 : Below D w v26 := (hw_U).trans (hb_v26.mono (by first | omega | (simp; omega)))
          clear cRU cSU cUU cYU cWU hb_v26 y25_0 y25_1 y25_2 y25_3 y25_4 y25_5 hw_U hs_v26
          obtain ⟨EQ, hEQ⟩ : ∃ E, v26.heap.size = E := ⟨_, rfl⟩
          have ld27 : ((v26.alloc (.cells #[.string ⟨#[]⟩, .string ⟨#[]⟩, .int .i64 0, .int .i64 0, .int .i64 0, .slice none 0 0] 26)).alloc (.cells #[.string ⟨#[]⟩, .string ⟨#[]⟩, .int .i64 0, .int .i64 0, .int .i64 0, .slice none 0 0] 26)).heap[ES]? = some (.cells #[.string ⟨#[]⟩, .string ⟨#[]⟩, .int .i64 0, .int .i64 0, .int .i64 0, .slice none 0 0] 26) := (heap_old (o := .cells #[.string ⟨#[]⟩, .string ⟨#[]⟩, .int .i64 0, .int .i64 0, .int .i64 0, .slice none 0 0] 26) (heap_old (o := .cells #[.string ⟨#[]⟩, .string ⟨#[]⟩, .int .i64 0, .int .i64 0, .int .i64 0, .slice none 0 0] 26) cS_v26))
          have y27_0 := cell6_0 ld27
          have y27_1 := cell6_1 ld27
          have y27_2 := cell6_2 ld27
          have y27_3 := cell6_3 ld27
          have y27_4 := cell6_4 ld27
          have y27_5 := cell6_5 ld27
          clear ld27
          have ld28 : ((v26.alloc (.cells #[.string ⟨#[]⟩, .string ⟨#[]⟩, .int .i64 0, .int .i64 0, .int .i64 0, .slice none 0 0] 26)).alloc (.cells #[.string ⟨#[]⟩, .string ⟨#[]⟩, .int .i64 0, .int .i64 0, .int .i64 0, .slice none 0 0] 26)).heap[EQ + 1]? = some (.cells #[.string ⟨#[]⟩, .string ⟨#[]⟩, .int .i64 0, .int .i64 0, .int .i64 0, .slice none 0 0] 26) := (heap_new (by first | omega | (simp; omega)))
          have y28_0 := cell6_0 ld28
          have y28_1 := cell6_1 ld28
          have y28_2 := cell6_2 ld28
          have y28_3 := cell6_3 ld28
          have y28_4 := cell6_4 ld28
          have y28_5 := cell6_5 ld28
          clear ld28
          have Z25 := wd_nil (((v26.alloc (.cells #[.string ⟨#[]⟩, .string ⟨#[]⟩, .int .i64 0, .int .i64 0, .int .i64 0, .slice none 0 0] 26)).alloc (.cells #[.string ⟨#[]⟩, .string ⟨#[]⟩, .int .i64 0, .int .i64 0, .int .i64 0, .slice none 0 0] 26))) X
          go_wp2_with fail
          refine (SZ.out _ _ _ Z25 Z25).mono ?_
          rintro e v29 ⟨rfl, hb_v29⟩
          have hs_v29 := hw_v26.size
          have cR_v29 : v29.heap[D]? = some (.cells #[.string nm, .string tn, .int .i64 a, .int .i64 b, .int .i64 f, .slice sa n cp] 26) := (hb_v29.block (D) (Array.getElem?_eq_some_iff.1 (show ((v26.alloc (.cells #[.string ⟨#[]⟩, .string ⟨#[]⟩, .int .i64 0, .int .i64 0, .int .i64 0, .slice none 0 0] 26)).alloc (.cells #[.string ⟨#[]⟩, .string ⟨#[]⟩, .int .i64 0, .int .i64 0, .int .i64 0, .slice none 0 0] 26)).heap[D]? = some (.cells #[.string nm, .string tn, .int .i64 a, .int .i64 b, .int .i64 f, .slice sa n cp] 26) from (heap_old (o := .cells #[.string ⟨#[]⟩, .string ⟨#[]⟩, .int .i64 0, .int .i64 0, .int .i64 0, .slice none 0 0] 26) (heap_old (o := .cells #[.string ⟨#[]⟩, .string ⟨#[]⟩, .int .i64 0, .int .i64 0, .int .i64 0, .slice none 0 0] 26) cR_v26)))).1).trans (heap_old (o := .cells #[.string ⟨#[]⟩, .string ⟨#[]⟩, .int .i64 0, .int .i64 0, .int .i64 0, .slice none 0 0] 26) (heap_old (o := .cells #[.string ⟨#[]⟩, .string ⟨#[]⟩, .int .i64 0, .int .i64 0, .int .i64 0, .slice none 0 0] 26) cR_v26))
          have cS_v29 : v29.heap[ES]? = some (.cells #[.string ⟨#[]⟩, .string ⟨#[]⟩, .int .i64 0, .int .i64 0, .int .i64 0, .slice none 0 0] 26) := (hb_v29.block (ES) (Array.getElem?_eq_some_iff.1 (show ((v26.alloc (.cells #[.string ⟨#[]⟩, .string ⟨#[]⟩, .int .i64 0, .int .i64 0, .int .i64 0, .slice none 0 0] 26)).alloc (.cells #[.string ⟨#[]⟩, .string ⟨#[]⟩, .int .i64 0, .int .i64 0, .int .i64 0, .slice none 0 0] 26)).heap[ES]? = some (.cells #[.string ⟨#[]⟩, .string ⟨#[]⟩, .int .i64 0, .int .i64 0, .int .i64 0, .slice none 0 0] 26) from (heap_old (o := .cells #[.string ⟨#[]⟩, .string ⟨#[]⟩, .int .i64 0, .int .i64 0, .int .i64 0, .slice none 0 0] 26) (heap_old (o := .cells #[.string ⟨#[]⟩, .string ⟨#[]⟩, .int .i64 0, .int .i64 0, .int .i64 0, .slice none 0 0] 26) cS_v26)))).1).trans (heap_old (o := .cells #[.string ⟨#[]⟩, .string ⟨#[]⟩, .int .i64 0, .int .i64 0, .int .i64 0, .slice none 0 0] 26) (heap_old (o := .cells #[.string ⟨#[]⟩, .string ⟨#[]⟩, .int .i64 0, .int .i64 0, .int .i64 0, .slice none 0 0] 26) cS_v26))
          have cU_v29 : v29.heap[EU]? = some (.cells #[.string ⟨#[]⟩, .string ⟨#[]⟩, .int .i64 0, .int .i64 0, .int .i64 0, .slice none 0 0] 26) := (hb_v29.block (EU) (Array.getElem?_eq_some_iff.1 (show ((v26.alloc (.cells #[.string ⟨#[]⟩, .string ⟨#[]⟩, .int .i64 0, .int .i64 0, .int .i64 0, .slice none 0 0] 26)).alloc (.cells #[.string ⟨#[]⟩, .string ⟨#[]⟩, .int .i64 0, .int .i64 0, .int .i64 0, .slice none 0 0] 26)).heap[EU]? = some (.cells #[.string ⟨#[]⟩, .string ⟨#[]⟩, .int .i64 0, .int .i64 0, .int .i64 0, .slice none 0 0] 26) from (heap_old (o := .cells #[.string ⟨#[]⟩, .string ⟨#[]⟩, .int .i64 0, .int .i64 0, .int .i64 0, .slice none 0 0] 26) (heap_old (o := .cells #[.string ⟨#[]⟩, .string ⟨#[]⟩, .int .i64 0, .int .i64 0, .int .i64 0, .slice none 0 0] 26) cU_v26)))).1).trans (heap_old (o := .cells #[.string ⟨#[]⟩, .string ⟨#[]⟩, .int .i64 0, .int .i64 0, .int .i64 0, .slice none 0 0] 26) (heap_old (o := .cells #[.string ⟨#[]⟩, .string ⟨#[]⟩, .int .i64 0, .int .i64 0, .int .i64 0, .slice none 0 0] 26) cU_v26))
          have cY_v29 : v29.heap[EY]? = some (.cells #[.string ⟨#[]⟩, .string ⟨#[]⟩, .int .i64 0, .int .i64 0, .int .i64 0, .slice none 0 0] 26) := (hb_v29.block (EY) (Array.getElem?_eq_some_iff.1 (show ((v26.alloc (.cells #[.string ⟨#[]⟩, .string ⟨#[]⟩, .int .i64 0, .int .i64 0, .int .i64 0, .slice none 0 0] 26)).alloc (.cells #[.string ⟨#[]⟩, .string ⟨#[]⟩, .int .i64 0, .int .i64 0, .int .i64 0, .slice none 0 0] 26)).heap[EY]? = some (.cells #[.string ⟨#[]⟩, .string ⟨#[]⟩, .int .i64 0, .int .i64 0, .int .i64 0, .slice none 0 0] 26) from (heap_old (o := .cells #[.string ⟨#[]⟩, .string ⟨#[]⟩, .int .i64 0, .int .i64 0, .int .i64 0, .slice none 0 0] 26) (heap_old (o := .cells #[.string ⟨#[]⟩, .string ⟨#[]⟩, .int .i64 0, .int .i64 0, .int .i64 0, .slice none 0 0] 26) cY_v26)))).1).trans (heap_old (o := .cells #[.string ⟨#[]⟩, .string ⟨#[]⟩, .int .i64 0, .int .i64 0, .int .i64 0, .slice none 0 0] 26) (heap_old (o := .cells #[.string ⟨#[]⟩, .string ⟨#[]⟩, .int .i64 0, .int .i64 0, .int .i64 0, .slice none 0 0] 26) cY_v26))
          have cW_v29 : v29.heap[EW]? = some (.cells #[.string ⟨#[]⟩, .string ⟨#[]⟩, .int .i64 0, .int .i64 0, .int .i64 0, .slice none 0 0] 26) := (hb_v29.block (EW) (Array.getElem?_eq_some_iff.1 (show ((v26.alloc (.cells #[.string ⟨#[]⟩, .string ⟨#[]⟩, .int .i64 0, .int .i64 0, .int .i64 0, .slice none 0 0] 26)).alloc (.cells #[.string ⟨#[]⟩, .string ⟨#[]⟩, .int .i64 0, .int .i64 0, .int .i64 0, .slice none 0 0] 26)).heap[EW]? = some (.cells #[.string ⟨#[]⟩, .string ⟨#[]⟩, .int .i64 0, .int .i64 0, .int .i64 0, .slice none 0 0] 26) from (heap_old (o := .cells #[.string ⟨#[]⟩, .string ⟨#[]⟩, .int .i64 0, .int .i64 0, .int .i64 0, .slice none 0 0] 26) (heap_old (o := .cells #[.string ⟨#[]⟩, .string ⟨#[]⟩, .int .i64 0, .int .i64 0, .int .i64 0, .slice none 0 0] 26) cW_v26)))).1).trans (heap_old (o := .cells #[.string ⟨#[]⟩, .string ⟨#[]⟩, .int .i64 0, .int .i64 0, .int .i64 0, .slice none 0 0] 26) (heap_old (o := .cells #[.string ⟨#[]⟩, .string ⟨#[]⟩, .int .i64 0, .int .i64 0, .int .i64 0, .slice none 0 0] 26) cW_v26))
          have cQ_v29 : v29.heap[EQ]? = some (.cells #[.string ⟨#[]⟩, .string ⟨#[]⟩, .int .i64 0, .int .i64 0, .int .i64 0, .slice none 0 0] 26) := (hb_v29.block (EQ) (Array.getElem?_eq_some_iff.1 (show ((v26.alloc (.cells #[.string ⟨#[]⟩, .string ⟨#[]⟩, .int .i64 0, .int .i64 0, .int .i64 0, .slice none 0 0] 26)).alloc (.cells #[.string ⟨#[]⟩, .string ⟨#[]⟩, .int .i64 0, .int .i64 0, .int .i64 0, .slice none 0 0] 26)).heap[EQ]? = some (.cells #[.string ⟨#[]⟩, .string ⟨#[]⟩, .int .i64 0, .int .i64 0, .int .i64 0, .slice none 0 0] 26) from (heap_old (o := .cells #[.string ⟨#[]⟩, .string ⟨#[]⟩, .int .i64 0, .int .i64 0, .int .i64 0, .slice none 0 0] 26) (heap_new (by first | omega | (simp; omega)))))).1).trans (heap_old (o := .cells #[.string ⟨#[]⟩, .string ⟨#[]⟩, .int .i64 0, .int .i64 0, .int .i64 0, .slice none 0 0] 26) (heap_new (by first | omega | (simp; omega))))
          have cZ_v29 : v29.heap[EQ + 1]? = some (.cells #[.string ⟨#[]⟩, .string ⟨#[]⟩, .int .i64 0, .int .i64 0, .int .i64 0, .slice none 0 0] 26) := (hb_v29.block (EQ + 1) (Array.getElem?_eq_some_iff.1 (show ((v26.alloc (.cells #[.string ⟨#[]⟩, .string ⟨#[]⟩, .int .i64 0, .int .i64 0, .int .i64 0, .slice none 0 0] 26)).alloc (.cells #[.string ⟨#[]⟩, .string ⟨#[]⟩, .int .i64 0, .int .i64 0, .int .i64 0, .slice none 0 0] 26)).heap[EQ + 1]? = some (.cells #[.string ⟨#[]⟩, .string ⟨#[]⟩, .int .i64 0, .int .i64 0, .int .i64 0, .slice none 0 0] 26) from (heap_new (by first | omega | (simp; omega))))).1).trans (heap_new (by first | omega | (simp; omega)))
          have hw_v29 : Below D w v29 := (((hw_v26.alloc (by have := hw_v26.size; first | omega | (simp; omega)) (.cells #[.string ⟨#[]⟩, .string ⟨#[]⟩, .int .i64 0, .int .i64 0, .int .i64 0, .slice none 0 0] 26)).alloc (by have := hw_v26.size; first | omega | (simp; omega)) (.cells #[.string ⟨#[]⟩, .string ⟨#[]⟩, .int .i64 0, .int .i64 0, .int .i64 0, .slice none 0 0] 26))).trans (hb_v29.mono (by first | omega | (simp; omega)))
          clear cR_v26 cS_v26 cU_v26 cY_v26 cW_v26 hb_v29 y27_0 y27_1 y27_2 y27_3 y27_4 y27_5 y28_0 y28_1 y28_2 y28_3 y28_4 y28_5 hw_v26 hs_v29
          have ld30 : v29.heap[EU]? = some (.cells #[.string ⟨#[]⟩, .string ⟨#[]⟩, .int .i64 0, .int .i64 0, .int .i64 0, .slice none 0 0] 26) := cU_v29
          have y30_0 := cell6_0 ld30
          have y30_1 := cell6_1 ld30
          have y30_2 := cell6_2 ld30
          have y30_3 := cell6_3 ld30
          have y30_4 := cell6_4 ld30
          have y30_5 := cell6_5 ld30
          clear ld30
          have ld31 : v29.heap[EQ + 1]? = some (.cells #[.string ⟨#[]⟩, .string ⟨#[]⟩, .int .i64 0, .int .i64 0, .int .i64 0, .slice none 0 0] 26) := cZ_v29
          have y31_0 := cell6_0 ld31
          have y31_1 := cell6_1 ld31
          have y31_2 := cell6_2 ld31
          have y31_3 := cell6_3 ld31
          have y31_4 := cell6_4 ld31
          have y31_5 := cell6_5 ld31
          clear ld31
          have Z26 := wd_nil (v29) X
          go_wp2_with fail
          refine (SZ.out _ _ _ Z26 Z26).mono ?_
          rintro e v32 ⟨rfl, hb_v32⟩
          have hs_v32 := hw_v29.size
          have cR_v32 : v32.heap[D]? = some (.cells #[.string nm, .string tn, .int .i64 a, .int .i64 b, .int .i64 f, .slice sa n cp] 26) := (hb_v32.block (D) (Array.getElem?_eq_some_iff.1 (show v29.heap[D]? = some (.cells #[.string nm, .string tn, .int .i64 a, .int .i64 b, .int .i64 f, .slice sa n cp] 26) from cR_v29)).1).trans cR_v29
          have cS_v32 : v32.heap[ES]? = some (.cells #[.string ⟨#[]⟩, .string ⟨#[]⟩, .int .i64 0, .int .i64 0, .int .i64 0, .slice none 0 0] 26) := (hb_v32.block (ES) (Array.getElem?_eq_some_iff.1 (show v29.heap[ES]? = some (.cells #[.string ⟨#[]⟩, .string ⟨#[]⟩, .int .i64 0, .int .i64 0, .int .i64 0, .slice none 0 0] 26) from cS_v29)).1).trans cS_v29
          have cU_v32 : v32.heap[EU]? = some (.cells #[.string ⟨#[]⟩, .string ⟨#[]⟩, .int .i64 0, .int .i64 0, .int .i64 0, .slice none 0 0] 26) := (hb_v32.block (EU) (Array.getElem?_eq_some_iff.1 (show v29.heap[EU]? = some (.cells #[.string ⟨#[]⟩, .string ⟨#[]⟩, .int .i64 0, .int .i64 0, .int .i64 0, .slice none 0 0] 26) from cU_v29)).1).trans cU_v29
          have cY_v32 : v32.heap[EY]? = some (.cells #[.string ⟨#[]⟩, .string ⟨#[]⟩, .int .i64 0, .int .i64 0, .int .i64 0, .slice none 0 0] 26) := (hb_v32.block (EY) (Array.getElem?_eq_some_iff.1 (show v29.heap[EY]? = some (.cells #[.string ⟨#[]⟩, .string ⟨#[]⟩, .int .i64 0, .int .i64 0, .int .i64 0, .slice none 0 0] 26) from cY_v29)).1).trans cY_v29
          have cW_v32 : v32.heap[EW]? = some (.cells #[.string ⟨#[]⟩, .string ⟨#[]⟩, .int .i64 0, .int .i64 0, .int .i64 0, .slice none 0 0] 26) := (hb_v32.block (EW) (Array.getElem?_eq_some_iff.1 (show v29.heap[EW]? = some (.cells #[.string ⟨#[]⟩, .string ⟨#[]⟩, .int .i64 0, .int .i64 0, .int .i64 0, .slice none 0 0] 26) from cW_v29)).1).trans cW_v29
          have cQ_v32 : v32.heap[EQ]? = some (.cells #[.string ⟨#[]⟩, .string ⟨#[]⟩, .int .i64 0, .int .i64 0, .int .i64 0, .slice none 0 0] 26) := (hb_v32.block (EQ) (Array.getElem?_eq_some_iff.1 (show v29.heap[EQ]? = some (.cells #[.string ⟨#[]⟩, .string ⟨#[]⟩, .int .i64 0, .int .i64 0, .int .i64 0, .slice none 0 0] 26) from cQ_v29)).1).trans cQ_v29
          have cZ_v32 : v32.heap[EQ + 1]? = some (.cells #[.string ⟨#[]⟩, .string ⟨#[]⟩, .int .i64 0, .int .i64 0, .int .i64 0, .slice none 0 0] 26) := (hb_v32.block (EQ + 1) (Array.getElem?_eq_some_iff.1 (show v29.heap[EQ + 1]? = some (.cells #[.string ⟨#[]⟩, .string ⟨#[]⟩, .int .i64 0, .int .i64 0, .int .i64 0, .slice none 0 0] 26) from cZ_v29)).1).trans cZ_v29
          have hw_v32 : Below D w v32 := (hw_v29).trans (hb_v32.mono (by first | omega | (simp; omega)))
          clear cR_v29 cS_v29 cU_v29 cY_v29 cW_v29 cQ_v29 cZ_v29 hb_v32 y30_0 y30_1 y30_2 y30_3 y30_4 y30_5 y31_0 y31_1 y31_2 y31_3 y31_4 y31_5 hw_v29 hs_v32
          have ld33 : v32.heap[EY]? = some (.cells #[.string ⟨#[]⟩, .string ⟨#[]⟩, .int .i64 0, .int .i64 0, .int .i64 0, .slice none 0 0] 26) := cY_v32
          have y33_0 := cell6_0 ld33
          have y33_1 := cell6_1 ld33
          have y33_2 := cell6_2 ld33
          have y33_3 := cell6_3 ld33
          have y33_4 := cell6_4 ld33
          have y33_5 := cell6_5 ld33
          clear ld33
          have ld34 : v32.heap[EQ + 1]? = some (.cells #[.string ⟨#[]⟩, .string ⟨#[]⟩, .int .i64 0, .int .i64 0, .int .i64 0, .slice none 0 0] 26) := cZ_v32
          have y34_0 := cell6_0 ld34
          have y34_1 := cell6_1 ld34
          have y34_2 := cell6_2 ld34
          have y34_3 := cell6_3 ld34
          have y34_4 := cell6_4 ld34
          have y34_5 := cell6_5 ld34
          clear ld34
          have Z27 := wd_nil (v32) X
          go_wp2_with fail
          refine (SZ.out _ _ _ Z27 Z27).mono ?_
          rintro e v35 ⟨rfl, hb_v35⟩
          have hs_v35 := hw_v32.size
          have cR_v35 : v35.heap[D]? = some (.cells #[.string nm, .string tn, .int .i64 a, .int .i64 b, .int .i64 f, .slice sa n cp] 26) := (hb_v35.block (D) (Array.getElem?_eq_some_iff.1 (show v32.heap[D]? = some (.cells #[.string nm, .string tn, .int .i64 a, .int .i64 b, .int .i64 f, .slice sa n cp] 26) from cR_v32)).1).trans cR_v32
          have cS_v35 : v35.heap[ES]? = some (.cells #[.string ⟨#[]⟩, .string ⟨#[]⟩, .int .i64 0, .int .i64 0, .int .i64 0, .slice none 0 0] 26) := (hb_v35.block (ES) (Array.getElem?_eq_some_iff.1 (show v32.heap[ES]? = some (.cells #[.string ⟨#[]⟩, .string ⟨#[]⟩, .int .i64 0, .int .i64 0, .int .i64 0, .slice none 0 0] 26) from cS_v32)).1).trans cS_v32
          have cU_v35 : v35.heap[EU]? = some (.cells #[.string ⟨#[]⟩, .string ⟨#[]⟩, .int .i64 0, .int .i64 0, .int .i64 0, .slice none 0 0] 26) := (hb_v35.block (EU) (Array.getElem?_eq_some_iff.1 (show v32.heap[EU]? = some (.cells #[.string ⟨#[]⟩, .string ⟨#[]⟩, .int .i64 0, .int .i64 0, .int .i64 0, .slice none 0 0] 26) from cU_v32)).1).trans cU_v32
          have cY_v35 : v35.heap[EY]? = some (.cells #[.string ⟨#[]⟩, .string ⟨#[]⟩, .int .i64 0, .int .i64 0, .int .i64 0, .slice none 0 0] 26) := (hb_v35.block (EY) (Array.getElem?_eq_some_iff.1 (show v32.heap[EY]? = some (.cells #[.string ⟨#[]⟩, .string ⟨#[]⟩, .int .i64 0, .int .i64 0, .int .i64 0, .slice none 0 0] 26) from cY_v32)).1).trans cY_v32
          have cW_v35 : v35.heap[EW]? = some (.cells #[.string ⟨#[]⟩, .string ⟨#[]⟩, .int .i64 0, .int .i64 0, .int .i64 0, .slice none 0 0] 26) := (hb_v35.block (EW) (Array.getElem?_eq_some_iff.1 (show v32.heap[EW]? = some (.cells #[.string ⟨#[]⟩, .string ⟨#[]⟩, .int .i64 0, .int .i64 0, .int .i64 0, .slice none 0 0] 26) from cW_v32)).1).trans cW_v32
          have cQ_v35 : v35.heap[EQ]? = some (.cells #[.string ⟨#[]⟩, .string ⟨#[]⟩, .int .i64 0, .int .i64 0, .int .i64 0, .slice none 0 0] 26) := (hb_v35.block (EQ) (Array.getElem?_eq_some_iff.1 (show v32.heap[EQ]? = some (.cells #[.string ⟨#[]⟩, .string ⟨#[]⟩, .int .i64 0, .int .i64 0, .int .i64 0, .slice none 0 0] 26) from cQ_v32)).1).trans cQ_v32
          have cZ_v35 : v35.heap[EQ + 1]? = some (.cells #[.string ⟨#[]⟩, .string ⟨#[]⟩, .int .i64 0, .int .i64 0, .int .i64 0, .slice none 0 0] 26) := (hb_v35.block (EQ + 1) (Array.getElem?_eq_some_iff.1 (show v32.heap[EQ + 1]? = some (.cells #[.string ⟨#[]⟩, .string ⟨#[]⟩, .int .i64 0, .int .i64 0, .int .i64 0, .slice none 0 0] 26) from cZ_v32)).1).trans cZ_v32
          have hw_v35 : Below D w v35 := (hw_v32).trans (hb_v35.mono (by first | omega | (simp; omega)))
          clear cR_v32 cS_v32 cU_v32 cY_v32 cW_v32 cQ_v32 cZ_v32 hb_v35 y33_0 y33_1 y33_2 y33_3 y33_4 y33_5 y34_0 y34_1 y34_2 y34_3 y34_4 y34_5 hw_v32 hs_v35
          have ld36 : v35.heap[EW]? = some (.cells #[.string ⟨#[]⟩, .string ⟨#[]⟩, .int .i64 0, .int .i64 0, .int .i64 0, .slice none 0 0] 26) := cW_v35
          have y36_0 := cell6_0 ld36
          have y36_1 := cell6_1 ld36
          have y36_2 := cell6_2 ld36
          have y36_3 := cell6_3 ld36
          have y36_4 := cell6_4 ld36
          have y36_5 := cell6_5 ld36
          clear ld36
          have ld37 : v35.heap[EQ + 1]? = some (.cells #[.string ⟨#[]⟩, .string ⟨#[]⟩, .int .i64 0, .int .i64 0, .int .i64 0, .slice none 0 0] 26) := cZ_v35
          have y37_0 := cell6_0 ld37
          have y37_1 := cell6_1 ld37
          have y37_2 := cell6_2 ld37
          have y37_3 := cell6_3 ld37
          have y37_4 := cell6_4 ld37
          have y37_5 := cell6_5 ld37
          clear ld37
          have Z28 := wd_nil (v35) X
          go_wp2_with fail
          refine (SZ.out _ _ _ Z28 Z28).mono ?_
          rintro e v38 ⟨rfl, hb_v38⟩
          have hs_v38 := hw_v35.size
          have cR_v38 : v38.heap[D]? = some (.cells #[.string nm, .string tn, .int .i64 a, .int .i64 b, .int .i64 f, .slice sa n cp] 26) := (hb_v38.block (D) (Array.getElem?_eq_some_iff.1 (show v35.heap[D]? = some (.cells #[.string nm, .string tn, .int .i64 a, .int .i64 b, .int .i64 f, .slice sa n cp] 26) from cR_v35)).1).trans cR_v35
          have cS_v38 : v38.heap[ES]? = some (.cells #[.string ⟨#[]⟩, .string ⟨#[]⟩, .int .i64 0, .int .i64 0, .int .i64 0, .slice none 0 0] 26) := (hb_v38.block (ES) (Array.getElem?_eq_some_iff.1 (show v35.heap[ES]? = some (.cells #[.string ⟨#[]⟩, .string ⟨#[]⟩, .int .i64 0, .int .i64 0, .int .i64 0, .slice none 0 0] 26) from cS_v35)).1).trans cS_v35
          have cU_v38 : v38.heap[EU]? = some (.cells #[.string ⟨#[]⟩, .string ⟨#[]⟩, .int .i64 0, .int .i64 0, .int .i64 0, .slice none 0 0] 26) := (hb_v38.block (EU) (Array.getElem?_eq_some_iff.1 (show v35.heap[EU]? = some (.cells #[.string ⟨#[]⟩, .string ⟨#[]⟩, .int .i64 0, .int .i64 0, .int .i64 0, .slice none 0 0] 26) from cU_v35)).1).trans cU_v35
          have cY_v38 : v38.heap[EY]? = some (.cells #[.string ⟨#[]⟩, .string ⟨#[]⟩, .int .i64 0, .int .i64 0, .int .i64 0, .slice none 0 0] 26) := (hb_v38.block (EY) (Array.getElem?_eq_some_iff.1 (show v35.heap[EY]? = some (.cells #[.string ⟨#[]⟩, .string ⟨#[]⟩, .int .i64 0, .int .i64 0, .int .i64 0, .slice none 0 0] 26) from cY_v35)).1).trans cY_v35
          have cW_v38 : v38.heap[EW]? = some (.cells #[.string ⟨#[]⟩, .string ⟨#[]⟩, .int .i64 0, .int .i64 0, .int .i64 0, .slice none 0 0] 26) := (hb_v38.block (EW) (Array.getElem?_eq_some_iff.1 (show v35.heap[EW]? = some (.cells #[.string ⟨#[]⟩, .string ⟨#[]⟩, .int .i64 0, .int .i64 0, .int .i64 0, .slice none 0 0] 26) from cW_v35)).1).trans cW_v35
          have cQ_v38 : v38.heap[EQ]? = some (.cells #[.string ⟨#[]⟩, .string ⟨#[]⟩, .int .i64 0, .int .i64 0, .int .i64 0, .slice none 0 0] 26) := (hb_v38.block (EQ) (Array.getElem?_eq_some_iff.1 (show v35.heap[EQ]? = some (.cells #[.string ⟨#[]⟩, .string ⟨#[]⟩, .int .i64 0, .int .i64 0, .int .i64 0, .slice none 0 0] 26) from cQ_v35)).1).trans cQ_v35
          have cZ_v38 : v38.heap[EQ + 1]? = some (.cells #[.string ⟨#[]⟩, .string ⟨#[]⟩, .int .i64 0, .int .i64 0, .int .i64 0, .slice none 0 0] 26) := (hb_v38.block (EQ + 1) (Array.getElem?_eq_some_iff.1 (show v35.heap[EQ + 1]? = some (.cells #[.string ⟨#[]⟩, .string ⟨#[]⟩, .int .i64 0, .int .i64 0, .int .i64 0, .slice none 0 0] 26) from cZ_v35)).1).trans cZ_v35
          have hw_v38 : Below D w v38 := (hw_v35).trans (hb_v38.mono (by first | omega | (simp; omega)))
          clear cR_v35 cS_v35 cU_v35 cY_v35 cW_v35 cQ_v35 cZ_v35 hb_v38 y36_0 y36_1 y36_2 y36_3 y36_4 y36_5 y37_0 y37_1 y37_2 y37_3 y37_4 y37_5 hw_v35 hs_v38
          have ld39 : v38.heap[EQ]? = some (.cells #[.string ⟨#[]⟩, .string ⟨#[]⟩, .int .i64 0, .int .i64 0, .int .i64 0, .slice none 0 0] 26) := cQ_v38
          have y39_0 := cell6_0 ld39
          have y39_1 := cell6_1 ld39
          have y39_2 := cell6_2 ld39
          have y39_3 := cell6_3 ld39
          have y39_4 := cell6_4 ld39
          have y39_5 := cell6_5 ld39
          clear ld39
          have ld40 : v38.heap[EQ + 1]? = some (.cells #[.string ⟨#[]⟩, .string ⟨#[]⟩, .int .i64 0, .int .i64 0, .int .i64 0, .slice none 0 0] 26) := cZ_v38
          have y40_0 := cell6_0 ld40
          have y40_1 := cell6_1 ld40
          have y40_2 := cell6_2 ld40
          have y40_3 := cell6_3 ld40
          have y40_4 := cell6_4 ld40
          have y40_5 := cell6_5 ld40
          clear ld40
          have Z29 := wd_nil (v38) X
          go_wp2_with fail
          refine (SZ.out _ _ _ Z29 Z29).mono ?_
          rintro e v41 ⟨rfl, hb_v41⟩
          have hs_v41 := hw_v38.size
          have cR_v41 : v41.heap[D]? = some (.cells #[.string nm, .string tn, .int .i64 a, .int .i64 b, .int .i64 f, .slice sa n cp] 26) := (hb_v41.block (D) (Array.getElem?_eq_some_iff.1 (show v38.heap[D]? = some (.cells #[.string nm, .string tn, .int .i64 a, .int .i64 b, .int .i64 f, .slice sa n cp] 26) from cR_v38)).1).trans cR_v38
          have cS_v41 : v41.heap[ES]? = some (.cells #[.string ⟨#[]⟩, .string ⟨#[]⟩, .int .i64 0, .int .i64 0, .int .i64 0, .slice none 0 0] 26) := (hb_v41.block (ES) (Array.getElem?_eq_some_iff.1 (show v38.heap[ES]? = some (.cells #[.string ⟨#[]⟩, .string ⟨#[]⟩, .int .i64 0, .int .i64 0, .int .i64 0, .slice none 0 0] 26) from cS_v38)).1).trans cS_v38
          have cU_v41 : v41.heap[EU]? = some (.cells #[.string ⟨#[]⟩, .string ⟨#[]⟩, .int .i64 0, .int .i64 0, .int .i64 0, .slice none 0 0] 26) := (hb_v41.block (EU) (Array.getElem?_eq_some_iff.1 (show v38.heap[EU]? = some (.cells #[.string ⟨#[]⟩, .string ⟨#[]⟩, .int .i64 0, .int .i64 0, .int .i64 0, .slice none 0 0] 26) from cU_v38)).1).trans cU_v38
          have cY_v41 : v41.heap[EY]? = some (.cells #[.string ⟨#[]⟩, .string ⟨#[]⟩, .int .i64 0, .int .i64 0, .int .i64 0, .slice none 0 0] 26) := (hb_v41.block (EY) (Array.getElem?_eq_some_iff.1 (show v38.heap[EY]? = some (.cells #[.string ⟨#[]⟩, .string ⟨#[]⟩, .int .i64 0, .int .i64 0, .int .i64 0, .slice none 0 0] 26) from cY_v38)).1).trans cY_v38
          have cW_v41 : v41.heap[EW]? = some (.cells #[.string ⟨#[]⟩, .string ⟨#[]⟩, .int .i64 0, .int .i64 0, .int .i64 0, .slice none 0 0] 26) := (hb_v41.block (EW) (Array.getElem?_eq_some_iff.1 (show v38.heap[EW]? = some (.cells #[.string ⟨#[]⟩, .string ⟨#[]⟩, .int .i64 0, .int .i64 0, .int .i64 0, .slice none 0 0] 26) from cW_v38)).1).trans cW_v38
          have cQ_v41 : v41.heap[EQ]? = some (.cells #[.string ⟨#[]⟩, .string ⟨#[]⟩, .int .i64 0, .int .i64 0, .int .i64 0, .slice none 0 0] 26) := (hb_v41.block (EQ) (Array.getElem?_eq_some_iff.1 (show v38.heap[EQ]? = some (.cells #[.string ⟨#[]⟩, .string ⟨#[]⟩, .int .i64 0, .int .i64 0, .int .i64 0, .slice none 0 0] 26) from cQ_v38)).1).trans cQ_v38
          have cZ_v41 : v41.heap[EQ + 1]? = some (.cells #[.string ⟨#[]⟩, .string ⟨#[]⟩, .int .i64 0, .int .i64 0, .int .i64 0, .slice none 0 0] 26) := (hb_v41.block (EQ + 1) (Array.getElem?_eq_some_iff.1 (show v38.heap[EQ + 1]? = some (.cells #[.string ⟨#[]⟩, .string ⟨#[]⟩, .int .i64 0, .int .i64 0, .int .i64 0, .slice none 0 0] 26) from cZ_v38)).1).trans cZ_v38
          have hw_v41 : Below D w v41 := (hw_v38).trans (hb_v41.mono (by first | omega | (simp; omega)))
          clear cR_v38 cS_v38 cU_v38 cY_v38 cW_v38 cQ_v38 cZ_v38 hb_v41 y39_0 y39_1 y39_2 y39_3 y39_4 y39_5 y40_0 y40_1 y40_2 y40_3 y40_4 y40_5 hw_v38 hs_v41
          have HW := Lib.hid (hw_v41)
          go_wp2
          go_ret
          exact ⟨rfl, by first | exact HW.out | (rw [hD]; exact HW.out)⟩
theorem checks_walk (nm tn : ByteArray) (a b f : Int) (va : Value) (n : Nat) (X : Nat → Int) (w : World) (h1 : Wd w va n X) (G : Gi w) :
    Calls Tryz.prog 3 #[.agg #[.string nm, .string tn, .int .i64 a, .int .i64 b, .int .i64 f, va]] w fun e w' => e = .returned (.bool true) ∧ Below w.heap.size w w' := by
  obtain ⟨sa, cp, rfl⟩ := h1.len
  cases hfew : fewB nm tn n with
  | false => exact checks_many nm tn a b f sa n cp X hfew w h1 G
  | true =>
    by_cases hz : rkE nm tn a b f n X = 0
    · exact checks_right nm tn a b f sa n cp X hfew _ rfl hz w h1 G
    · exact checks_wrong nm tn a b f sa n cp X hfew _ rfl hz w h1 G
end Go.Proofs.YtbkbncapgljfaaaGreatDoor
