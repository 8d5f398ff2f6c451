/- The law's known. -/
import Derived.Test.YtbkbncapgljfaaaGreatDoorRkN
import Derived.BigQuiet
import Derived.Laws.StructEq
namespace Go.Proofs.YtbkbncapgljfaaaGreatDoor
open Go Go.RowKit Go.Shelf

theorem rk_row (f : Int) (h : f = 8 ∨ f = 4) : rkE ⟨#[82, 111, 119]⟩ ⟨#[79, 112, 101, 110]⟩ f 1 36 61 (fun _ => 1) = 0 := by
  rcases h with rfl | rfl
  · exact rk_of (by decide +kernel) (by decide +kernel) (by decide +kernel) (by omega) (by omega) (by omega) (fun _ _ => by omega)
  · exact rk_of (by decide +kernel) (by decide +kernel) (by decide +kernel) (by omega) (by omega) (by omega) (fun _ _ => by omega)
theorem sh_84 : ShI (8 * 1) (1 * 4) 12 := Pt.sh_lit 8 4 0 1 0 (by decide +kernel) (by decide +kernel) (by decide +kernel) (by decide +kernel) (by decide +kernel) (by decide +kernel)
theorem sh_816 : ShI (8 * 1) (1 * 16) (-12) := Pt.sh_lit 8 16 1 0 0 (by decide +kernel) (by decide +kernel) (by decide +kernel) (by decide +kernel) (by decide +kernel) (by decide +kernel)
/-- The winds of the rank with pipes below. -/
def xB (k : Nat) : Int := if k < 12 then 0 else 1
theorem rk_b : rkE ⟨#[82, 111, 119]⟩ ⟨#[79, 112, 101, 110]⟩ 8 1 24 73 xB = 0 :=
  rk_of (by decide +kernel) (by decide +kernel) (by decide +kernel) (by omega) (by omega) (by omega) (fun k _ => by unfold xB; split <;> omega)
theorem below_known (sa : Option Addr) (cp : Nat) (sb : Option Addr) (cq : Nat) (W : World) (hW1 : Wd W (.slice sa 61 cp) 61 (fun _ => 1)) (hW2 : Wd W (.slice sb 12 cq) 12 (fun _ => 0)) :
    Calls Tryz.prog 25 #[.agg #[.string ⟨#[82, 111, 119]⟩, .string ⟨#[79, 112, 101, 110]⟩, .int .i64 8, .int .i64 1, .int .i64 36, .slice sa 61 cp], .slice sb 12 cq] W fun e w' => (∃ sr mr cr, e = .returned (.tuple #[.agg #[.string ⟨#[82, 111, 119]⟩, .string ⟨#[79, 112, 101, 110]⟩, .int .i64 8, .int .i64 1, .int .i64 24, .slice sr mr cr], .int .i64 0]) ∧ w'.ownsRow 0 3 1 (.slice sr mr cr) 73 (rowL (fun _ => 0) 12 ++ rowL (fun _ => 1) 61)) ∧ Below W.heap.size W w' := by
  refine (below_ok ⟨#[82, 111, 119]⟩ ⟨#[79, 112, 101, 110]⟩ 8 1 36 sa 61 cp (fun _ => 1) sb 12 cq (fun _ => 0) (by decide) (by decide) (by omega) (by omega) ?_ (by omega) (by omega) W hW1 hW2).mono ?_
  · rw [rk_row 8 (.inl rfl), show wdE (fun _ => 0) 12 = 0 from if_pos (fun _ _ => ⟨by show (0 : Int) ≤ 0; decide, by show (0 : Int) ≤ 1000000; decide⟩)]; rfl
  · rintro e w' ⟨⟨sr, mr, cr, rfl, h⟩, hb⟩
    exact ⟨⟨sr, mr, cr, rfl, owns_base h (Nat.zero_le _)⟩, hb⟩
theorem repitch_known (sa : Option Addr) (cp : Nat) (W : World) (hW1 : Wd W (.slice sa 73 cp) 73 xB) (G : Gi W) :
    Calls Tryz.prog 29 #[.agg #[.string ⟨#[82, 111, 119]⟩, .string ⟨#[79, 112, 101, 110]⟩, .int .i64 8, .int .i64 1, .int .i64 24, .slice sa 73 cp], .agg #[.int .i64 16, .int .i64 1]] W fun e w' => (∃ sr mr cr, e = .returned (.tuple #[.agg #[.string ⟨#[82, 111, 119]⟩, .string ⟨#[79, 112, 101, 110]⟩, .int .i64 16, .int .i64 1, .int .i64 36, .slice sr mr cr], .int .i64 0])) ∧ Below W.heap.size W w' := by
  refine (repitch_ok ⟨#[82, 111, 119]⟩ ⟨#[79, 112, 101, 110]⟩ 8 1 24 sa 73 cp xB 16 1 (by decide) (by decide) (by omega) (-12) rk_b (by decide +kernel) sh_816 (by omega) W hW1 G).mono ?_
  rintro e w' ⟨⟨sr, mr, cr, rfl, h⟩, hb⟩
  exact ⟨⟨sr, mr, cr, rfl⟩, hb⟩

theorem kn_mk (w : World) : (Instr.makeSlice 24 (.int .i64 12) (.int .i64 12)).run Tryz.prog w = .ok (.slice (some ⟨w.heap.size, 0, none⟩) 12 12) (w.alloc (.cells (Array.replicate 12 (.int .i64 0)) 3)) := by kernel_rfl
theorem wd_made (w : World) : Wd (w.alloc (.cells (Array.replicate 12 (.int .i64 0)) 3)) (.slice (some ⟨w.heap.size, 0, none⟩) 12 12) 12 (fun _ => 0) := by
  have h : (w.alloc (.cells (Array.replicate 12 (.int .i64 0)) 3)).heap[w.heap.size]? = some (.cells (Array.replicate 12 (.int .i64 0)) 3) := heap_new rfl
  refine .inr ⟨w.heap.size, 0, 12, rfl, Nat.le_refl _, (Array.getElem?_eq_some_iff.1 h).1, fun k hk => ?_⟩
  simp only [World.cell?, h, Nat.zero_add]
  simp [hk]
def RA8 (ra : Option Addr) (rc : Nat) : Value := .agg #[.string ⟨#[82, 111, 119]⟩, .string ⟨#[79, 112, 101, 110]⟩, .int .i64 8, .int .i64 1, .int .i64 36, .slice ra 61 rc]
def RB (sr : Option Addr) (mr cr : Nat) : Value := .agg #[.string ⟨#[82, 111, 119]⟩, .string ⟨#[79, 112, 101, 110]⟩, .int .i64 8, .int .i64 1, .int .i64 24, .slice sr mr cr]
def OwB (W : World) (sr : Option Addr) (mr cr : Nat) : Prop := W.ownsRow 0 3 1 (.slice sr mr cr) 73 (rowL (fun _ => 0) 12 ++ rowL (fun _ => 1) 61)
theorem own_b {W : World} {sr : Option Addr} {mr cr E : Nat} {c0 c1 c2 c3 c4 c5 x0 x1 x2 x3 x4 x5 : Value} (h : OwB W sr mr cr) (hp : W.heap[E]? = some (.cells #[c0, c1, c2, c3, c4, c5] 26)) : Wd ((((((W.setCell ⟨E, 0, none⟩ x0).setCell ⟨E, 1, none⟩ x1).setCell ⟨E, 2, none⟩ x2).setCell ⟨E, 3, none⟩ x3).setCell ⟨E, 4, none⟩ x4).setCell ⟨E, 5, none⟩ x5) (.slice sr mr cr) 73 xB := by
  refine wd_of (base := 0) (xs := rowL (fun _ => 0) 12 ++ rowL (fun _ => 1) 61) ⟨h.1, ?_⟩ ?_
  · rcases h.2 with h0 | ⟨g, cap, cur, h1, h2, h3, h4⟩
    · exact .inl h0
    · exact .inr ⟨g, cap, cur, h1, h2, (other6 (fun e => by rw [e, hp] at h3; cases h3)).trans h3, h4⟩
  · intro k hk
    rw [rowL_two (fun _ => 1) (fun _ => 0) 12 61 k (by omega)]; rfl
def knI (ra : Option Addr) (rc E0 : Nat) : Nat → Value → World → Prop
  | 0, v, _ => v = RA8 ra rc
  | 1, v, W => ∃ g, v = .slice (some ⟨g, 0, none⟩) 12 12 ∧ Wd W v 12 (fun _ => 0)
  | 2, v, W => ∃ sr mr cr, v = .tuple #[RB sr mr cr, .int .i64 0] ∧ OwB W sr mr cr
  | 3, v, W => ∃ sr mr cr, v = .tuple #[RB sr mr cr, .int .i64 0] ∧ OwB W sr mr cr
  | 4, v, W => ∃ sr mr cr, v = RB sr mr cr ∧ OwB W sr mr cr
  | 5, v, _ => v = .int .i64 0
  | 6, v, W => ∃ E, v = .pointer (some ⟨E, 0, none⟩) ∧ E0 ≤ E ∧ W.heap[E]? = some (.cells #[.string ⟨#[]⟩, .string ⟨#[]⟩, .int .i64 0, .int .i64 0, .int .i64 0, .slice none 0 0] 26)
  | 8, v, _ => v = .int .i64 0
  | _, _, _ => True
def knJ : Nat → Value → Prop
  | 3, v => ∃ sr mr cr, v = .tuple #[RB sr mr cr, .int .i64 0]
  | 5, v => v = .int .i64 0
  | 6, v => ∃ E, v = .pointer (some ⟨E, 0, none⟩)
  | 8, v => v = .int .i64 0
  | _, _ => True
def knF (V : World) (q : Value) (W : World) : Prop := ∃ E sr mr cr, q = .pointer (some ⟨E, 0, none⟩) ∧ V.heap.size ≤ E ∧ W.heap[E]? = some (.cells #[.string ⟨#[82, 111, 119]⟩, .string ⟨#[79, 112, 101, 110]⟩, .int .i64 8, .int .i64 1, .int .i64 24, .slice sr mr cr] 26) ∧ Wd W (.slice sr mr cr) 73 xB ∧ Below V.heap.size V W
theorem knI_up (ra : Option Addr) (rc E0 : Nat) : ∀ (j : Nat) (v : Value) (A B : World), Below A.heap.size A B → knI ra rc E0 j v A → knI ra rc E0 j v B
  | 0, _, _, _, _, h => h
  | 1, _, _, _, hb, ⟨g, h1, h2⟩ => ⟨g, h1, h2.below hb⟩
  | 2, _, _, _, hb, ⟨a, b, c, h1, h2⟩ => ⟨a, b, c, h1, owns_below h2 hb⟩
  | 3, _, _, _, hb, ⟨a, b, c, h1, h2⟩ => ⟨a, b, c, h1, owns_below h2 hb⟩
  | 4, _, _, _, hb, ⟨a, b, c, h1, h2⟩ => ⟨a, b, c, h1, owns_below h2 hb⟩
  | 5, _, _, _, _, h => h
  | 6, _, _, _, hb, ⟨E, h1, h2, h3⟩ => ⟨E, h1, h2, (hb.block E (Array.getElem?_eq_some_iff.1 h3).1).trans h3⟩
  | 7, _, _, _, _, h => h
  | 8, _, _, _, _, h => h
  | _ + 9, _, _, _, _, _ => trivial
theorem kn_J (ra : Option Addr) (rc E0 : Nat) : ∀ (j : Nat) (v : Value) (A : World), knI ra rc E0 j v A → knJ j v
  | 0, _, _, _ => trivial
  | 1, _, _, _ => trivial
  | 2, _, _, _ => trivial
  | 3, _, _, ⟨a, b, c, h1, _⟩ => ⟨a, b, c, h1⟩
  | 4, _, _, _ => trivial
  | 5, _, _, h => h
  | 6, _, _, ⟨E, h1, _⟩ => ⟨E, h1⟩
  | 7, _, _, _ => trivial
  | 8, _, _, h => h
  | _ + 9, _, _, _ => trivial


set_option maxRecDepth 100000 in
set_option maxHeartbeats 4000000 in
theorem known_c (w : World) (G : Gi w) :
    Calls Tryz.prog 11 #[] w fun e w' => e = .returned (.bool true) ∧ Below w.heap.size w w' := by
  have R8 := Lib.hid (fun W => row_c 8 36 61 (by omega) W)
  have R4 := Lib.hid (fun W => row_c 4 36 61 (by omega) W)
  have NU := Lib.hid (fun sa cp W h => number_yes ⟨#[82, 111, 119]⟩ ⟨#[79, 112, 101, 110]⟩ 8 1 36 (.slice sa 61 cp) 61 (fun _ => 1) 48 (by decide) (by decide) (by omega) (rk_row 8 (.inl rfl)) (by omega) W h)
  have SO := Lib.hid (fun sa cp W h G => sound_yes ⟨#[82, 111, 119]⟩ ⟨#[79, 112, 101, 110]⟩ 4 1 36 (.slice sa 61 cp) 61 (fun _ => 1) 12 12 (by decide) (by decide) (by omega) (rk_row 4 (.inr rfl)) (by omega) sh_84 (by omega) W h G)
  obtain ⟨D, hD⟩ : ∃ D, w.heap.size = D := ⟨_, rfl⟩
  go_enter Tryz.func11, Tryz.ntmps11
  go_wp2_with fail
  refine (R8.out _).mono ?_
  rintro e v1 ⟨⟨v0, rfl, hwd⟩, hb_v1⟩
  have hw_v1 : Below D w v1 := ((Below.refl _ w)).trans (hb_v1.mono (by first | omega | (simp; omega)))
  clear hb_v1
  obtain ⟨ra, rc, rfl⟩ := hwd.len
  have hR := Lib.hid hwd
  clear hwd
  obtain ⟨ER, hER⟩ : ∃ E, v1.heap.size = E := ⟨_, rfl⟩
  have ld2 : (v1.alloc (.cells #[.string ⟨#[82, 111, 119]⟩, .string ⟨#[79, 112, 101, 110]⟩, .int .i64 8, .int .i64 1, .int .i64 36, .slice ra 61 rc] 26)).heap[ER]? = some (.cells #[.string ⟨#[82, 111, 119]⟩, .string ⟨#[79, 112, 101, 110]⟩, .int .i64 8, .int .i64 1, .int .i64 36, .slice ra 61 rc] 26) := (heap_new (by first | omega | (simp; omega)))
  have y2_0 := cell6_0 ld2
  have y2_1 := cell6_1 ld2
  have y2_2 := cell6_2 ld2
  have y2_3 := cell6_3 ld2
  have y2_4 := cell6_4 ld2
  have y2_5 := cell6_5 ld2
  clear ld2
  have W1 : Wd (v1.alloc (.cells #[.string ⟨#[82, 111, 119]⟩, .string ⟨#[79, 112, 101, 110]⟩, .int .i64 8, .int .i64 1, .int .i64 36, .slice ra 61 rc] 26)) (.slice ra 61 rc) 61 (fun _ => 1) := hR.out.below ((Below.refl _ v1).alloc (by simp) _)
  go_wp2_with fail
  refine (NU.out ra rc _ W1).mono ?_
  rintro e v3 ⟨rfl, hb_v3⟩
  have hs_v3 := hw_v1.size
  have cR_v3 : v3.heap[ER]? = some (.cells #[.string ⟨#[82, 111, 119]⟩, .string ⟨#[79, 112, 101, 110]⟩, .int .i64 8, .int .i64 1, .int .i64 36, .slice ra 61 rc] 26) := (hb_v3.block (ER) (Array.getElem?_eq_some_iff.1 (show (v1.alloc (.cells #[.string ⟨#[82, 111, 119]⟩, .string ⟨#[79, 112, 101, 110]⟩, .int .i64 8, .int .i64 1, .int .i64 36, .slice ra 61 rc] 26)).heap[ER]? = some (.cells #[.string ⟨#[82, 111, 119]⟩, .string ⟨#[79, 112, 101, 110]⟩, .int .i64 8, .int .i64 1, .int .i64 36, .slice ra 61 rc] 26) from (heap_new (by first | omega | (simp; omega))))).1).trans (heap_new (by first | omega | (simp; omega)))
  have hw_v3 : Below D w v3 := ((hw_v1.alloc (by have := hw_v1.size; first | omega | (simp; omega)) (.cells #[.string ⟨#[82, 111, 119]⟩, .string ⟨#[79, 112, 101, 110]⟩, .int .i64 8, .int .i64 1, .int .i64 36, .slice ra 61 rc] 26))).trans (hb_v3.mono (by first | omega | (simp; omega)))
  have hR2 := Lib.hid (W1.below hb_v3)
  clear W1 hR
  clear hb_v3 y2_0 y2_1 y2_2 y2_3 y2_4 y2_5 hw_v1 hs_v3
  have W2 : Wd v3 (.slice ra 61 rc) 61 (fun _ => 1) := hR2.out.below (Below.refl _ v3)
  go_wp2_with fail
  refine (R4.out _).mono ?_
  rintro e v4 ⟨⟨v0, rfl, hwd⟩, hb_v4⟩
  have hs_v4 := hw_v3.size
  have cR_v4 : v4.heap[ER]? = some (.cells #[.string ⟨#[82, 111, 119]⟩, .string ⟨#[79, 112, 101, 110]⟩, .int .i64 8, .int .i64 1, .int .i64 36, .slice ra 61 rc] 26) := (hb_v4.block (ER) (Array.getElem?_eq_some_iff.1 (show v3.heap[ER]? = some (.cells #[.string ⟨#[82, 111, 119]⟩, .string ⟨#[79, 112, 101, 110]⟩, .int .i64 8, .int .i64 1, .int .i64 36, .slice ra 61 rc] 26) from cR_v3)).1).trans cR_v3
  have hw_v4 : Below D w v4 := (hw_v3).trans (hb_v4.mono (by first | omega | (simp; omega)))
  have hR3 := Lib.hid (W2.below hb_v4)
  clear W2 hR2
  clear cR_v3 hb_v4 hw_v3 hs_v4
  obtain ⟨rb, rd, rfl⟩ := hwd.len
  have hQ := Lib.hid hwd
  clear hwd
  have W3 : Wd v4 (.slice rb 61 rd) 61 (fun _ => 1) := hQ.out.below (Below.refl _ v4)
  have W4 : Wd v4 (.slice ra 61 rc) 61 (fun _ => 1) := hR3.out.below (Below.refl _ v4)
  have G1 : Gi v4 := G.below (by first | exact hw_v4 | (rw [hD]; exact hw_v4))
  go_wp2_with fail
  refine (SO.out rb rd _ W3 G1).mono ?_
  rintro e v5 ⟨rfl, hb_v5⟩
  have hs_v5 := hw_v4.size
  have cR_v5 : v5.heap[ER]? = some (.cells #[.string ⟨#[82, 111, 119]⟩, .string ⟨#[79, 112, 101, 110]⟩, .int .i64 8, .int .i64 1, .int .i64 36, .slice ra 61 rc] 26) := (hb_v5.block (ER) (Array.getElem?_eq_some_iff.1 (show v4.heap[ER]? = some (.cells #[.string ⟨#[82, 111, 119]⟩, .string ⟨#[79, 112, 101, 110]⟩, .int .i64 8, .int .i64 1, .int .i64 36, .slice ra 61 rc] 26) from cR_v4)).1).trans cR_v4
  have hw_v5 : Below D w v5 := (hw_v4).trans (hb_v5.mono (by first | omega | (simp; omega)))
  have hR4 := Lib.hid (W4.below hb_v5)
  clear W3 W4 hR3 hQ
  clear cR_v4 hb_v5 hw_v4 hs_v5
  clear R8 R4 NU SO
  have HV := Lib.hid cR_v5
  have HB := Lib.hid hw_v5
  have hER := (Array.getElem?_eq_some_iff.1 HV.out).1
  clear cR_v5 hw_v5
  go_upto_region 4 with fail
  refine wp_region_slots_at rfl rfl (fun base ys => (((((((base.set 26 (ys 0)).set 27 (ys 1)).set 28 (ys 2)).set 25 (ys 3)).set 29 (ys 4)).set 30 (ys 5)).set 8 (ys 6)).set 9 (ys 8)) (StI _ 7 6 (Below v5.heap.size v5) (knI ra rc v5.heap.size) knJ (knF v5)) (fun _ => undef) (by kernel_rfl) (st_start (by decide) ((Below.refl _ _).trans ⟨rfl, rfl, rfl, Nat.le_refl _, fun _ _ => rfl⟩)) ?h
  case h =>
    intro FF hFF
    simp only [List.set_cons_succ, List.set_cons_zero] at hFF
    subst hFF
    refine ⟨rfl, ?_, ?_⟩
    refine ⟨?_, ?_⟩
    · refine SlotStep.stB rfl (by decide) (fun L hc h => clo_at hc 7 0 rfl (by kernel_rfl) h) (fun A B hb h => h.trans (hb.mono h.size)) (knI_up ra rc v5.heap.size) ?_
      intro ys W hR hd K hK
      have hl := (hR.block ER hER).trans HV.out
      obtain ⟨c0, c1, c2, c3, c4, c5⟩ := cell6_at hl
      clear hl
      go_simp
      have hK2 := hK (RA8 ra rc) _ (Below.refl _ _) rfl
      simp (config := { decide := true }) only [upd, if_true, if_false, RA8] at hK2
      exact hK2
    refine ⟨?_, ?_⟩
    · refine SlotStep.stB rfl (by decide) (fun L hc h => clo_at hc 7 1 rfl (by kernel_rfl) h) (fun A B hb h => h.trans (hb.mono h.size)) (knI_up ra rc v5.heap.size) ?_
      intro ys W hR hd K hK
      have hmk := kn_mk W
      go_simp
      have hK2 := hK (.slice (some ⟨W.heap.size, 0, none⟩) 12 12) _ ((Below.refl _ W).alloc (Nat.le_refl _) (.cells (Array.replicate 12 (.int .i64 0)) 3)) ⟨_, rfl, wd_made W⟩
      simp (config := { decide := true }) only [upd, if_true, if_false] at hK2
      exact hK2
    refine ⟨?_, ?_⟩
    · refine SlotStep.stB rfl (by decide) (fun L hc h => clo_at hc 7 2 rfl (by kernel_rfl) h) (fun A B hb h => h.trans (hb.mono h.size)) (knI_up ra rc v5.heap.size) ?_
      intro ys W hR hd K hK
      have dd0 : ys 0 = RA8 ra rc := hd 0 (by kernel_rfl) (by decide)
      obtain ⟨g, dd1, hwd⟩ : ∃ g, ys 1 = .slice (some ⟨g, 0, none⟩) 12 12 ∧ Wd W (ys 1) 12 (fun _ => 0) := hd 1 (by kernel_rfl) (by decide)
      rw [dd1] at hwd
      have HWD := Lib.hid hwd
      clear hwd
      simp only [RA8] at dd0
      go_simp
      refine (below_known ra rc _ _ W (hR4.out.below hR) HWD.out).mono ?_
      rintro e w5 ⟨⟨sr, mr, cr, rfl, hrow⟩, hb5⟩
      have hK2 := hK (.tuple #[RB sr mr cr, .int .i64 0]) _ hb5 ⟨sr, mr, cr, rfl, hrow⟩
      simp (config := { decide := true }) only [upd, if_true, if_false, dd0, dd1, RB] at hK2
      exact hK2
    refine ⟨?_, ?_⟩
    · refine SlotStep.stB rfl (by decide) (fun L hc h => clo_at hc 7 3 rfl (by kernel_rfl) h) (fun A B hb h => h.trans (hb.mono h.size)) (knI_up ra rc v5.heap.size) ?_
      intro ys W hR hd K hK
      obtain ⟨sr, mr, cr, dd2, hrow⟩ : ∃ sr mr cr, ys 2 = .tuple #[RB sr mr cr, .int .i64 0] ∧ OwB W sr mr cr := hd 2 (by kernel_rfl) (by decide)
      have HO := Lib.hid hrow
      clear hrow
      simp only [RB] at dd2
      go_simp
      have hK2 := hK (.tuple #[RB sr mr cr, .int .i64 0]) _ (Below.refl _ _) ⟨sr, mr, cr, rfl, HO.out⟩
      simp (config := { decide := true }) only [upd, if_true, if_false, dd2, RB] at hK2
      exact hK2
    refine ⟨?_, ?_⟩
    · refine SlotStep.stB rfl (by decide) (fun L hc h => clo_at hc 7 4 rfl (by kernel_rfl) h) (fun A B hb h => h.trans (hb.mono h.size)) (knI_up ra rc v5.heap.size) ?_
      intro ys W hR hd K hK
      obtain ⟨sr, mr, cr, dd3, hrow⟩ : ∃ sr mr cr, ys 3 = .tuple #[RB sr mr cr, .int .i64 0] ∧ OwB W sr mr cr := hd 3 (by kernel_rfl) (by decide)
      have HO := Lib.hid hrow
      clear hrow
      simp only [RB] at dd3
      go_simp
      have hK2 := hK (RB sr mr cr) _ (Below.refl _ _) ⟨sr, mr, cr, rfl, HO.out⟩
      simp (config := { decide := true }) only [upd, if_true, if_false, dd3, RB] at hK2
      exact hK2
    refine ⟨?_, ?_⟩
    · refine SlotStep.stP rfl (by decide) (by decide) (kn_J ra rc v5.heap.size) ?_
      intro ys W hd K hK
      obtain ⟨sr, mr, cr, dd3⟩ : ∃ sr mr cr, ys 3 = .tuple #[RB sr mr cr, .int .i64 0] := hd 3 (by kernel_rfl) (by decide)
      simp only [RB] at dd3
      go_simp
      have hK2 := hK (.int .i64 0) rfl (fun _ => rfl)
      simp (config := { decide := true }) only [upd, if_true, if_false, dd3] at hK2
      exact hK2
    refine ⟨?_, ?_⟩
    · refine SlotStep.stB rfl (by decide) (fun L hc h => clo_at hc 7 6 rfl (by kernel_rfl) h) (fun A B hb h => h.trans (hb.mono h.size)) (knI_up ra rc v5.heap.size) ?_
      intro ys W hR hd K hK
      go_simp
      have hK2 := hK (.pointer (some ⟨W.heap.size, 0, none⟩)) _ ((Below.refl _ W).alloc (Nat.le_refl _) (.cells #[.string ⟨#[]⟩, .string ⟨#[]⟩, .int .i64 0, .int .i64 0, .int .i64 0, .slice none 0 0] 26)) ⟨_, rfl, hR.size, heap_new rfl⟩
      simp (config := { decide := true }) only [upd, if_true, if_false] at hK2
      exact hK2
    refine ⟨?_, ?_⟩
    · refine SlotStep.stS rfl rfl (by decide) (kn_J ra rc v5.heap.size) (fun _ => trivial) ?_
      intro ys W hR hd K hK
      obtain ⟨sr, mr, cr, dd4, hrow⟩ : ∃ sr mr cr, ys 4 = RB sr mr cr ∧ OwB W sr mr cr := hd 4 (by kernel_rfl) (by decide)
      obtain ⟨E, dd6, hE, hp⟩ : ∃ E, ys 6 = .pointer (some ⟨E, 0, none⟩) ∧ v5.heap.size ≤ E ∧ W.heap[E]? = some (.cells #[.string ⟨#[]⟩, .string ⟨#[]⟩, .int .i64 0, .int .i64 0, .int .i64 0, .slice none 0 0] 26) := hd 6 (by kernel_rfl) (by decide)
      obtain ⟨c0, c1, c2, c3, c4, c5⟩ := cell6_at hp
      obtain ⟨f0, f1, f2, f3, f4, f5⟩ := free6_at hp
      have HO := Lib.hid hrow
      have HP := Lib.hid hp
      clear hrow hp
      simp only [RB] at dd4
      go_simp
      have hK2 := hK undef _ ⟨E, sr, mr, cr, dd6, hE, set6_all HP.out, own_b HO.out HP.out, below6 hR hE _ _ _ _ _ _⟩
      simp (config := { decide := true }) only [upd, if_true, if_false, dd4, dd6] at hK2
      exact hK2
    refine ⟨?_, ?_⟩
    · refine SlotStep.stP rfl (by decide) (by decide) (kn_J ra rc v5.heap.size) ?_
      intro ys W hd K hK
      have dd5 : ys 5 = .int .i64 0 := hd 5 (by kernel_rfl) (by decide)
      go_simp
      have hK2 := hK (.int .i64 0) rfl (fun _ => rfl)
      simp (config := { decide := true }) only [upd, if_true, if_false, dd5] at hK2
      exact hK2
    trivial
    · intro L5 ys5 U hL5 hI5
      obtain ⟨⟨EB, sr, mr, cr, d6, hE, hp, hwd, hb⟩, hj⟩ := st_end (by decide) hL5 hI5
      have d8 : ys5 8 = .int .i64 0 := hj 8 (by decide)
      simp only [d6, d8]
      generalize ys5 0 = y0 at *
      generalize ys5 1 = y1 at *
      generalize ys5 2 = y2 at *
      generalize ys5 3 = y3 at *
      generalize ys5 4 = y4 at *
      generalize ys5 5 = y5 at *
      clear hj hL5 hI5 d6 d8
      have cRU := (hb.block ER hER).trans HV.out
      have hwU : Below D w U := HB.out.trans (hb.mono (by have := HB.out.size; first | omega | (rw [hD] at this; exact this)))
      obtain rfl : mr = 73 := by
        obtain ⟨a, c, h⟩ := hwd.len; cases h; rfl
      have HWD := Lib.hid hwd
      have GU := Lib.hid (G.below (hD ▸ hwU))
      have HWU := Lib.hid hwU
      obtain ⟨b0, b1, b2, b3, b4, b5⟩ := cell6_at hp
      clear hwd hwU
      have hpB := Lib.hid hp
      clear hp
      go_wp2_with fail
      refine (repitch_known sr cr U HWD.out GU.out).mono ?_
      rintro e w6 ⟨⟨sq, mq, cq, rfl⟩, hb6⟩
      have hp6 := (hb6.block EB (Array.getElem?_eq_some_iff.1 hpB.out).1).trans hpB.out
      have hp7 := heap_old (o := .cells #[.string ⟨#[82, 111, 119]⟩, .string ⟨#[79, 112, 101, 110]⟩, .int .i64 16, .int .i64 1, .int .i64 36, .slice sq mq cq] 26) hp6
      obtain ⟨e0, e1, e2, e3, e4, e5⟩ := cell6_at hp7
      have hp8 : (w6.alloc (.cells #[.string ⟨#[82, 111, 119]⟩, .string ⟨#[79, 112, 101, 110]⟩, .int .i64 16, .int .i64 1, .int .i64 36, .slice sq mq cq] 26)).heap[w6.heap.size]? = some (.cells #[.string ⟨#[82, 111, 119]⟩, .string ⟨#[79, 112, 101, 110]⟩, .int .i64 16, .int .i64 1, .int .i64 36, .slice sq mq cq] 26) := heap_new rfl
      obtain ⟨k0, k1, k2, k3, k4, k5⟩ := cell6_at hp8
      have HF0 := HWU.out.trans (hb6.mono (hD ▸ HWU.out.size))
      have HF := Lib.hid (HF0.alloc (hD ▸ HF0.size) (.cells #[.string ⟨#[82, 111, 119]⟩, .string ⟨#[79, 112, 101, 110]⟩, .int .i64 16, .int .i64 1, .int .i64 36, .slice sq mq cq] 26))
      clear hp6 hb6 hp7 hp8 HF0 b0 b1 b2 b3 b4 b5
      go_wp2
      go_ret
      exact ⟨rfl, by first | exact HF.out | (rw [hD]; exact HF.out)⟩
end Go.Proofs.YtbkbncapgljfaaaGreatDoor
/- Contracts of slices.Equal over ints, rank's Equal, the law's Same and few. -/
namespace Go.Proofs.YtbkbncapgljfaaaGreatDoor
open Go Go.RowKit Go.Shelf

/-- Equal slices of ints. -/
def eqW (n : Nat) (X : Nat → Int) (m : Nat) (Y : Nat → Int) : Bool := decide (n = m ∧ ∀ k, k < n → X k = Y k)
theorem eqW_len {n m : Nat} {X Y : Nat → Int} (h : ¬ n = m) : eqW n X m Y = false := decide_eq_false fun e => h e.1
theorem eqW_at {n m k : Nat} {X Y : Nat → Int} (hk : k < n) (h : ¬ X k = Y k) : eqW n X m Y = false := decide_eq_false fun e => h (e.2 k hk)
theorem eqW_all {n : Nat} {X Y : Nat → Int} (h : ∀ k, k < n → X k = Y k) : eqW n X n Y = true := decide_eq_true ⟨rfl, h⟩
set_option maxRecDepth 100000 in
set_option maxHeartbeats 4000000 in
theorem sleq_c (va vb : Value) (n m : Nat) (X Y : Nat → Int) (hn : n ≤ 9223372036854775807) (w : World) (h1 : Wd w va n X) (h2 : Wd w vb m Y) :
    Calls Tryz.prog 39 #[va, vb] w fun e w' => e = .returned (.bool (eqW n X m Y)) ∧ Below w.heap.size w w' := by
  obtain ⟨R, hR⟩ : ∃ R, eqW n X m Y = R := ⟨_, rfl⟩
  rw [hR]
  have HR := Lib.hid hR
  obtain ⟨sa, ca, rfl⟩ := h1.len
  obtain ⟨sb, cb, rfl⟩ := h2.len
  have HX := Lib.hid h1
  have HY := Lib.hid h2
  clear hR h1 h2
  by_cases hnm : n = m
  · subst hnm
    go_enter Tryz.func39, Tryz.ntmps39
    go_wp2_with fail
    go_loopw [13] (fun i wr => ∃ k : Nat, k ≤ n ∧ i = .int .i64 (k : Int) ∧ Below w.heap.size w wr ∧ Hid (∀ j, j < k → X j = Y j)) (fun i _ => (n - intOf i).toNat)
    case atStart => exact ⟨0, by omega, rfl, Below.refl _ _, Lib.hid (fun j hj => absurd hj (Nat.not_lt_zero _))⟩
    case round =>
      obtain ⟨k, hk, rfl, hw, hA⟩ := hrel
      by_cases hkn : k < n
      · have hki : (k : Int) < n := by omega
        obtain ⟨g, o, c, e0, hc, hg, c0⟩ := (HX.out.below hw).at hkn
        cases e0
        obtain ⟨g', o', c', e1, hc', hg', c1⟩ := (HY.out.below hw).at hkn
        cases e1
        have wk := wrap_in (q := (k : Int) + 1) (by omega) (by omega)
        by_cases he : X k = Y k
        · have HN := Lib.hid (show ∀ j, j < k + 1 → X j = Y j from fun j hj => by
            by_cases e : j = k
            · subst e; exact he
            · exact hA.out j (by omega))
          have HB := Lib.hid hw
          clear hw
          go_wp2_with fail
          go_quiet (fail)
          go_wp2_with fail
          go_roundw
          case rel => exact ⟨k + 1, by omega, rfl, HB.out.trans ((drew_below' _ _).mono HB.out.size), HN⟩
          case measure => simp [intOf]; omega
        · obtain rfl : R = false := by rw [← HR.out, eqW_at hkn he]
          have HB := Lib.hid hw
          clear hw
          go_wp2_with fail
          go_quiet (fail)
          go_wp2
          go_ret
          exact ⟨rfl, HB.out.trans ((drew_below' _ _).mono HB.out.size)⟩
      · obtain rfl : k = n := by omega
        obtain rfl : R = true := by rw [← HR.out, eqW_all hA.out]
        have hm : ¬ (k : Int) < k := by omega
        go_wp2
        go_ret
        exact ⟨rfl, hw⟩
  · obtain rfl : R = false := by rw [← HR.out, eqW_len hnm]
    have hi : ¬ (n : Int) = (m : Int) := by omega
    go_enter Tryz.func39, Tryz.ntmps39
    go_wp2
    go_ret
    exact ⟨rfl, Below.refl _ _⟩
end Go.Proofs.YtbkbncapgljfaaaGreatDoor
/- Contracts of rank's Equal and the law's Same. -/
namespace Go.Proofs.YtbkbncapgljfaaaGreatDoor
open Go Go.RowKit Go.Shelf

open Classical in
/-- Whether two ranks are the same. -/
noncomputable def sameB (nm tn : ByteArray) (a b f : Int) (n : Nat) (X : Nat → Int) (nm2 tn2 : ByteArray) (a2 b2 f2 : Int) (m : Nat) (Y : Nat → Int) : Bool :=
  decide (nm = nm2 ∧ tn = tn2 ∧ (a = a2 ∧ b = b2) ∧ f = f2 ∧ eqW n X m Y = true)
theorem s_eq (s t : ByteArray) (h : ¬ s = t) (T : TypeId) (hT : Tryz.prog.underlying T = Tryz.prog.underlying 9) : True := trivial
theorem fr_eq1 (x y : Int) : ∀ W : World, (binOp .eql 23 (.agg #[.int .i64 x, .int .i64 y]) (.agg #[.int .i64 x, .int .i64 y])).run Tryz.prog W = .ok (.bool true) W := by
  intro W; simp [go_sem]
theorem fr_eq0 (x y c d : Int) (h : ¬ (x = c ∧ y = d)) : ∀ W : World, (binOp .eql 23 (.agg #[.int .i64 x, .int .i64 y]) (.agg #[.int .i64 c, .int .i64 d])).run Tryz.prog W = .ok (.bool false) W := by
  intro W; simp [go_sem]; omega
theorem fr_ne1 (x y : Int) : ∀ W : World, (binOp .neq 23 (.agg #[.int .i64 x, .int .i64 y]) (.agg #[.int .i64 x, .int .i64 y])).run Tryz.prog W = .ok (.bool false) W := by
  intro W; simp [go_sem]
theorem fr_ne0 (x y c d : Int) (h : ¬ (x = c ∧ y = d)) : ∀ W : World, (binOp .neq 23 (.agg #[.int .i64 x, .int .i64 y]) (.agg #[.int .i64 c, .int .i64 d])).run Tryz.prog W = .ok (.bool true) W := by
  intro W; simp [go_sem]; omega

theorem str_ne {s t : ByteArray} (h : ¬ s = t) : (s.toList == t.toList) = false := by
  rw [beq_eq_false_iff_ne]
  intro e
  rw [toList_eq, toList_eq] at e
  exact h (ext_bytes e)


set_option maxRecDepth 100000 in
set_option maxHeartbeats 4000000 in
theorem requal_c (nm tn : ByteArray) (a b f : Int) (va : Value) (n : Nat) (X : Nat → Int) (nm2 tn2 : ByteArray) (a2 b2 f2 : Int) (vb : Value) (m : Nat) (Y : Nat → Int) (hn : n ≤ 9223372036854775807) (w : World) (h1 : Wd w va n X) (h2 : Wd w vb m Y) :
    Calls Tryz.prog 17 #[.agg #[.string nm, .string tn, .int .i64 a, .int .i64 b, .int .i64 f, va], .agg #[.string nm2, .string tn2, .int .i64 a2, .int .i64 b2, .int .i64 f2, vb]] w fun e w' => e = .returned (.bool (sameB nm tn a b f n X nm2 tn2 a2 b2 f2 m Y)) ∧ Below w.heap.size w w' := by
  obtain ⟨R, hR⟩ : ∃ R, sameB nm tn a b f n X nm2 tn2 a2 b2 f2 m Y = R := ⟨_, rfl⟩
  rw [hR]
  obtain ⟨sa, cp, rfl⟩ := h1.len
  obtain ⟨sb, cq, rfl⟩ := h2.len
  have SE := Lib.hid (fun W h1 h2 => sleq_c (.slice sa n cp) (.slice sb m cq) n m X Y hn W h1 h2)
  have hW := Lib.hid h1
  have hY := Lib.hid h2
  clear h1 h2
  obtain ⟨D, hD⟩ : ∃ D, w.heap.size = D := ⟨_, rfl⟩
  by_cases e1 : nm = nm2
  · subst e1
    by_cases e2 : tn = tn2
    · subst e2
      by_cases e3 : a = a2 ∧ b = b2
      · obtain ⟨rfl, rfl⟩ := e3
        have fr := fr_eq1 a b
        by_cases e4 : f = f2
        · subst e4
          obtain rfl : R = eqW n X m Y := by
            rw [← hR]; unfold sameB
            cases hE : eqW n X m Y with
            | true => exact decide_eq_true ⟨rfl, rfl, ⟨rfl, rfl⟩, rfl, rfl⟩
            | false => exact decide_eq_false (by rintro ⟨_, _, _, _, h⟩; cases h)
          clear hR
          go_enter Tryz.func17, Tryz.ntmps17
          have ld1 : ((w.alloc (.cells #[.string nm, .string tn, .int .i64 a, .int .i64 b, .int .i64 f, .slice sa n cp] 26)).alloc (.cells #[.string nm, .string tn, .int .i64 a, .int .i64 b, .int .i64 f, .slice sb m cq] 26)).heap[D]? = some (.cells #[.string nm, .string tn, .int .i64 a, .int .i64 b, .int .i64 f, .slice sa n cp] 26) := (heap_old (o := .cells #[.string nm, .string tn, .int .i64 a, .int .i64 b, .int .i64 f, .slice sb m cq] 26) (heap_new (by first | omega | (simp; omega))))
          have y1_0 := cell6_0 ld1
          have y1_1 := cell6_1 ld1
          have y1_2 := cell6_2 ld1
          have y1_3 := cell6_3 ld1
          have y1_4 := cell6_4 ld1
          have y1_5 := cell6_5 ld1
          clear ld1
          have ld2 : ((w.alloc (.cells #[.string nm, .string tn, .int .i64 a, .int .i64 b, .int .i64 f, .slice sa n cp] 26)).alloc (.cells #[.string nm, .string tn, .int .i64 a, .int .i64 b, .int .i64 f, .slice sb m cq] 26)).heap[D + 1]? = some (.cells #[.string nm, .string tn, .int .i64 a, .int .i64 b, .int .i64 f, .slice sb m cq] 26) := (heap_new (by first | omega | (simp; omega)))
          have y2_0 := cell6_0 ld2
          have y2_1 := cell6_1 ld2
          have y2_2 := cell6_2 ld2
          have y2_3 := cell6_3 ld2
          have y2_4 := cell6_4 ld2
          have y2_5 := cell6_5 ld2
          clear ld2
          have W1 : Wd ((w.alloc (.cells #[.string nm, .string tn, .int .i64 a, .int .i64 b, .int .i64 f, .slice sa n cp] 26)).alloc (.cells #[.string nm, .string tn, .int .i64 a, .int .i64 b, .int .i64 f, .slice sb m cq] 26)) (.slice sa n cp) n X := hW.out.below (by first | exact (((Below.refl _ w).alloc (by first | omega | (simp; omega)) (.cells #[.string nm, .string tn, .int .i64 a, .int .i64 b, .int .i64 f, .slice sa n cp] 26)).alloc (by first | omega | (simp; omega)) (.cells #[.string nm, .string tn, .int .i64 a, .int .i64 b, .int .i64 f, .slice sb m cq] 26)) | (rw [hD]; exact (((Below.refl _ w).alloc (by first | omega | (simp; omega)) (.cells #[.string nm, .string tn, .int .i64 a, .int .i64 b, .int .i64 f, .slice sa n cp] 26)).alloc (by first | omega | (simp; omega)) (.cells #[.string nm, .string tn, .int .i64 a, .int .i64 b, .int .i64 f, .slice sb m cq] 26))))
          have W2 : Wd ((w.alloc (.cells #[.string nm, .string tn, .int .i64 a, .int .i64 b, .int .i64 f, .slice sa n cp] 26)).alloc (.cells #[.string nm, .string tn, .int .i64 a, .int .i64 b, .int .i64 f, .slice sb m cq] 26)) (.slice sb m cq) m Y := hY.out.below (by first | exact (((Below.refl _ w).alloc (by first | omega | (simp; omega)) (.cells #[.string nm, .string tn, .int .i64 a, .int .i64 b, .int .i64 f, .slice sa n cp] 26)).alloc (by first | omega | (simp; omega)) (.cells #[.string nm, .string tn, .int .i64 a, .int .i64 b, .int .i64 f, .slice sb m cq] 26)) | (rw [hD]; exact (((Below.refl _ w).alloc (by first | omega | (simp; omega)) (.cells #[.string nm, .string tn, .int .i64 a, .int .i64 b, .int .i64 f, .slice sa n cp] 26)).alloc (by first | omega | (simp; omega)) (.cells #[.string nm, .string tn, .int .i64 a, .int .i64 b, .int .i64 f, .slice sb m cq] 26))))
          go_wp2_with fail
          refine (SE.out _ W1 W2).mono ?_
          rintro e v3 ⟨rfl, hb_v3⟩
          have cR_v3 : v3.heap[D]? = some (.cells #[.string nm, .string tn, .int .i64 a, .int .i64 b, .int .i64 f, .slice sa n cp] 26) := (hb_v3.block (D) (Array.getElem?_eq_some_iff.1 (show ((w.alloc (.cells #[.string nm, .string tn, .int .i64 a, .int .i64 b, .int .i64 f, .slice sa n cp] 26)).alloc (.cells #[.string nm, .string tn, .int .i64 a, .int .i64 b, .int .i64 f, .slice sb m cq] 26)).heap[D]? = some (.cells #[.string nm, .string tn, .int .i64 a, .int .i64 b, .int .i64 f, .slice sa n cp] 26) from (heap_old (o := .cells #[.string nm, .string tn, .int .i64 a, .int .i64 b, .int .i64 f, .slice sb m cq] 26) (heap_new (by first | omega | (simp; omega)))))).1).trans (heap_old (o := .cells #[.string nm, .string tn, .int .i64 a, .int .i64 b, .int .i64 f, .slice sb m cq] 26) (heap_new (by first | omega | (simp; omega))))
          have cS_v3 : v3.heap[D + 1]? = some (.cells #[.string nm, .string tn, .int .i64 a, .int .i64 b, .int .i64 f, .slice sb m cq] 26) := (hb_v3.block (D + 1) (Array.getElem?_eq_some_iff.1 (show ((w.alloc (.cells #[.string nm, .string tn, .int .i64 a, .int .i64 b, .int .i64 f, .slice sa n cp] 26)).alloc (.cells #[.string nm, .string tn, .int .i64 a, .int .i64 b, .int .i64 f, .slice sb m cq] 26)).heap[D + 1]? = some (.cells #[.string nm, .string tn, .int .i64 a, .int .i64 b, .int .i64 f, .slice sb m cq] 26) from (heap_new (by first | omega | (simp; omega))))).1).trans (heap_new (by first | omega | (simp; omega)))
          have hw_v3 : Below D w v3 := ((((Below.refl _ w).alloc (by first | omega | (simp; omega)) (.cells #[.string nm, .string tn, .int .i64 a, .int .i64 b, .int .i64 f, .slice sa n cp] 26)).alloc (by first | omega | (simp; omega)) (.cells #[.string nm, .string tn, .int .i64 a, .int .i64 b, .int .i64 f, .slice sb m cq] 26))).trans (hb_v3.mono (by first | omega | (simp; omega)))
          clear hb_v3 y1_0 y1_1 y1_2 y1_3 y1_4 y1_5 y2_0 y2_1 y2_2 y2_3 y2_4 y2_5
          have HW := Lib.hid (show Below D w (v3) from hw_v3)
          go_wp2
          go_ret
          exact ⟨rfl, by first | exact HW.out | (rw [hD]; exact HW.out)⟩
        · skip
          obtain rfl : R = false := by rw [← hR]; exact decide_eq_false (by rintro ⟨_, _, _, h, _⟩; exact e4 h)
          clear hR
          go_enter Tryz.func17, Tryz.ntmps17
          have ld1 : ((w.alloc (.cells #[.string nm, .string tn, .int .i64 a, .int .i64 b, .int .i64 f, .slice sa n cp] 26)).alloc (.cells #[.string nm, .string tn, .int .i64 a, .int .i64 b, .int .i64 f2, .slice sb m cq] 26)).heap[D]? = some (.cells #[.string nm, .string tn, .int .i64 a, .int .i64 b, .int .i64 f, .slice sa n cp] 26) := (heap_old (o := .cells #[.string nm, .string tn, .int .i64 a, .int .i64 b, .int .i64 f2, .slice sb m cq] 26) (heap_new (by first | omega | (simp; omega))))
          have y1_0 := cell6_0 ld1
          have y1_1 := cell6_1 ld1
          have y1_2 := cell6_2 ld1
          have y1_3 := cell6_3 ld1
          have y1_4 := cell6_4 ld1
          have y1_5 := cell6_5 ld1
          clear ld1
          have ld2 : ((w.alloc (.cells #[.string nm, .string tn, .int .i64 a, .int .i64 b, .int .i64 f, .slice sa n cp] 26)).alloc (.cells #[.string nm, .string tn, .int .i64 a, .int .i64 b, .int .i64 f2, .slice sb m cq] 26)).heap[D + 1]? = some (.cells #[.string nm, .string tn, .int .i64 a, .int .i64 b, .int .i64 f2, .slice sb m cq] 26) := (heap_new (by first | omega | (simp; omega)))
          have y2_0 := cell6_0 ld2
          have y2_1 := cell6_1 ld2
          have y2_2 := cell6_2 ld2
          have y2_3 := cell6_3 ld2
          have y2_4 := cell6_4 ld2
          have y2_5 := cell6_5 ld2
          clear ld2
          have HW := Lib.hid (show Below D w (((w.alloc (.cells #[.string nm, .string tn, .int .i64 a, .int .i64 b, .int .i64 f, .slice sa n cp] 26)).alloc (.cells #[.string nm, .string tn, .int .i64 a, .int .i64 b, .int .i64 f2, .slice sb m cq] 26))) from (((Below.refl _ w).alloc (by first | omega | (simp; omega)) (.cells #[.string nm, .string tn, .int .i64 a, .int .i64 b, .int .i64 f, .slice sa n cp] 26)).alloc (by first | omega | (simp; omega)) (.cells #[.string nm, .string tn, .int .i64 a, .int .i64 b, .int .i64 f2, .slice sb m cq] 26)))
          go_wp2
          go_ret
          exact ⟨rfl, by first | exact HW.out | (rw [hD]; exact HW.out)⟩
      · skip
        obtain rfl : R = false := by rw [← hR]; exact decide_eq_false (by rintro ⟨_, _, h, _⟩; exact e3 h)
        clear hR
        have fr := fr_eq0 a b a2 b2 e3
        clear e3
        go_enter Tryz.func17, Tryz.ntmps17
        have ld1 : ((w.alloc (.cells #[.string nm, .string tn, .int .i64 a, .int .i64 b, .int .i64 f, .slice sa n cp] 26)).alloc (.cells #[.string nm, .string tn, .int .i64 a2, .int .i64 b2, .int .i64 f2, .slice sb m cq] 26)).heap[D]? = some (.cells #[.string nm, .string tn, .int .i64 a, .int .i64 b, .int .i64 f, .slice sa n cp] 26) := (heap_old (o := .cells #[.string nm, .string tn, .int .i64 a2, .int .i64 b2, .int .i64 f2, .slice sb m cq] 26) (heap_new (by first | omega | (simp; omega))))
        have y1_0 := cell6_0 ld1
        have y1_1 := cell6_1 ld1
        have y1_2 := cell6_2 ld1
        have y1_3 := cell6_3 ld1
        have y1_4 := cell6_4 ld1
        have y1_5 := cell6_5 ld1
        clear ld1
        have ld2 : ((w.alloc (.cells #[.string nm, .string tn, .int .i64 a, .int .i64 b, .int .i64 f, .slice sa n cp] 26)).alloc (.cells #[.string nm, .string tn, .int .i64 a2, .int .i64 b2, .int .i64 f2, .slice sb m cq] 26)).heap[D + 1]? = some (.cells #[.string nm, .string tn, .int .i64 a2, .int .i64 b2, .int .i64 f2, .slice sb m cq] 26) := (heap_new (by first | omega | (simp; omega)))
        have y2_0 := cell6_0 ld2
        have y2_1 := cell6_1 ld2
        have y2_2 := cell6_2 ld2
        have y2_3 := cell6_3 ld2
        have y2_4 := cell6_4 ld2
        have y2_5 := cell6_5 ld2
        clear ld2
        have HW := Lib.hid (show Below D w (((w.alloc (.cells #[.string nm, .string tn, .int .i64 a, .int .i64 b, .int .i64 f, .slice sa n cp] 26)).alloc (.cells #[.string nm, .string tn, .int .i64 a2, .int .i64 b2, .int .i64 f2, .slice sb m cq] 26))) from (((Below.refl _ w).alloc (by first | omega | (simp; omega)) (.cells #[.string nm, .string tn, .int .i64 a, .int .i64 b, .int .i64 f, .slice sa n cp] 26)).alloc (by first | omega | (simp; omega)) (.cells #[.string nm, .string tn, .int .i64 a2, .int .i64 b2, .int .i64 f2, .slice sb m cq] 26)))
        go_wp2
        go_ret
        exact ⟨rfl, by first | exact HW.out | (rw [hD]; exact HW.out)⟩
    · skip
      obtain rfl : R = false := by rw [← hR]; exact decide_eq_false (by rintro ⟨_, h, _⟩; exact e2 h)
      clear hR
      have x1 := str_ne e2
      go_enter Tryz.func17, Tryz.ntmps17
      have ld1 : ((w.alloc (.cells #[.string nm, .string tn, .int .i64 a, .int .i64 b, .int .i64 f, .slice sa n cp] 26)).alloc (.cells #[.string nm, .string tn2, .int .i64 a2, .int .i64 b2, .int .i64 f2, .slice sb m cq] 26)).heap[D]? = some (.cells #[.string nm, .string tn, .int .i64 a, .int .i64 b, .int .i64 f, .slice sa n cp] 26) := (heap_old (o := .cells #[.string nm, .string tn2, .int .i64 a2, .int .i64 b2, .int .i64 f2, .slice sb m cq] 26) (heap_new (by first | omega | (simp; omega))))
      have y1_0 := cell6_0 ld1
      have y1_1 := cell6_1 ld1
      have y1_2 := cell6_2 ld1
      have y1_3 := cell6_3 ld1
      have y1_4 := cell6_4 ld1
      have y1_5 := cell6_5 ld1
      clear ld1
      have ld2 : ((w.alloc (.cells #[.string nm, .string tn, .int .i64 a, .int .i64 b, .int .i64 f, .slice sa n cp] 26)).alloc (.cells #[.string nm, .string tn2, .int .i64 a2, .int .i64 b2, .int .i64 f2, .slice sb m cq] 26)).heap[D + 1]? = some (.cells #[.string nm, .string tn2, .int .i64 a2, .int .i64 b2, .int .i64 f2, .slice sb m cq] 26) := (heap_new (by first | omega | (simp; omega)))
      have y2_0 := cell6_0 ld2
      have y2_1 := cell6_1 ld2
      have y2_2 := cell6_2 ld2
      have y2_3 := cell6_3 ld2
      have y2_4 := cell6_4 ld2
      have y2_5 := cell6_5 ld2
      clear ld2
      have HW := Lib.hid (show Below D w (((w.alloc (.cells #[.string nm, .string tn, .int .i64 a, .int .i64 b, .int .i64 f, .slice sa n cp] 26)).alloc (.cells #[.string nm, .string tn2, .int .i64 a2, .int .i64 b2, .int .i64 f2, .slice sb m cq] 26))) from (((Below.refl _ w).alloc (by first | omega | (simp; omega)) (.cells #[.string nm, .string tn, .int .i64 a, .int .i64 b, .int .i64 f, .slice sa n cp] 26)).alloc (by first | omega | (simp; omega)) (.cells #[.string nm, .string tn2, .int .i64 a2, .int .i64 b2, .int .i64 f2, .slice sb m cq] 26)))
      go_wp2
      go_ret
      exact ⟨rfl, by first | exact HW.out | (rw [hD]; exact HW.out)⟩
  · skip
    obtain rfl : R = false := by rw [← hR]; exact decide_eq_false (by rintro ⟨h, _⟩; exact e1 h)
    clear hR
    have x1 := str_ne e1
    go_enter Tryz.func17, Tryz.ntmps17
    have ld1 : ((w.alloc (.cells #[.string nm, .string tn, .int .i64 a, .int .i64 b, .int .i64 f, .slice sa n cp] 26)).alloc (.cells #[.string nm2, .string tn2, .int .i64 a2, .int .i64 b2, .int .i64 f2, .slice sb m cq] 26)).heap[D]? = some (.cells #[.string nm, .string tn, .int .i64 a, .int .i64 b, .int .i64 f, .slice sa n cp] 26) := (heap_old (o := .cells #[.string nm2, .string tn2, .int .i64 a2, .int .i64 b2, .int .i64 f2, .slice sb m cq] 26) (heap_new (by first | omega | (simp; omega))))
    have y1_0 := cell6_0 ld1
    have y1_1 := cell6_1 ld1
    have y1_2 := cell6_2 ld1
    have y1_3 := cell6_3 ld1
    have y1_4 := cell6_4 ld1
    have y1_5 := cell6_5 ld1
    clear ld1
    have ld2 : ((w.alloc (.cells #[.string nm, .string tn, .int .i64 a, .int .i64 b, .int .i64 f, .slice sa n cp] 26)).alloc (.cells #[.string nm2, .string tn2, .int .i64 a2, .int .i64 b2, .int .i64 f2, .slice sb m cq] 26)).heap[D + 1]? = some (.cells #[.string nm2, .string tn2, .int .i64 a2, .int .i64 b2, .int .i64 f2, .slice sb m cq] 26) := (heap_new (by first | omega | (simp; omega)))
    have y2_0 := cell6_0 ld2
    have y2_1 := cell6_1 ld2
    have y2_2 := cell6_2 ld2
    have y2_3 := cell6_3 ld2
    have y2_4 := cell6_4 ld2
    have y2_5 := cell6_5 ld2
    clear ld2
    have HW := Lib.hid (show Below D w (((w.alloc (.cells #[.string nm, .string tn, .int .i64 a, .int .i64 b, .int .i64 f, .slice sa n cp] 26)).alloc (.cells #[.string nm2, .string tn2, .int .i64 a2, .int .i64 b2, .int .i64 f2, .slice sb m cq] 26))) from (((Below.refl _ w).alloc (by first | omega | (simp; omega)) (.cells #[.string nm, .string tn, .int .i64 a, .int .i64 b, .int .i64 f, .slice sa n cp] 26)).alloc (by first | omega | (simp; omega)) (.cells #[.string nm2, .string tn2, .int .i64 a2, .int .i64 b2, .int .i64 f2, .slice sb m cq] 26)))
    go_wp2
    go_ret
    exact ⟨rfl, by first | exact HW.out | (rw [hD]; exact HW.out)⟩
end Go.Proofs.YtbkbncapgljfaaaGreatDoor
