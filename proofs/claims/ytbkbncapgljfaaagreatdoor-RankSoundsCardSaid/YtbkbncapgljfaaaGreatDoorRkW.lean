/- The walk of RankSounds. -/
import Derived.Test.YtbkbncapgljfaaaGreatDoorRkV
namespace Go.Proofs.YtbkbncapgljfaaaGreatDoor
open Go Go.RowKit Go.Shelf


set_option maxRecDepth 100000 in
set_option maxHeartbeats 4000000 in
theorem sound_unk (nm tn : ByteArray) (a b f : Int) (v : Value) (n : Nat) (X : Nat → Int) (k z : Int) (s1 : nm.size ≤ 1099511627776) (s2 : tn.size ≤ 1099511627776) (hn : n ≤ 1099511627776) (hz : cpE (rkE nm tn a b f n X) k n = z) (hne : ¬ z = 0) (w : World) (hWd : Wd w v n X) :
    Calls Tryz.prog 23 #[.agg #[.string nm, .string tn, .int .i64 a, .int .i64 b, .int .i64 f, v], .int .i64 k] w fun e w' => e = .returned (.tuple #[.int .i64 0, .bool false, .int .i64 z]) ∧ Below w.heap.size w w' := by
  have CP := Lib.hid (fun W h => cpipe_c nm tn a b f v n X k s1 s2 hn W h)
  rw [hz] at CP
  clear hz
  obtain ⟨sa, cp, rfl⟩ := hWd.len
  have hW := Lib.hid hWd
  clear hWd
  obtain ⟨D, hD⟩ : ∃ D, w.heap.size = D := ⟨_, rfl⟩
  go_enter Tryz.func23, Tryz.ntmps23
  have ld1 : (w.alloc (.cells #[.string nm, .string tn, .int .i64 a, .int .i64 b, .int .i64 f, .slice sa n cp] 26)).heap[D]? = some (.cells #[.string nm, .string tn, .int .i64 a, .int .i64 b, .int .i64 f, .slice sa n cp] 26) := (heap_new (by first | omega | (simp; omega)))
  have y1_0 := cell6_0 ld1
  have y1_1 := cell6_1 ld1
  have y1_2 := cell6_2 ld1
  have y1_3 := cell6_3 ld1
  have y1_4 := cell6_4 ld1
  have y1_5 := cell6_5 ld1
  clear ld1
  have W1 : Wd (w.alloc (.cells #[.string nm, .string tn, .int .i64 a, .int .i64 b, .int .i64 f, .slice sa n cp] 26)) (.slice sa n cp) n X := hW.out.below (by first | exact ((Below.refl _ w).alloc (by first | omega | (simp; omega)) (.cells #[.string nm, .string tn, .int .i64 a, .int .i64 b, .int .i64 f, .slice sa n cp] 26)) | (rw [hD]; exact ((Below.refl _ w).alloc (by first | omega | (simp; omega)) (.cells #[.string nm, .string tn, .int .i64 a, .int .i64 b, .int .i64 f, .slice sa n cp] 26))))
  go_wp2_with fail
  refine (CP.out _ W1).mono ?_
  rintro e v2 ⟨rfl, hb_v2⟩
  have cR_v2 : v2.heap[D]? = some (.cells #[.string nm, .string tn, .int .i64 a, .int .i64 b, .int .i64 f, .slice sa n cp] 26) := (hb_v2.block (D) (Array.getElem?_eq_some_iff.1 (show (w.alloc (.cells #[.string nm, .string tn, .int .i64 a, .int .i64 b, .int .i64 f, .slice sa n cp] 26)).heap[D]? = some (.cells #[.string nm, .string tn, .int .i64 a, .int .i64 b, .int .i64 f, .slice sa n cp] 26) from (heap_new (by first | omega | (simp; omega))))).1).trans (heap_new (by first | omega | (simp; omega)))
  have hw_v2 : Below D w v2 := (((Below.refl _ w).alloc (by first | omega | (simp; omega)) (.cells #[.string nm, .string tn, .int .i64 a, .int .i64 b, .int .i64 f, .slice sa n cp] 26))).trans (hb_v2.mono (by first | omega | (simp; omega)))
  clear hb_v2 y1_0 y1_1 y1_2 y1_3 y1_4 y1_5
  have HW := Lib.hid (hw_v2)
  go_wp2
  go_ret3
  exact ⟨rfl, by first | exact HW.out | (rw [hD]; exact HW.out)⟩
theorem sound_any (nm tn : ByteArray) (a b f : Int) (n : Nat) (X : Nat → Int) (k s : Int) (s1 : nm.size ≤ 1099511627776) (s2 : tn.size ≤ 1099511627776) (hn : n ≤ 1099511627776) (hz : rkE nm tn a b f n X = 0) (hs : ShI (8 * b) (1 * a) s) :
    ∃ (nv : Int) (sv : Bool) (ev : Int), (∀ (v : Value) (w : World), Wd w v n X → Gi w → Calls Tryz.prog 23 #[.agg #[.string nm, .string tn, .int .i64 a, .int .i64 b, .int .i64 f, v], .int .i64 k] w fun e w' => e = .returned (.tuple #[.int .i64 nv, .bool sv, .int .i64 ev]) ∧ Below w.heap.size w w') ∧
      ((ev = 10 ∧ nv = 0 ∧ sv = false ∧ ¬ (0 ≤ k ∧ k < n)) ∨ (ev = 0 ∧ nv = f + k + s ∧ sv = true ∧ (0 ≤ k ∧ k < n) ∧ 0 ≤ f + k + s ∧ f + k + s ≤ 127) ∨ (ev = 0 ∧ nv = 0 ∧ sv = false ∧ (0 ≤ k ∧ k < n) ∧ ¬ (0 ≤ f + k + s ∧ f + k + s ≤ 127))) := by
  by_cases h1 : 0 ≤ k ∧ k < n
  · by_cases h2 : 0 ≤ f + k + s ∧ f + k + s ≤ 127
    · exact ⟨_, _, _, fun v w h G => sound_yes nm tn a b f v n X k s s1 s2 hn hz h1 hs h2 w h G, .inr (.inl ⟨rfl, rfl, rfl, h1, h2.1, h2.2⟩)⟩
    · exact ⟨_, _, _, fun v w h G => sound_no nm tn a b f v n X k s s1 s2 hn hz h1 hs h2 w h G, .inr (.inr ⟨rfl, rfl, rfl, h1, h2⟩)⟩
  · have hc : cpE (rkE nm tn a b f n X) k n = 10 := by unfold cpE; rw [if_pos hz, if_neg h1]
    exact ⟨_, _, _, fun v w h _ => sound_unk nm tn a b f v n X k 10 s1 s2 hn hc (by decide) w h, .inl ⟨rfl, rfl, rfl, h1⟩⟩


set_option maxRecDepth 100000 in
set_option maxHeartbeats 4000000 in
theorem sounds_walk (t ft f p w0 w1 w2 w3 w4 : Int) (bt : 0 ≤ t ∧ t ≤ 255) (bft : 0 ≤ ft ∧ ft ≤ 255) (bf : -128 ≤ f ∧ f ≤ 127) (bp : 0 ≤ p ∧ p ≤ 255) (b0 : 0 ≤ w0 ∧ w0 ≤ 255) (b1 : 0 ≤ w1 ∧ w1 ≤ 255) (b2 : 0 ≤ w2 ∧ w2 ≤ 255) (b3 : 0 ≤ w3 ∧ w3 ≤ 255) (b4 : 0 ≤ w4 ∧ w4 ≤ 255) (number : Int) (w : World) (G : Gi w) :
    Calls Tryz.prog 6 #[.agg #[.int .u8 t, .int .u8 ft, .int .i8 f, .int .u8 p, .int .u8 w0, .int .u8 w1, .int .u8 w2, .int .u8 w3, .int .u8 w4], .int .i64 number] w fun e w' => e = .returned (.bool true) ∧ Below w.heap.size w w' := by
  obtain ⟨j, hj, hx⟩ := feet_rem ft bft
  obtain ⟨tm, h3, htm⟩ := plan_tone bt
  obtain ⟨q, hq25, hq⟩ := plan_num bp
  obtain ⟨n, hn⟩ : ∃ n, q + 1 = n := ⟨_, rfl⟩
  obtain ⟨fa, hfa⟩ : ∃ a, (feetF j).1 = a := ⟨_, rfl⟩
  obtain ⟨fb, hfb⟩ : ∃ a, (feetF j).2 = a := ⟨_, rfl⟩
  obtain ⟨tn, htn⟩ : ∃ a, toneB tm = a := ⟨_, rfl⟩
  obtain ⟨X, hX⟩ : ∃ a, xw w0 w1 w2 w3 w4 = a := ⟨_, rfl⟩
  have MK := Lib.hid (fun W => make_c0 t ft f p w0 w1 w2 w3 w4 bt bft bf bp b0 b1 b2 b3 b4 j tm q hj hx h3 htm hq25 hq W)
  have hpk := feetF_pk j hj
  have hnt := tone_name tm h3
  have hXb := fun k => xw_bd b0 b1 b2 b3 b4 k
  have ts := tone_size tm h3
  rw [hfa, hfb, htn, hn, hX] at MK
  rw [hfa, hfb] at hpk
  rw [htn] at hnt ts
  rw [hX] at hXb
  have hn1 : 1 ≤ n ∧ n ≤ 25 := by omega
  have hz : rkE ⟨#[82, 48]⟩ tn fa fb f n X = 0 := rk_of (by decide +kernel) hnt hpk (by omega) (by omega) (by omega) (fun k _ => by have := hXb k; omega)
  have ns : n ≤ 1099511627776 := by omega
  clear hj hx htm hq hfa hfb htn hX h3 hn hnt hq25 bt bft bp b0 b1 b2 b3 b4
  obtain ⟨_, _, hp, hf, hn0, hn128, hx⟩ := rk_ok hz
  obtain ⟨_, p1, p2, p3, p4, _⟩ := pk_ok hp
  obtain ⟨s, hs⟩ := shi_ex (x := 8 * fb) (y := 1 * fa) (by omega) (by omega)
  have bs := sh_of_eq hs (by omega) (by omega) (by omega) (by omega)
  obtain ⟨nv, sv, ev, hSO, hcase⟩ := sound_any ⟨#[82, 48]⟩ tn fa fb f n X number s (by decide) ts ns hz hs
  have KN := Lib.hid (fun W G => known_c W G)
  have SO := Lib.hid hSO
  have SH := Lib.hid (fun W G => pshift_ok fa fb 8 1 s hp (by decide +kernel) hs W G)
  have HC := Lib.hid hcase
  clear hSO hcase hz hx ns ts hpk hXb hn1 hp p1 p2 p3 p4 hs hn0
  obtain ⟨D, hD⟩ : ∃ D, w.heap.size = D := ⟨_, rfl⟩
  go_enter Tryz.func6, Tryz.ntmps6
  have G2 : Gi (w.alloc (.cells #[.int .u8 t, .int .u8 ft, .int .i8 f, .int .u8 p, .int .u8 w0, .int .u8 w1, .int .u8 w2, .int .u8 w3, .int .u8 w4] 47)) := G.below (by first | exact ((Below.refl _ w).alloc (by first | omega | (simp; omega)) (.cells #[.int .u8 t, .int .u8 ft, .int .i8 f, .int .u8 p, .int .u8 w0, .int .u8 w1, .int .u8 w2, .int .u8 w3, .int .u8 w4] 47)) | (rw [hD]; exact ((Below.refl _ w).alloc (by first | omega | (simp; omega)) (.cells #[.int .u8 t, .int .u8 ft, .int .i8 f, .int .u8 p, .int .u8 w0, .int .u8 w1, .int .u8 w2, .int .u8 w3, .int .u8 w4] 47))))
  go_wp2_with fail
  refine (KN.out _ G2).mono ?_
  rintro e v1 ⟨rfl, hb_v1⟩
  have cP_v1 : v1.heap[D]? = some (.cells #[.int .u8 t, .int .u8 ft, .int .i8 f, .int .u8 p, .int .u8 w0, .int .u8 w1, .int .u8 w2, .int .u8 w3, .int .u8 w4] 47) := (hb_v1.block (D) (Array.getElem?_eq_some_iff.1 (show (w.alloc (.cells #[.int .u8 t, .int .u8 ft, .int .i8 f, .int .u8 p, .int .u8 w0, .int .u8 w1, .int .u8 w2, .int .u8 w3, .int .u8 w4] 47)).heap[D]? = some (.cells #[.int .u8 t, .int .u8 ft, .int .i8 f, .int .u8 p, .int .u8 w0, .int .u8 w1, .int .u8 w2, .int .u8 w3, .int .u8 w4] 47) from (heap_new (by first | omega | (simp; omega))))).1).trans (heap_new (by first | omega | (simp; omega)))
  have hw_v1 : Below D w v1 := (((Below.refl _ w).alloc (by first | omega | (simp; omega)) (.cells #[.int .u8 t, .int .u8 ft, .int .i8 f, .int .u8 p, .int .u8 w0, .int .u8 w1, .int .u8 w2, .int .u8 w3, .int .u8 w4] 47))).trans (hb_v1.mono (by first | omega | (simp; omega)))
  clear hb_v1
  have ld2 : v1.heap[D]? = some (.cells #[.int .u8 t, .int .u8 ft, .int .i8 f, .int .u8 p, .int .u8 w0, .int .u8 w1, .int .u8 w2, .int .u8 w3, .int .u8 w4] 47) := cP_v1
  obtain ⟨y2_0, y2_1, y2_2, y2_3, y2_4, y2_5, y2_6, y2_7, y2_8⟩ := plan_cells ld2
  clear ld2
  go_wp2_with fail
  refine (MK.out _).mono ?_
  rintro e v3 ⟨⟨v0, rfl, hwd⟩, hb_v3⟩
  have hs_v3 := hw_v1.size
  have cP_v3 : v3.heap[D]? = some (.cells #[.int .u8 t, .int .u8 ft, .int .i8 f, .int .u8 p, .int .u8 w0, .int .u8 w1, .int .u8 w2, .int .u8 w3, .int .u8 w4] 47) := (hb_v3.block (D) (Array.getElem?_eq_some_iff.1 (show v1.heap[D]? = some (.cells #[.int .u8 t, .int .u8 ft, .int .i8 f, .int .u8 p, .int .u8 w0, .int .u8 w1, .int .u8 w2, .int .u8 w3, .int .u8 w4] 47) from cP_v1)).1).trans cP_v1
  have hw_v3 : Below D w v3 := (hw_v1).trans (hb_v3.mono (by first | omega | (simp; omega)))
  clear cP_v1 hb_v3 y2_0 y2_1 y2_2 y2_3 y2_4 y2_5 y2_6 y2_7 y2_8 hw_v1 hs_v3
  obtain ⟨ra, rc, rfl⟩ := hwd.len
  have hR := Lib.hid hwd
  clear hwd
  obtain ⟨D2, hD2⟩ : ∃ D, v3.heap.size = D := ⟨_, rfl⟩
  have G2 : Gi v3 := G.below (by first | exact hw_v3 | (rw [hD]; exact hw_v3))
  have HB2 := Lib.hid (hw_v3)
  clear hw_v3
  have ld4 : (v3.alloc (.cells #[.string ⟨#[82, 48]⟩, .string tn, .int .i64 fa, .int .i64 fb, .int .i64 f, .slice ra n rc] 26)).heap[D2]? = some (.cells #[.string ⟨#[82, 48]⟩, .string tn, .int .i64 fa, .int .i64 fb, .int .i64 f, .slice ra n rc] 26) := (heap_new (by first | omega | (simp; omega)))
  have y4_0 := cell6_0 ld4
  have y4_1 := cell6_1 ld4
  have y4_2 := cell6_2 ld4
  have y4_3 := cell6_3 ld4
  have y4_4 := cell6_4 ld4
  have y4_5 := cell6_5 ld4
  clear ld4
  have W3 : Wd (v3.alloc (.cells #[.string ⟨#[82, 48]⟩, .string tn, .int .i64 fa, .int .i64 fb, .int .i64 f, .slice ra n rc] 26)) (.slice ra n rc) n X := hR.out.below (by first | exact ((Below.refl _ v3).alloc (by first | omega | (simp; omega)) (.cells #[.string ⟨#[82, 48]⟩, .string tn, .int .i64 fa, .int .i64 fb, .int .i64 f, .slice ra n rc] 26)) | (rw [hD2]; exact ((Below.refl _ v3).alloc (by first | omega | (simp; omega)) (.cells #[.string ⟨#[82, 48]⟩, .string tn, .int .i64 fa, .int .i64 fb, .int .i64 f, .slice ra n rc] 26))))
  have G4 : Gi (v3.alloc (.cells #[.string ⟨#[82, 48]⟩, .string tn, .int .i64 fa, .int .i64 fb, .int .i64 f, .slice ra n rc] 26)) := G2.below (by first | exact ((Below.refl _ v3).alloc (by first | omega | (simp; omega)) (.cells #[.string ⟨#[82, 48]⟩, .string tn, .int .i64 fa, .int .i64 fb, .int .i64 f, .slice ra n rc] 26)) | (rw [hD2]; exact ((Below.refl _ v3).alloc (by first | omega | (simp; omega)) (.cells #[.string ⟨#[82, 48]⟩, .string tn, .int .i64 fa, .int .i64 fb, .int .i64 f, .slice ra n rc] 26))))
  go_wp2_with fail
  refine (SO.out _ _ W3 G4).mono ?_
  rintro e v5 ⟨rfl, hb_v5⟩
  have cP_v5 : v5.heap[D]? = some (.cells #[.int .u8 t, .int .u8 ft, .int .i8 f, .int .u8 p, .int .u8 w0, .int .u8 w1, .int .u8 w2, .int .u8 w3, .int .u8 w4] 47) := (hb_v5.block (D) (Array.getElem?_eq_some_iff.1 (show (v3.alloc (.cells #[.string ⟨#[82, 48]⟩, .string tn, .int .i64 fa, .int .i64 fb, .int .i64 f, .slice ra n rc] 26)).heap[D]? = some (.cells #[.int .u8 t, .int .u8 ft, .int .i8 f, .int .u8 p, .int .u8 w0, .int .u8 w1, .int .u8 w2, .int .u8 w3, .int .u8 w4] 47) from (heap_old (o := .cells #[.string ⟨#[82, 48]⟩, .string tn, .int .i64 fa, .int .i64 fb, .int .i64 f, .slice ra n rc] 26) cP_v3))).1).trans (heap_old (o := .cells #[.string ⟨#[82, 48]⟩, .string tn, .int .i64 fa, .int .i64 fb, .int .i64 f, .slice ra n rc] 26) cP_v3)
  have cR_v5 : v5.heap[D2]? = some (.cells #[.string ⟨#[82, 48]⟩, .string tn, .int .i64 fa, .int .i64 fb, .int .i64 f, .slice ra n rc] 26) := (hb_v5.block (D2) (Array.getElem?_eq_some_iff.1 (show (v3.alloc (.cells #[.string ⟨#[82, 48]⟩, .string tn, .int .i64 fa, .int .i64 fb, .int .i64 f, .slice ra n rc] 26)).heap[D2]? = some (.cells #[.string ⟨#[82, 48]⟩, .string tn, .int .i64 fa, .int .i64 fb, .int .i64 f, .slice ra n rc] 26) from (heap_new (by first | omega | (simp; omega))))).1).trans (heap_new (by first | omega | (simp; omega)))
  have hw_v5 : Below D2 v3 v5 := (((Below.refl _ v3).alloc (by first | omega | (simp; omega)) (.cells #[.string ⟨#[82, 48]⟩, .string tn, .int .i64 fa, .int .i64 fb, .int .i64 f, .slice ra n rc] 26))).trans (hb_v5.mono (by first | omega | (simp; omega)))
  clear cP_v3 hb_v5 y4_0 y4_1 y4_2 y4_3 y4_4 y4_5
  have ld6 : v5.heap[D2]? = some (.cells #[.string ⟨#[82, 48]⟩, .string tn, .int .i64 fa, .int .i64 fb, .int .i64 f, .slice ra n rc] 26) := cR_v5
  have y6_0 := cell6_0 ld6
  have y6_1 := cell6_1 ld6
  have y6_2 := cell6_2 ld6
  have y6_3 := cell6_3 ld6
  have y6_4 := cell6_4 ld6
  have y6_5 := cell6_5 ld6
  clear ld6
  rcases HC.out with ⟨rfl, rfl, rfl, hk⟩ | ⟨rfl, rfl, rfl, hk, g1, g2⟩ | ⟨rfl, rfl, rfl, hk, g1⟩
  · rcases (show number < 0 ∨ (¬ number < 0 ∧ (n : Int) ≤ number) by omega) with q1 | ⟨q1, q2⟩
    · skip
      have HW := Lib.hid (show Below D w (v5) from (HB2.out.trans ((hw_v5).mono (by first | exact HB2.out.size | (rw [hD] at *; exact HB2.out.size) | (have := HB2.out.size; omega)))))
      go_wp2
      go_ret
      exact ⟨rfl, by first | exact HW.out | (rw [hD]; exact HW.out)⟩
    · skip
      have HW := Lib.hid (show Below D w (v5) from (HB2.out.trans ((hw_v5).mono (by first | exact HB2.out.size | (rw [hD] at *; exact HB2.out.size) | (have := HB2.out.size; omega)))))
      go_wp2
      go_ret
      exact ⟨rfl, by first | exact HW.out | (rw [hD]; exact HW.out)⟩
  · skip
    have q1 : ¬ number < 0 := by omega
    have q2 : ¬ (n : Int) ≤ number := by omega
    have q3 := wrap_in (q := f + number) (by omega) (by omega)
    have q4 := wrap_in (q := f + number + s) (by omega) (by omega)
    have G5 : Gi v5 := G2.below (by first | exact hw_v5 | (rw [hD2]; exact hw_v5))
    go_wp2_with fail
    refine (SH.out _ G5).mono ?_
    rintro e v7 ⟨rfl, hb_v7⟩
    have hs_v7 := hw_v5.size
    have cP_v7 : v7.heap[D]? = some (.cells #[.int .u8 t, .int .u8 ft, .int .i8 f, .int .u8 p, .int .u8 w0, .int .u8 w1, .int .u8 w2, .int .u8 w3, .int .u8 w4] 47) := (hb_v7.block (D) (Array.getElem?_eq_some_iff.1 (show v5.heap[D]? = some (.cells #[.int .u8 t, .int .u8 ft, .int .i8 f, .int .u8 p, .int .u8 w0, .int .u8 w1, .int .u8 w2, .int .u8 w3, .int .u8 w4] 47) from cP_v5)).1).trans cP_v5
    have cR_v7 : v7.heap[D2]? = some (.cells #[.string ⟨#[82, 48]⟩, .string tn, .int .i64 fa, .int .i64 fb, .int .i64 f, .slice ra n rc] 26) := (hb_v7.block (D2) (Array.getElem?_eq_some_iff.1 (show v5.heap[D2]? = some (.cells #[.string ⟨#[82, 48]⟩, .string tn, .int .i64 fa, .int .i64 fb, .int .i64 f, .slice ra n rc] 26) from cR_v5)).1).trans cR_v5
    have hw_v7 : Below D2 v3 v7 := (hw_v5).trans (hb_v7.mono (by first | omega | (simp; omega)))
    clear cP_v5 cR_v5 hb_v7 y6_0 y6_1 y6_2 y6_3 y6_4 y6_5 hw_v5 hs_v7
    have ld8 : v7.heap[D2]? = some (.cells #[.string ⟨#[82, 48]⟩, .string tn, .int .i64 fa, .int .i64 fb, .int .i64 f, .slice ra n rc] 26) := cR_v7
    have y8_0 := cell6_0 ld8
    have y8_1 := cell6_1 ld8
    have y8_2 := cell6_2 ld8
    have y8_3 := cell6_3 ld8
    have y8_4 := cell6_4 ld8
    have y8_5 := cell6_5 ld8
    clear ld8
    have HW := Lib.hid (show Below D w (v7) from (HB2.out.trans ((hw_v7).mono (by first | exact HB2.out.size | (rw [hD] at *; exact HB2.out.size) | (have := HB2.out.size; omega)))))
    go_wp2
    go_ret
    exact ⟨rfl, by first | exact HW.out | (rw [hD]; exact HW.out)⟩
  · rcases (show f + number + s < 0 ∨ (0 ≤ f + number + s ∧ 127 < f + number + s) by omega) with g2 | ⟨g2, g3⟩
    · skip
      have q1 : ¬ number < 0 := by omega
      have q2 : ¬ (n : Int) ≤ number := by omega
      have q3 := wrap_in (q := f + number) (by omega) (by omega)
      have q4 := wrap_in (q := f + number + s) (by omega) (by omega)
      have G6 : Gi v5 := G2.below (by first | exact hw_v5 | (rw [hD2]; exact hw_v5))
      go_wp2_with fail
      refine (SH.out _ G6).mono ?_
      rintro e v7 ⟨rfl, hb_v7⟩
      have hs_v7 := hw_v5.size
      have cP_v7 : v7.heap[D]? = some (.cells #[.int .u8 t, .int .u8 ft, .int .i8 f, .int .u8 p, .int .u8 w0, .int .u8 w1, .int .u8 w2, .int .u8 w3, .int .u8 w4] 47) := (hb_v7.block (D) (Array.getElem?_eq_some_iff.1 (show v5.heap[D]? = some (.cells #[.int .u8 t, .int .u8 ft, .int .i8 f, .int .u8 p, .int .u8 w0, .int .u8 w1, .int .u8 w2, .int .u8 w3, .int .u8 w4] 47) from cP_v5)).1).trans cP_v5
      have cR_v7 : v7.heap[D2]? = some (.cells #[.string ⟨#[82, 48]⟩, .string tn, .int .i64 fa, .int .i64 fb, .int .i64 f, .slice ra n rc] 26) := (hb_v7.block (D2) (Array.getElem?_eq_some_iff.1 (show v5.heap[D2]? = some (.cells #[.string ⟨#[82, 48]⟩, .string tn, .int .i64 fa, .int .i64 fb, .int .i64 f, .slice ra n rc] 26) from cR_v5)).1).trans cR_v5
      have hw_v7 : Below D2 v3 v7 := (hw_v5).trans (hb_v7.mono (by first | omega | (simp; omega)))
      clear cP_v5 cR_v5 hb_v7 y6_0 y6_1 y6_2 y6_3 y6_4 y6_5 hw_v5 hs_v7
      have ld8 : v7.heap[D2]? = some (.cells #[.string ⟨#[82, 48]⟩, .string tn, .int .i64 fa, .int .i64 fb, .int .i64 f, .slice ra n rc] 26) := cR_v7
      have y8_0 := cell6_0 ld8
      have y8_1 := cell6_1 ld8
      have y8_2 := cell6_2 ld8
      have y8_3 := cell6_3 ld8
      have y8_4 := cell6_4 ld8
      have y8_5 := cell6_5 ld8
      clear ld8
      have g4 : ¬ 0 ≤ f + number + s := by omega
      have HW := Lib.hid (show Below D w (v7) from (HB2.out.trans ((hw_v7).mono (by first | exact HB2.out.size | (rw [hD] at *; exact HB2.out.size) | (have := HB2.out.size; omega)))))
      go_wp2
      go_ret
      exact ⟨rfl, by first | exact HW.out | (rw [hD]; exact HW.out)⟩
    · skip
      have q1 : ¬ number < 0 := by omega
      have q2 : ¬ (n : Int) ≤ number := by omega
      have q3 := wrap_in (q := f + number) (by omega) (by omega)
      have q4 := wrap_in (q := f + number + s) (by omega) (by omega)
      have G7 : Gi v5 := G2.below (by first | exact hw_v5 | (rw [hD2]; exact hw_v5))
      go_wp2_with fail
      refine (SH.out _ G7).mono ?_
      rintro e v7 ⟨rfl, hb_v7⟩
      have hs_v7 := hw_v5.size
      have cP_v7 : v7.heap[D]? = some (.cells #[.int .u8 t, .int .u8 ft, .int .i8 f, .int .u8 p, .int .u8 w0, .int .u8 w1, .int .u8 w2, .int .u8 w3, .int .u8 w4] 47) := (hb_v7.block (D) (Array.getElem?_eq_some_iff.1 (show v5.heap[D]? = some (.cells #[.int .u8 t, .int .u8 ft, .int .i8 f, .int .u8 p, .int .u8 w0, .int .u8 w1, .int .u8 w2, .int .u8 w3, .int .u8 w4] 47) from cP_v5)).1).trans cP_v5
      have cR_v7 : v7.heap[D2]? = some (.cells #[.string ⟨#[82, 48]⟩, .string tn, .int .i64 fa, .int .i64 fb, .int .i64 f, .slice ra n rc] 26) := (hb_v7.block (D2) (Array.getElem?_eq_some_iff.1 (show v5.heap[D2]? = some (.cells #[.string ⟨#[82, 48]⟩, .string tn, .int .i64 fa, .int .i64 fb, .int .i64 f, .slice ra n rc] 26) from cR_v5)).1).trans cR_v5
      have hw_v7 : Below D2 v3 v7 := (hw_v5).trans (hb_v7.mono (by first | omega | (simp; omega)))
      clear cP_v5 cR_v5 hb_v7 y6_0 y6_1 y6_2 y6_3 y6_4 y6_5 hw_v5 hs_v7
      have ld8 : v7.heap[D2]? = some (.cells #[.string ⟨#[82, 48]⟩, .string tn, .int .i64 fa, .int .i64 fb, .int .i64 f, .slice ra n rc] 26) := cR_v7
      have y8_0 := cell6_0 ld8
      have y8_1 := cell6_1 ld8
      have y8_2 := cell6_2 ld8
      have y8_3 := cell6_3 ld8
      have y8_4 := cell6_4 ld8
      have y8_5 := cell6_5 ld8
      clear ld8
      have g4 : ¬ f + number + s ≤ 127 := by omega
      have HW := Lib.hid (show Below D w (v7) from (HB2.out.trans ((hw_v7).mono (by first | exact HB2.out.size | (rw [hD] at *; exact HB2.out.size) | (have := HB2.out.size; omega)))))
      go_wp2
      go_ret
      exact ⟨rfl, by first | exact HW.out | (rw [hD]; exact HW.out)⟩
end Go.Proofs.YtbkbncapgljfaaaGreatDoor
