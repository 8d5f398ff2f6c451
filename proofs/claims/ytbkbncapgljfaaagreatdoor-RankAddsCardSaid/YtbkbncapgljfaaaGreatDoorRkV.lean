/- The walk of RankPipes. -/
import Derived.Test.YtbkbncapgljfaaaGreatDoorRkU
namespace Go.Proofs.YtbkbncapgljfaaaGreatDoor
open Go Go.RowKit Go.Shelf

theorem tone_name : ∀ k, k < 3 → nameB (toneB k).data.toList = true := by decide +kernel
theorem tone_size : ∀ k, k < 3 → (toneB k).size ≤ 1099511627776 := by decide +kernel

theorem number_any (nm tn : ByteArray) (a b f : Int) (n : Nat) (X : Nat → Int) (k : Int) (s1 : nm.size ≤ 1099511627776) (s2 : tn.size ≤ 1099511627776) (hn : n ≤ 1099511627776) (hz : rkE nm tn a b f n X = 0) :
    ∃ (av : Int) (fv : Bool), (∀ (v : Value) (w : World), Wd w v n X → Calls Tryz.prog 18 #[.agg #[.string nm, .string tn, .int .i64 a, .int .i64 b, .int .i64 f, v], .int .i64 k] w fun e w' => e = .returned (.tuple #[.int .i64 av, .bool fv, .int .i64 0]) ∧ Below w.heap.size w w') ∧
      ((fv = true ∧ av = k - f ∧ f ≤ k ∧ k ≤ f + n - 1) ∨ (fv = false ∧ av = 0 ∧ k < f) ∨ (fv = false ∧ av = 0 ∧ f ≤ k ∧ f + n - 1 < k)) := by
  by_cases h1 : k < f
  · exact ⟨0, false, fun v w h => number_low nm tn a b f v n X k s1 s2 hn hz h1 w h, .inr (.inl ⟨rfl, rfl, h1⟩)⟩
  · by_cases h2 : f + n - 1 < k
    · exact ⟨0, false, fun v w h => number_high nm tn a b f v n X k s1 s2 hn hz h2 w h, .inr (.inr ⟨rfl, rfl, by omega, h2⟩)⟩
    · exact ⟨k - f, true, fun v w h => number_yes nm tn a b f v n X k s1 s2 hn hz (by omega) w h, .inl ⟨rfl, rfl, by omega, by omega⟩⟩
theorem note_any (nm tn : ByteArray) (a b f : Int) (n : Nat) (X : Nat → Int) (k : Int) (s1 : nm.size ≤ 1099511627776) (s2 : tn.size ≤ 1099511627776) (hn : n ≤ 1099511627776) (hz : rkE nm tn a b f n X = 0) :
    ∃ (bv cv ev : Int), (∀ (v : Value) (w : World), Wd w v n X → Calls Tryz.prog 19 #[.agg #[.string nm, .string tn, .int .i64 a, .int .i64 b, .int .i64 f, v], .int .i64 k] w fun e w' => e = .returned (.tuple #[.int .i64 bv, .int .i64 ev]) ∧ Below w.heap.size w w') ∧
      (∀ (v : Value) (w : World), Wd w v n X → Calls Tryz.prog 21 #[.agg #[.string nm, .string tn, .int .i64 a, .int .i64 b, .int .i64 f, v], .int .i64 k] w fun e w' => e = .returned (.tuple #[.int .i64 cv, .int .i64 ev]) ∧ Below w.heap.size w w') ∧
      ((ev = 0 ∧ ∃ m : Nat, k = m ∧ m < n ∧ bv = f + m ∧ cv = X m) ∨ (ev = 10 ∧ bv = 0 ∧ cv = 0 ∧ ¬ (0 ≤ k ∧ k < n))) := by
  by_cases h1 : 0 ≤ k ∧ k < n
  · obtain ⟨m, rfl⟩ : ∃ m : Nat, k = m := ⟨k.toNat, by omega⟩
    have hc : cpE (rkE nm tn a b f n X) m n = 0 := by unfold cpE; rw [if_pos hz, if_pos h1]
    exact ⟨f + m, X m, 0, fun v w h => note_ok nm tn a b f v n X m s1 s2 hn hc w h, fun v w h => windat_ok nm tn a b f v n X m s1 s2 hn hc w h, .inl ⟨rfl, m, rfl, by omega, rfl, rfl⟩⟩
  · have hc : cpE (rkE nm tn a b f n X) k n = 10 := by unfold cpE; rw [if_pos hz, if_neg h1]
    exact ⟨0, 0, 10, fun v w h => note_bad nm tn a b f v n X k 10 s1 s2 hn hc (by decide) w h, fun v w h => windat_bad nm tn a b f v n X k 10 s1 s2 hn hc (by decide) w h, .inr ⟨rfl, rfl, rfl, h1⟩⟩


set_option maxRecDepth 100000 in
set_option maxHeartbeats 4000000 in
theorem pipes_walk (t ft f p w0 w1 w2 w3 w4 : Int) (bt : 0 ≤ t ∧ t ≤ 255) (bft : 0 ≤ ft ∧ ft ≤ 255) (bf : -128 ≤ f ∧ f ≤ 127) (bp : 0 ≤ p ∧ p ≤ 255) (b0 : 0 ≤ w0 ∧ w0 ≤ 255) (b1 : 0 ≤ w1 ∧ w1 ≤ 255) (b2 : 0 ≤ w2 ∧ w2 ≤ 255) (b3 : 0 ≤ w3 ∧ w3 ≤ 255) (b4 : 0 ≤ w4 ∧ w4 ≤ 255) (note number : Int) (w : World) (G : Gi w) :
    Calls Tryz.prog 5 #[.agg #[.int .u8 t, .int .u8 ft, .int .i8 f, .int .u8 p, .int .u8 w0, .int .u8 w1, .int .u8 w2, .int .u8 w3, .int .u8 w4], .int .i64 note, .int .i64 number] w fun e w' => e = .returned (.bool true) ∧ Below w.heap.size w w' := by
  obtain ⟨j, hj, hx⟩ := feet_rem ft bft
  obtain ⟨tm, h3, htm⟩ := plan_tone bt
  obtain ⟨q, hq25, hq⟩ := plan_num bp
  obtain ⟨n, hn⟩ : ∃ n, q + 1 = n := ⟨_, rfl⟩
  obtain ⟨fa, hfa⟩ : ∃ a, (feetF j).1 = a := ⟨_, rfl⟩
  obtain ⟨fb, hfb⟩ : ∃ a, (feetF j).2 = a := ⟨_, rfl⟩
  obtain ⟨tn, htn⟩ : ∃ a, toneB tm = a := ⟨_, rfl⟩
  obtain ⟨X, hX⟩ : ∃ a, xw w0 w1 w2 w3 w4 = a := ⟨_, rfl⟩
  have MK := Lib.hid (fun W => make_c0 t ft f p w0 w1 w2 w3 w4 bt bft bf bp b0 b1 b2 b3 b4 j tm q hj hx h3 htm hq25 hq W)
  have hpk := feetF_pk j hj
  have hnt := tone_name tm h3
  have hXb := fun k => xw_bd b0 b1 b2 b3 b4 k
  have ts := tone_size tm h3
  rw [hfa, hfb, htn, hn, hX] at MK
  rw [hfa, hfb] at hpk
  rw [htn] at hnt ts
  rw [hX] at hXb
  have hn1 : 1 ≤ n ∧ n ≤ 25 := by omega
  have hz : rkE ⟨#[82, 48]⟩ tn fa fb f n X = 0 := rk_of (by decide +kernel) hnt hpk (by omega) (by omega) (by omega) (fun k _ => by have := hXb k; omega)
  have ns : n ≤ 1099511627776 := by omega
  clear hj hx htm hq hfa hfb htn hX h3 hn hnt hq25 bt bft bp b0 b1 b2 b3 b4
  obtain ⟨_, _, _, hf, hn0, hn128, hx⟩ := rk_ok hz
  have HX := Lib.hid (sumI_bd hx)
  have HS := Lib.hid (fun k => show sumI X (k + 1) = sumI X k + X k from rfl)
  obtain ⟨av, fv, hNU, hav⟩ := number_any ⟨#[82, 48]⟩ tn fa fb f n X note (by decide) ts ns hz
  obtain ⟨bv, cv, ev, hNO, hWI, hbv⟩ := note_any ⟨#[82, 48]⟩ tn fa fb f n X number (by decide) ts ns hz
  have KN := Lib.hid (fun W G => known_c W G)
  have NU := Lib.hid hNU
  have NO := Lib.hid hNO
  have WI := Lib.hid hWI
  have LA := Lib.hid (fun v W h => last_ok ⟨#[82, 48]⟩ tn fa fb f v n X (by decide) ts ns hz W h)
  have TO := Lib.hid (fun v W h => total_ok ⟨#[82, 48]⟩ tn fa fb f v n X (by decide) ts ns hz W h)
  have HA := Lib.hid hav
  have HBV := Lib.hid hbv
  have q1 := wrap_in (q := f + (n : Int)) (by omega) (by omega)
  have q2 := wrap_in (q := f + (n : Int) - 1) (by omega) (by omega)
  clear hNU hNO hWI hav hbv hz hx ns ts hpk hXb hn1 hf
  obtain ⟨D, hD⟩ : ∃ D, w.heap.size = D := ⟨_, rfl⟩
  go_enter Tryz.func5, Tryz.ntmps5
  have G1 : Gi (w.alloc (.cells #[.int .u8 t, .int .u8 ft, .int .i8 f, .int .u8 p, .int .u8 w0, .int .u8 w1, .int .u8 w2, .int .u8 w3, .int .u8 w4] 47)) := G.below (by first | exact ((Below.refl _ w).alloc (by first | omega | (simp; omega)) (.cells #[.int .u8 t, .int .u8 ft, .int .i8 f, .int .u8 p, .int .u8 w0, .int .u8 w1, .int .u8 w2, .int .u8 w3, .int .u8 w4] 47)) | (rw [hD]; exact ((Below.refl _ w).alloc (by first | omega | (simp; omega)) (.cells #[.int .u8 t, .int .u8 ft, .int .i8 f, .int .u8 p, .int .u8 w0, .int .u8 w1, .int .u8 w2, .int .u8 w3, .int .u8 w4] 47))))
  go_wp2_with fail
  refine (KN.out _ G1).mono ?_
  rintro e v1 ⟨rfl, hb_v1⟩
  have cP_v1 : v1.heap[D]? = some (.cells #[.int .u8 t, .int .u8 ft, .int .i8 f, .int .u8 p, .int .u8 w0, .int .u8 w1, .int .u8 w2, .int .u8 w3, .int .u8 w4] 47) := (hb_v1.block (D) (Array.getElem?_eq_some_iff.1 (show (w.alloc (.cells #[.int .u8 t, .int .u8 ft, .int .i8 f, .int .u8 p, .int .u8 w0, .int .u8 w1, .int .u8 w2, .int .u8 w3, .int .u8 w4] 47)).heap[D]? = some (.cells #[.int .u8 t, .int .u8 ft, .int .i8 f, .int .u8 p, .int .u8 w0, .int .u8 w1, .int .u8 w2, .int .u8 w3, .int .u8 w4] 47) from (heap_new (by first | omega | (simp; omega))))).1).trans (heap_new (by first | omega | (simp; omega)))
  have hw_v1 : Below D w v1 := (((Below.refl _ w).alloc (by first | omega | (simp; omega)) (.cells #[.int .u8 t, .int .u8 ft, .int .i8 f, .int .u8 p, .int .u8 w0, .int .u8 w1, .int .u8 w2, .int .u8 w3, .int .u8 w4] 47))).trans (hb_v1.mono (by first | omega | (simp; omega)))
  clear hb_v1
  have ld2 : v1.heap[D]? = some (.cells #[.int .u8 t, .int .u8 ft, .int .i8 f, .int .u8 p, .int .u8 w0, .int .u8 w1, .int .u8 w2, .int .u8 w3, .int .u8 w4] 47) := cP_v1
  obtain ⟨y2_0, y2_1, y2_2, y2_3, y2_4, y2_5, y2_6, y2_7, y2_8⟩ := plan_cells ld2
  clear ld2
  go_wp2_with fail
  refine (MK.out _).mono ?_
  rintro e v3 ⟨⟨v0, rfl, hwd⟩, hb_v3⟩
  have hs_v3 := hw_v1.size
  have cP_v3 : v3.heap[D]? = some (.cells #[.int .u8 t, .int .u8 ft, .int .i8 f, .int .u8 p, .int .u8 w0, .int .u8 w1, .int .u8 w2, .int .u8 w3, .int .u8 w4] 47) := (hb_v3.block (D) (Array.getElem?_eq_some_iff.1 (show v1.heap[D]? = some (.cells #[.int .u8 t, .int .u8 ft, .int .i8 f, .int .u8 p, .int .u8 w0, .int .u8 w1, .int .u8 w2, .int .u8 w3, .int .u8 w4] 47) from cP_v1)).1).trans cP_v1
  have hw_v3 : Below D w v3 := (hw_v1).trans (hb_v3.mono (by first | omega | (simp; omega)))
  clear cP_v1 hb_v3 y2_0 y2_1 y2_2 y2_3 y2_4 y2_5 y2_6 y2_7 y2_8 hw_v1 hs_v3
  obtain ⟨ra, rc, rfl⟩ := hwd.len
  have hR := Lib.hid hwd
  clear hwd
  obtain ⟨D2, hD2⟩ : ∃ D, v3.heap.size = D := ⟨_, rfl⟩
  have G2 : Gi v3 := G.below (by first | exact hw_v3 | (rw [hD]; exact hw_v3))
  have HB2 := Lib.hid (hw_v3)
  clear hw_v3
  have ld4 : (v3.alloc (.cells #[.string ⟨#[82, 48]⟩, .string tn, .int .i64 fa, .int .i64 fb, .int .i64 f, .slice ra n rc] 26)).heap[D2]? = some (.cells #[.string ⟨#[82, 48]⟩, .string tn, .int .i64 fa, .int .i64 fb, .int .i64 f, .slice ra n rc] 26) := (heap_new (by first | omega | (simp; omega)))
  have y4_0 := cell6_0 ld4
  have y4_1 := cell6_1 ld4
  have y4_2 := cell6_2 ld4
  have y4_3 := cell6_3 ld4
  have y4_4 := cell6_4 ld4
  have y4_5 := cell6_5 ld4
  clear ld4
  have W2 : Wd (v3.alloc (.cells #[.string ⟨#[82, 48]⟩, .string tn, .int .i64 fa, .int .i64 fb, .int .i64 f, .slice ra n rc] 26)) (.slice ra n rc) n X := hR.out.below (by first | exact ((Below.refl _ v3).alloc (by first | omega | (simp; omega)) (.cells #[.string ⟨#[82, 48]⟩, .string tn, .int .i64 fa, .int .i64 fb, .int .i64 f, .slice ra n rc] 26)) | (rw [hD2]; exact ((Below.refl _ v3).alloc (by first | omega | (simp; omega)) (.cells #[.string ⟨#[82, 48]⟩, .string tn, .int .i64 fa, .int .i64 fb, .int .i64 f, .slice ra n rc] 26))))
  go_wp2_with fail
  refine (NU.out _ _ W2).mono ?_
  rintro e v5 ⟨rfl, hb_v5⟩
  have cP_v5 : v5.heap[D]? = some (.cells #[.int .u8 t, .int .u8 ft, .int .i8 f, .int .u8 p, .int .u8 w0, .int .u8 w1, .int .u8 w2, .int .u8 w3, .int .u8 w4] 47) := (hb_v5.block (D) (Array.getElem?_eq_some_iff.1 (show (v3.alloc (.cells #[.string ⟨#[82, 48]⟩, .string tn, .int .i64 fa, .int .i64 fb, .int .i64 f, .slice ra n rc] 26)).heap[D]? = some (.cells #[.int .u8 t, .int .u8 ft, .int .i8 f, .int .u8 p, .int .u8 w0, .int .u8 w1, .int .u8 w2, .int .u8 w3, .int .u8 w4] 47) from (heap_old (o := .cells #[.string ⟨#[82, 48]⟩, .string tn, .int .i64 fa, .int .i64 fb, .int .i64 f, .slice ra n rc] 26) cP_v3))).1).trans (heap_old (o := .cells #[.string ⟨#[82, 48]⟩, .string tn, .int .i64 fa, .int .i64 fb, .int .i64 f, .slice ra n rc] 26) cP_v3)
  have cR_v5 : v5.heap[D2]? = some (.cells #[.string ⟨#[82, 48]⟩, .string tn, .int .i64 fa, .int .i64 fb, .int .i64 f, .slice ra n rc] 26) := (hb_v5.block (D2) (Array.getElem?_eq_some_iff.1 (show (v3.alloc (.cells #[.string ⟨#[82, 48]⟩, .string tn, .int .i64 fa, .int .i64 fb, .int .i64 f, .slice ra n rc] 26)).heap[D2]? = some (.cells #[.string ⟨#[82, 48]⟩, .string tn, .int .i64 fa, .int .i64 fb, .int .i64 f, .slice ra n rc] 26) from (heap_new (by first | omega | (simp; omega))))).1).trans (heap_new (by first | omega | (simp; omega)))
  have hw_v5 : Below D2 v3 v5 := (((Below.refl _ v3).alloc (by first | omega | (simp; omega)) (.cells #[.string ⟨#[82, 48]⟩, .string tn, .int .i64 fa, .int .i64 fb, .int .i64 f, .slice ra n rc] 26))).trans (hb_v5.mono (by first | omega | (simp; omega)))
  clear cP_v3 hb_v5 y4_0 y4_1 y4_2 y4_3 y4_4 y4_5
  have ld6 : v5.heap[D2]? = some (.cells #[.string ⟨#[82, 48]⟩, .string tn, .int .i64 fa, .int .i64 fb, .int .i64 f, .slice ra n rc] 26) := cR_v5
  have y6_0 := cell6_0 ld6
  have y6_1 := cell6_1 ld6
  have y6_2 := cell6_2 ld6
  have y6_3 := cell6_3 ld6
  have y6_4 := cell6_4 ld6
  have y6_5 := cell6_5 ld6
  clear ld6
  have W3 : Wd v5 (.slice ra n rc) n X := hR.out.below (by first | exact hw_v5 | (rw [hD2]; exact hw_v5))
  go_wp2_with fail
  refine (NO.out _ _ W3).mono ?_
  rintro e v7 ⟨rfl, hb_v7⟩
  have hs_v7 := hw_v5.size
  have cP_v7 : v7.heap[D]? = some (.cells #[.int .u8 t, .int .u8 ft, .int .i8 f, .int .u8 p, .int .u8 w0, .int .u8 w1, .int .u8 w2, .int .u8 w3, .int .u8 w4] 47) := (hb_v7.block (D) (Array.getElem?_eq_some_iff.1 (show v5.heap[D]? = some (.cells #[.int .u8 t, .int .u8 ft, .int .i8 f, .int .u8 p, .int .u8 w0, .int .u8 w1, .int .u8 w2, .int .u8 w3, .int .u8 w4] 47) from cP_v5)).1).trans cP_v5
  have cR_v7 : v7.heap[D2]? = some (.cells #[.string ⟨#[82, 48]⟩, .string tn, .int .i64 fa, .int .i64 fb, .int .i64 f, .slice ra n rc] 26) := (hb_v7.block (D2) (Array.getElem?_eq_some_iff.1 (show v5.heap[D2]? = some (.cells #[.string ⟨#[82, 48]⟩, .string tn, .int .i64 fa, .int .i64 fb, .int .i64 f, .slice ra n rc] 26) from cR_v5)).1).trans cR_v5
  have hw_v7 : Below D2 v3 v7 := (hw_v5).trans (hb_v7.mono (by first | omega | (simp; omega)))
  clear cP_v5 cR_v5 hb_v7 y6_0 y6_1 y6_2 y6_3 y6_4 y6_5 hw_v5 hs_v7
  have ld8 : v7.heap[D2]? = some (.cells #[.string ⟨#[82, 48]⟩, .string tn, .int .i64 fa, .int .i64 fb, .int .i64 f, .slice ra n rc] 26) := cR_v7
  have y8_0 := cell6_0 ld8
  have y8_1 := cell6_1 ld8
  have y8_2 := cell6_2 ld8
  have y8_3 := cell6_3 ld8
  have y8_4 := cell6_4 ld8
  have y8_5 := cell6_5 ld8
  clear ld8
  have W4 : Wd v7 (.slice ra n rc) n X := hR.out.below (by first | exact hw_v7 | (rw [hD2]; exact hw_v7))
  go_wp2_with fail
  refine (WI.out _ _ W4).mono ?_
  rintro e v9 ⟨rfl, hb_v9⟩
  have hs_v9 := hw_v7.size
  have cP_v9 : v9.heap[D]? = some (.cells #[.int .u8 t, .int .u8 ft, .int .i8 f, .int .u8 p, .int .u8 w0, .int .u8 w1, .int .u8 w2, .int .u8 w3, .int .u8 w4] 47) := (hb_v9.block (D) (Array.getElem?_eq_some_iff.1 (show v7.heap[D]? = some (.cells #[.int .u8 t, .int .u8 ft, .int .i8 f, .int .u8 p, .int .u8 w0, .int .u8 w1, .int .u8 w2, .int .u8 w3, .int .u8 w4] 47) from cP_v7)).1).trans cP_v7
  have cR_v9 : v9.heap[D2]? = some (.cells #[.string ⟨#[82, 48]⟩, .string tn, .int .i64 fa, .int .i64 fb, .int .i64 f, .slice ra n rc] 26) := (hb_v9.block (D2) (Array.getElem?_eq_some_iff.1 (show v7.heap[D2]? = some (.cells #[.string ⟨#[82, 48]⟩, .string tn, .int .i64 fa, .int .i64 fb, .int .i64 f, .slice ra n rc] 26) from cR_v7)).1).trans cR_v7
  have hw_v9 : Below D2 v3 v9 := (hw_v7).trans (hb_v9.mono (by first | omega | (simp; omega)))
  clear cP_v7 cR_v7 hb_v9 y8_0 y8_1 y8_2 y8_3 y8_4 y8_5 hw_v7 hs_v9
  have ld10 : v9.heap[D2]? = some (.cells #[.string ⟨#[82, 48]⟩, .string tn, .int .i64 fa, .int .i64 fb, .int .i64 f, .slice ra n rc] 26) := cR_v9
  have y10_0 := cell6_0 ld10
  have y10_1 := cell6_1 ld10
  have y10_2 := cell6_2 ld10
  have y10_3 := cell6_3 ld10
  have y10_4 := cell6_4 ld10
  have y10_5 := cell6_5 ld10
  clear ld10
  have W5 : Wd v9 (.slice ra n rc) n X := hR.out.below (by first | exact hw_v9 | (rw [hD2]; exact hw_v9))
  go_wp2_with fail
  refine (LA.out _ _ W5).mono ?_
  rintro e v11 ⟨rfl, hb_v11⟩
  have hs_v11 := hw_v9.size
  have cP_v11 : v11.heap[D]? = some (.cells #[.int .u8 t, .int .u8 ft, .int .i8 f, .int .u8 p, .int .u8 w0, .int .u8 w1, .int .u8 w2, .int .u8 w3, .int .u8 w4] 47) := (hb_v11.block (D) (Array.getElem?_eq_some_iff.1 (show v9.heap[D]? = some (.cells #[.int .u8 t, .int .u8 ft, .int .i8 f, .int .u8 p, .int .u8 w0, .int .u8 w1, .int .u8 w2, .int .u8 w3, .int .u8 w4] 47) from cP_v9)).1).trans cP_v9
  have cR_v11 : v11.heap[D2]? = some (.cells #[.string ⟨#[82, 48]⟩, .string tn, .int .i64 fa, .int .i64 fb, .int .i64 f, .slice ra n rc] 26) := (hb_v11.block (D2) (Array.getElem?_eq_some_iff.1 (show v9.heap[D2]? = some (.cells #[.string ⟨#[82, 48]⟩, .string tn, .int .i64 fa, .int .i64 fb, .int .i64 f, .slice ra n rc] 26) from cR_v9)).1).trans cR_v9
  have hw_v11 : Below D2 v3 v11 := (hw_v9).trans (hb_v11.mono (by first | omega | (simp; omega)))
  clear cP_v9 cR_v9 hb_v11 y10_0 y10_1 y10_2 y10_3 y10_4 y10_5 hw_v9 hs_v11
  have ld12 : v11.heap[D2]? = some (.cells #[.string ⟨#[82, 48]⟩, .string tn, .int .i64 fa, .int .i64 fb, .int .i64 f, .slice ra n rc] 26) := cR_v11
  have y12_0 := cell6_0 ld12
  have y12_1 := cell6_1 ld12
  have y12_2 := cell6_2 ld12
  have y12_3 := cell6_3 ld12
  have y12_4 := cell6_4 ld12
  have y12_5 := cell6_5 ld12
  clear ld12
  have W6 : Wd v11 (.slice ra n rc) n X := hR.out.below (by first | exact hw_v11 | (rw [hD2]; exact hw_v11))
  go_wp2_with fail
  refine (TO.out _ _ W6).mono ?_
  rintro e v13 ⟨rfl, hb_v13⟩
  have hs_v13 := hw_v11.size
  have cP_v13 : v13.heap[D]? = some (.cells #[.int .u8 t, .int .u8 ft, .int .i8 f, .int .u8 p, .int .u8 w0, .int .u8 w1, .int .u8 w2, .int .u8 w3, .int .u8 w4] 47) := (hb_v13.block (D) (Array.getElem?_eq_some_iff.1 (show v11.heap[D]? = some (.cells #[.int .u8 t, .int .u8 ft, .int .i8 f, .int .u8 p, .int .u8 w0, .int .u8 w1, .int .u8 w2, .int .u8 w3, .int .u8 w4] 47) from cP_v11)).1).trans cP_v11
  have cR_v13 : v13.heap[D2]? = some (.cells #[.string ⟨#[82, 48]⟩, .string tn, .int .i64 fa, .int .i64 fb, .int .i64 f, .slice ra n rc] 26) := (hb_v13.block (D2) (Array.getElem?_eq_some_iff.1 (show v11.heap[D2]? = some (.cells #[.string ⟨#[82, 48]⟩, .string tn, .int .i64 fa, .int .i64 fb, .int .i64 f, .slice ra n rc] 26) from cR_v11)).1).trans cR_v11
  have hw_v13 : Below D2 v3 v13 := (hw_v11).trans (hb_v13.mono (by first | omega | (simp; omega)))
  clear cP_v11 cR_v11 hb_v13 y12_0 y12_1 y12_2 y12_3 y12_4 y12_5 hw_v11 hs_v13
  have ld14 : v13.heap[D2]? = some (.cells #[.string ⟨#[82, 48]⟩, .string tn, .int .i64 fa, .int .i64 fb, .int .i64 f, .slice ra n rc] 26) := cR_v13
  have y14_0 := cell6_0 ld14
  have y14_1 := cell6_1 ld14
  have y14_2 := cell6_2 ld14
  have y14_3 := cell6_3 ld14
  have y14_4 := cell6_4 ld14
  have y14_5 := cell6_5 ld14
  clear ld14
  have W7 : Wd v13 (.slice ra n rc) n X := hR.out.below (by first | exact hw_v13 | (rw [hD2]; exact hw_v13))
  have HY := Lib.hid W7
  have HW := Lib.hid (show Below D w (v13) from (HB2.out.trans ((hw_v13).mono (by first | exact HB2.out.size | (rw [hD] at *; exact HB2.out.size) | (have := HB2.out.size; omega)))))
  clear W7 hw_v13
  go_wp2_with fail
  go_loopw [20, 21] (fun s i wr => ∃ k : Nat, k ≤ n ∧ s = .int .i64 (sumI X k) ∧ i = .int .i64 (k : Int) ∧ wr = v13) (fun _ i _ => (n - intOf i).toNat)
  case atStart => exact ⟨0, Nat.zero_le _, rfl, rfl, by first | rfl | trivial⟩
  case round =>
    obtain ⟨k, hk, rfl, rfl, hwr⟩ := hrel
    subst wr
    by_cases hkn : k < n
    · have hki : (k : Int) < n := by omega
      obtain ⟨g, o, c, e0, hc, hg, c0⟩ := HY.out.at hkn
      cases e0
      have b1 := HX.out k hk
      have b2 := HX.out (k + 1) hkn
      rw [HS.out] at b2
      have q1 := wrap_in (q := sumI X k + X k) (by omega) (by omega)
      have q2 := wrap_in (q := (k : Int) + 1) (by omega) (by omega)
      go_wp2_with fail
      go_roundw
      case rel => exact ⟨k + 1, hkn, by rw [HS.out], rfl, by first | rfl | trivial⟩
      case measure => simp [intOf]; omega
    · obtain rfl : k = n := by omega
      have hki : ¬ (k : Int) < k := by omega
      obtain ⟨sk, hsk⟩ : ∃ s, sumI X k = s := ⟨_, rfl⟩
      rw [hsk]
      have hA := HA.out
      have hB := HBV.out
      rcases hA with ⟨rfl, rfl, g1, g2⟩ | ⟨rfl, rfl, g1⟩ | ⟨rfl, rfl, g1, g2⟩
      · have q3 := wrap_in (q := note - f) (by omega) (by omega)
        rcases hB with ⟨rfl, m, rfl, g3, rfl, rfl⟩ | ⟨rfl, rfl, rfl, g3⟩
        · have g5 : ¬ (m : Int) < 0 := by omega
          have g6 : ¬ (k : Int) ≤ (m : Int) := by omega
          have g7 : (m : Int) < (k : Int) := by omega
          have q4 := wrap_in (q := f + (m : Int)) (by omega) (by omega)
          obtain ⟨g, o, c, e0, hc, hg, c0⟩ := HY.out.at g3
          cases e0
          go_wp2
          go_ret
          exact ⟨rfl, by first | exact HW.out | (rw [hD]; exact HW.out)⟩
        · by_cases g5 : number < 0
          · go_wp2
            go_ret
            exact ⟨rfl, by first | exact HW.out | (rw [hD]; exact HW.out)⟩
          · have g6 : (k : Int) ≤ number := by omega
            go_wp2
            go_ret
            exact ⟨rfl, by first | exact HW.out | (rw [hD]; exact HW.out)⟩
      · have g4 : ¬ f ≤ note := by omega
        rcases hB with ⟨rfl, m, rfl, g3, rfl, rfl⟩ | ⟨rfl, rfl, rfl, g3⟩
        · have g5 : ¬ (m : Int) < 0 := by omega
          have g6 : ¬ (k : Int) ≤ (m : Int) := by omega
          have g7 : (m : Int) < (k : Int) := by omega
          have q4 := wrap_in (q := f + (m : Int)) (by omega) (by omega)
          obtain ⟨g, o, c, e0, hc, hg, c0⟩ := HY.out.at g3
          cases e0
          go_wp2
          go_ret
          exact ⟨rfl, by first | exact HW.out | (rw [hD]; exact HW.out)⟩
        · by_cases g5 : number < 0
          · go_wp2
            go_ret
            exact ⟨rfl, by first | exact HW.out | (rw [hD]; exact HW.out)⟩
          · have g6 : (k : Int) ≤ number := by omega
            go_wp2
            go_ret
            exact ⟨rfl, by first | exact HW.out | (rw [hD]; exact HW.out)⟩
      · have g4 : ¬ note ≤ f + (k : Int) - 1 := by omega
        rcases hB with ⟨rfl, m, rfl, g3, rfl, rfl⟩ | ⟨rfl, rfl, rfl, g3⟩
        · have g5 : ¬ (m : Int) < 0 := by omega
          have g6 : ¬ (k : Int) ≤ (m : Int) := by omega
          have g7 : (m : Int) < (k : Int) := by omega
          have q4 := wrap_in (q := f + (m : Int)) (by omega) (by omega)
          obtain ⟨g, o, c, e0, hc, hg, c0⟩ := HY.out.at g3
          cases e0
          go_wp2
          go_ret
          exact ⟨rfl, by first | exact HW.out | (rw [hD]; exact HW.out)⟩
        · by_cases g5 : number < 0
          · go_wp2
            go_ret
            exact ⟨rfl, by first | exact HW.out | (rw [hD]; exact HW.out)⟩
          · have g6 : (k : Int) ≤ number := by omega
            go_wp2
            go_ret
            exact ⟨rfl, by first | exact HW.out | (rw [hD]; exact HW.out)⟩
end Go.Proofs.YtbkbncapgljfaaaGreatDoor
