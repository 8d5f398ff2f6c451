/- The walk of RankSlices. -/
import Derived.Test.YtbkbncapgljfaaaGreatDoorRkZ
namespace Go.Proofs.YtbkbncapgljfaaaGreatDoor
open Go Go.RowKit Go.Shelf

theorem wd_congr {W : World} {v : Value} {n : Nat} {X Y : Nat → Int} (h : Wd W v n X) (e : ∀ j, j < n → X j = Y j) : Wd W v n Y := by
  rcases h with h | ⟨g, o, cap, h1, h2, h3, h4⟩
  · exact .inl h
  · exact .inr ⟨g, o, cap, h1, h2, h3, fun k hk => by rw [← e k hk]; exact h4 k hk⟩
theorem wd_pre {W : World} {g o n cap q : Nat} {X : Nat → Int} (h : Wd W (.slice (some ⟨g, o, none⟩) n cap) n X) (hq : q ≤ n) (h0 : 0 < q) : Wd W (.slice (some ⟨g, o, none⟩) q cap) q X := by
  rcases h with ⟨h0, _⟩ | ⟨g', o', cap', e, h1, h2, h3⟩
  · omega
  · cases e
    exact .inr ⟨g, o, cap, rfl, by omega, h2, fun j hj => h3 j (by omega)⟩
theorem sl0_at (g o n cp q : Nat) (h1 : 0 < q) (h2 : q ≤ n) (h3 : n ≤ cp) (W : World) : (Instr.sliceAt 24 (.slice (some ⟨g, o, none⟩) n cp) none (some (.int .i64 (q : Int))) none).run Tryz.prog W = .ok (.slice (some ⟨g, o, none⟩) q cp) W := by
  have e2 : ¬ cp = 0 := by omega
  have e3 : (q : Int) ≤ (cp : Int) := by omega
  have hu := Tryz.underlying24
  simp [go_sem, Instr.sliceAt, run_slice_h, hu, sliced, e2, Addr.add, e3]
  try omega
theorem slice_any (nm tn : ByteArray) (a b f : Int) (n : Nat) (X : Nat → Int) (k p : Int) (s1 : nm.size ≤ 1099511627776) (s2 : tn.size ≤ 1099511627776) (hn : n ≤ 1099511627776) (h1 : rkE nm tn a b f n X = 0) :
    ∃ (Nm Tn : ByteArray) (A B Fv : Int) (m : Nat) (Y : Nat → Int) (ev : Int), (∀ (sa : Option Addr) (cp : Nat) (w : World), Wd w (.slice sa n cp) n X → Calls Tryz.prog 24 #[.agg #[.string nm, .string tn, .int .i64 a, .int .i64 b, .int .i64 f, .slice sa n cp], .int .i64 k, .int .i64 p] w fun e w' => (∃ sr cr, e = .returned (.tuple #[.agg #[.string Nm, .string Tn, .int .i64 A, .int .i64 B, .int .i64 Fv, .slice sr m cr], .int .i64 ev]) ∧ Wd w' (.slice sr m cr) m Y) ∧ Below w.heap.size w w') ∧
      ((¬ (0 ≤ k ∧ k < n) ∧ ev = 10 ∧ Nm = ⟨#[]⟩ ∧ Tn = ⟨#[]⟩ ∧ A = 0 ∧ B = 0 ∧ Fv = 0 ∧ m = 0 ∧ X = Y) ∨ ((0 ≤ k ∧ k < n) ∧ ¬ (1 ≤ p ∧ p ≤ n - k) ∧ ev = 3 ∧ Nm = ⟨#[]⟩ ∧ Tn = ⟨#[]⟩ ∧ A = 0 ∧ B = 0 ∧ Fv = 0 ∧ m = 0 ∧ X = Y) ∨ (∃ k' p' : Nat, k = k' ∧ p = p' ∧ 1 ≤ p' ∧ p' + k' ≤ n ∧ ev = 0 ∧ nm = Nm ∧ tn = Tn ∧ a = A ∧ b = B ∧ f + k' = Fv ∧ p' = m ∧ (fun j => X (k' + j)) = Y)) := by
  by_cases h2 : 0 ≤ k ∧ k < n
  · have hc : cpE (rkE nm tn a b f n X) k n = 0 := by unfold cpE; rw [if_pos h1, if_pos h2]
    by_cases h3 : 1 ≤ p ∧ p ≤ n - k
    · obtain ⟨k', rfl⟩ : ∃ m : Nat, k = m := ⟨k.toNat, by omega⟩
      obtain ⟨p', rfl⟩ : ∃ m : Nat, p = m := ⟨p.toNat, by omega⟩
      exact ⟨_, _, _, _, _, _, _, _, fun sa cp w h => slice_ok nm tn a b f sa n cp X k' p' s1 s2 hn hc (by omega) (by omega) w h, .inr (.inr ⟨k', p', rfl, rfl, by omega, by omega, rfl, rfl, rfl, rfl, rfl, rfl, rfl, rfl⟩)⟩
    · exact ⟨_, _, _, _, _, _, _, _, fun sa cp w h => (slice_range nm tn a b f sa n cp X k p s1 s2 hn hc h3 w h).mono (fun e w' ⟨he, hb⟩ => ⟨⟨none, 0, he, wd_nil w' X⟩, hb⟩), .inr (.inl ⟨h2, h3, rfl, rfl, rfl, rfl, rfl, rfl, rfl, rfl⟩)⟩
  · have hc : cpE (rkE nm tn a b f n X) k n = 10 := by unfold cpE; rw [if_pos h1, if_neg h2]
    exact ⟨_, _, _, _, _, _, _, _, fun sa cp w h => (slice_bad nm tn a b f sa n cp X k p 10 s1 s2 hn hc (by decide) w h).mono (fun e w' ⟨he, hb⟩ => ⟨⟨none, 0, he, wd_nil w' X⟩, hb⟩), .inl ⟨h2, rfl, rfl, rfl, rfl, rfl, rfl, rfl, rfl⟩⟩
theorem slice_low (nm tn : ByteArray) (a b f : Int) (n : Nat) (X : Nat → Int) (k : Nat) (s1 : nm.size ≤ 1099511627776) (s2 : tn.size ≤ 1099511627776) (hn : n ≤ 1099511627776) (h1 : rkE nm tn a b f n X = 0) (hk : 1 ≤ k) (hk2 : k ≤ n) (sa : Option Addr) (cp : Nat) (w : World) (h : Wd w (.slice sa n cp) n X) :
    Calls Tryz.prog 24 #[.agg #[.string nm, .string tn, .int .i64 a, .int .i64 b, .int .i64 f, .slice sa n cp], .int .i64 0, .int .i64 k] w fun e w' => (∃ sr cr, e = .returned (.tuple #[.agg #[.string nm, .string tn, .int .i64 a, .int .i64 b, .int .i64 f, .slice sr k cr], .int .i64 0]) ∧ Wd w' (.slice sr k cr) k X) ∧ Below w.heap.size w w' := by
  have hc : cpE (rkE nm tn a b f n X) ((0 : Nat) : Int) n = 0 := by unfold cpE; rw [if_pos h1, if_pos (by omega)]
  have h3 := slice_ok nm tn a b f sa n cp X 0 k s1 s2 hn hc hk (by omega) w h
  simp only [Int.natCast_zero, Int.add_zero, Nat.zero_add] at h3
  exact h3
theorem pieces_join (nm tn : ByteArray) (a b f : Int) (n : Nat) (X : Nat → Int) (k p : Nat) (s1 : nm.size ≤ 1099511627776) (s2 : tn.size ≤ 1099511627776) (h1 : rkE nm tn a b f n X = 0) (hf : -128 ≤ f ∧ f ≤ 128) (hk : 1 ≤ k) (hp : 1 ≤ p) (hkp : p + k ≤ n) (sa : Option Addr) (cp : Nat) (sb : Option Addr) (cq : Nat) (w : World) (hA : Wd w (.slice sa k cp) k X) (hB : Wd w (.slice sb p cq) p (fun j => X (k + j))) :
    Calls Tryz.prog 27 #[.agg #[.string nm, .string tn, .int .i64 a, .int .i64 b, .int .i64 f, .slice sa k cp], .agg #[.string nm, .string tn, .int .i64 a, .int .i64 b, .int .i64 (f + k), .slice sb p cq]] w fun e w' => (∃ sr cr, e = .returned (.tuple #[.agg #[.string nm, .string tn, .int .i64 a, .int .i64 b, .int .i64 f, .slice sr (k + p) cr], .int .i64 0]) ∧ Wd w' (.slice sr (k + p) cr) (k + p) X ∧ NewS w.heap.size (.slice sr (k + p) cr)) ∧ Below w.heap.size w w' := by
  obtain ⟨n1, n2, hp0, hf0, hn0, hn1, hx⟩ := rk_ok h1
  have e1 : rkE nm tn a b f k X = 0 := rk_of n1 n2 hp0 hf0 (by omega) (by omega) (fun i hi => hx i (by omega))
  have e2 : rkE nm tn a b (f + k) p (fun j => X (k + j)) = 0 := rk_of n1 n2 hp0 (by omega) (by omega) (by omega) (fun i hi => hx (k + i) (by omega))
  refine (join_ok nm tn a b f sa k cp X nm (f + k) sb p cq (fun j => X (k + j)) s1 s2 (by omega) s1 (by omega) e1 e2 rfl (by omega) w hA hB).mono ?_
  rintro e w' ⟨⟨sr, cr, rfl, hw, hN⟩, hb⟩
  refine ⟨⟨sr, cr, rfl, wd_congr hw (fun j hj => ?_), hN⟩, hb⟩
  by_cases h : j < k
  · rw [if_pos h]
  · rw [if_neg h]; show X (k + (j - k)) = X j; rw [show k + (j - k) = j by omega]


set_option maxRecDepth 100000 in
set_option maxHeartbeats 4000000 in
theorem slices_walk (t ft f p w0 w1 w2 w3 w4 : Int) (bt : 0 ≤ t ∧ t ≤ 255) (bft : 0 ≤ ft ∧ ft ≤ 255) (bf : -128 ≤ f ∧ f ≤ 127) (bp : 0 ≤ p ∧ p ≤ 255) (b0 : 0 ≤ w0 ∧ w0 ≤ 255) (b1 : 0 ≤ w1 ∧ w1 ≤ 255) (b2 : 0 ≤ w2 ∧ w2 ≤ 255) (b3 : 0 ≤ w3 ∧ w3 ≤ 255) (b4 : 0 ≤ w4 ∧ w4 ≤ 255) (fr pp : Int) (w : World) (G : Gi w) :
    Calls Tryz.prog 7 #[.agg #[.int .u8 t, .int .u8 ft, .int .i8 f, .int .u8 p, .int .u8 w0, .int .u8 w1, .int .u8 w2, .int .u8 w3, .int .u8 w4], .int .i64 fr, .int .i64 pp] w fun e w' => e = .returned (.bool true) ∧ Below w.heap.size w w' := by
  obtain ⟨j, hj, hx⟩ := feet_rem ft bft
  obtain ⟨tm, h3, htm⟩ := plan_tone bt
  obtain ⟨q, hq25, hq⟩ := plan_num bp
  obtain ⟨n, hn⟩ : ∃ n, q + 1 = n := ⟨_, rfl⟩
  obtain ⟨fa, hfa⟩ : ∃ a, (feetF j).1 = a := ⟨_, rfl⟩
  obtain ⟨fb, hfb⟩ : ∃ a, (feetF j).2 = a := ⟨_, rfl⟩
  obtain ⟨tn, htn⟩ : ∃ a, toneB tm = a := ⟨_, rfl⟩
  obtain ⟨X, hX⟩ : ∃ a, xw w0 w1 w2 w3 w4 = a := ⟨_, rfl⟩
  have MK := Lib.hid (fun W => make_c0 t ft f p w0 w1 w2 w3 w4 bt bft bf bp b0 b1 b2 b3 b4 j tm q hj hx h3 htm hq25 hq W)
  have hpk := feetF_pk j hj
  have hnt := tone_name tm h3
  have hXb := fun k => xw_bd b0 b1 b2 b3 b4 k
  have ts := tone_size tm h3
  rw [hfa, hfb, htn, hn, hX] at MK
  rw [hfa, hfb] at hpk
  rw [htn] at hnt ts
  rw [hX] at hXb
  have hn1 : 1 ≤ n ∧ n ≤ 25 := by omega
  have hz : rkE ⟨#[82, 48]⟩ tn fa fb f n X = 0 := rk_of (by decide +kernel) hnt hpk (by omega) (by omega) (by omega) (fun k _ => by have := hXb k; omega)
  have ns : n ≤ 1099511627776 := by omega
  clear hj hx htm hq hfa hfb htn hX h3 hn hnt hq25 bt bft bp b0 b1 b2 b3 b4
  obtain ⟨_, _, _, hf, hn0, hn128, _⟩ := rk_ok hz
  obtain ⟨Nm, Tn, A, B, Fv, m, Y, ev, hSL, hcase⟩ := slice_any ⟨#[82, 48]⟩ tn fa fb f n X fr pp (by decide) ts ns hz
  have KN := Lib.hid (fun W G => known_c W G)
  have SL := Lib.hid hSL
  have LO := Lib.hid (fun (k : Nat) hk hk2 sa cp W h => slice_low ⟨#[82, 48]⟩ tn fa fb f n X k (by decide) ts ns hz hk hk2 sa cp W h)
  have PJ := Lib.hid (fun (k p : Nat) hk hp hkp sa cp sb cq W hA hB => pieces_join ⟨#[82, 48]⟩ tn fa fb f n X k p (by decide) ts hz (by omega) hk hp hkp sa cp sb cq W hA hB)
  have SZ := Lib.hid (fun va vb W h h' => same_wd ⟨#[]⟩ ⟨#[]⟩ 0 0 0 0 X X (by omega) (fun _ _ => rfl) va vb W h h')
  have SW := Lib.hid (fun (g : Int) (q : Nat) (Z : Nat → Int) (hq : q ≤ n) va vb W h h' => same_wd ⟨#[82, 48]⟩ tn fa fb g q Z Z (by omega) (fun _ _ => rfl) va vb W h h')
  have HC := Lib.hid hcase
  clear hSL hcase hz ns ts hpk hXb hn0
  obtain ⟨D, hD⟩ : ∃ D, w.heap.size = D := ⟨_, rfl⟩
  go_enter Tryz.func7, Tryz.ntmps7
  have G1 : Gi (w.alloc (.cells #[.int .u8 t, .int .u8 ft, .int .i8 f, .int .u8 p, .int .u8 w0, .int .u8 w1, .int .u8 w2, .int .u8 w3, .int .u8 w4] 47)) := G.below (by first | exact ((Below.refl _ w).alloc (by first | omega | (simp; omega)) (.cells #[.int .u8 t, .int .u8 ft, .int .i8 f, .int .u8 p, .int .u8 w0, .int .u8 w1, .int .u8 w2, .int .u8 w3, .int .u8 w4] 47)) | (rw [hD]; exact ((Below.refl _ w).alloc (by first | omega | (simp; omega)) (.cells #[.int .u8 t, .int .u8 ft, .int .i8 f, .int .u8 p, .int .u8 w0, .int .u8 w1, .int .u8 w2, .int .u8 w3, .int .u8 w4] 47))))
  go_wp2_with fail
  refine (KN.out _ G1).mono ?_
  rintro e v1 ⟨rfl, hb_v1⟩
  have cP_v1 : v1.heap[D]? = some (.cells #[.int .u8 t, .int .u8 ft, .int .i8 f, .int .u8 p, .int .u8 w0, .int .u8 w1, .int .u8 w2, .int .u8 w3, .int .u8 w4] 47) := (hb_v1.block (D) (Array.getElem?_eq_some_iff.1 (show (w.alloc (.cells #[.int .u8 t, .int .u8 ft, .int .i8 f, .int .u8 p, .int .u8 w0, .int .u8 w1, .int .u8 w2, .int .u8 w3, .int .u8 w4] 47)).heap[D]? = some (.cells #[.int .u8 t, .int .u8 ft, .int .i8 f, .int .u8 p, .int .u8 w0, .int .u8 w1, .int .u8 w2, .int .u8 w3, .int .u8 w4] 47) from (heap_new (by first | omega | (simp; omega))))).1).trans (heap_new (by first | omega | (simp; omega)))
  have hw_v1 : Below D w v1 := (((Below.refl _ w).alloc (by first | omega | (simp; omega)) (.cells #[.int .u8 t, .int .u8 ft, .int .i8 f, .int .u8 p, .int .u8 w0, .int .u8 w1, .int .u8 w2, .int .u8 w3, .int .u8 w4] 47))).trans (hb_v1.mono (by first | omega | (simp; omega)))
  clear hb_v1 G1
  have ld2 : v1.heap[D]? = some (.cells #[.int .u8 t, .int .u8 ft, .int .i8 f, .int .u8 p, .int .u8 w0, .int .u8 w1, .int .u8 w2, .int .u8 w3, .int .u8 w4] 47) := cP_v1
  obtain ⟨y2_0, y2_1, y2_2, y2_3, y2_4, y2_5, y2_6, y2_7, y2_8⟩ := plan_cells ld2
  clear ld2
  go_wp2_with fail
  refine (MK.out _).mono ?_
  rintro e v3 ⟨⟨v0, rfl, hwd⟩, hb_v3⟩
  have hs_v3 := hw_v1.size
  have cP_v3 : v3.heap[D]? = some (.cells #[.int .u8 t, .int .u8 ft, .int .i8 f, .int .u8 p, .int .u8 w0, .int .u8 w1, .int .u8 w2, .int .u8 w3, .int .u8 w4] 47) := (hb_v3.block (D) (Array.getElem?_eq_some_iff.1 (show v1.heap[D]? = some (.cells #[.int .u8 t, .int .u8 ft, .int .i8 f, .int .u8 p, .int .u8 w0, .int .u8 w1, .int .u8 w2, .int .u8 w3, .int .u8 w4] 47) from cP_v1)).1).trans cP_v1
  have hw_v3 : Below D w v3 := (hw_v1).trans (hb_v3.mono (by first | omega | (simp; omega)))
  clear cP_v1 hb_v3 y2_0 y2_1 y2_2 y2_3 y2_4 y2_5 y2_6 y2_7 y2_8 hw_v1 hs_v3
  obtain ⟨g, o, rc, e0, hc, _, _⟩ := hwd.at (show 0 < n by omega)
  cases e0
  have hR2 := Lib.hid hwd
  clear hwd
  obtain ⟨D2, hD2⟩ : ∃ D, v3.heap.size = D := ⟨_, rfl⟩
  have G2 : Gi v3 := G.below (by first | exact hw_v3 | (rw [hD]; exact hw_v3))
  have HB2 := Lib.hid (hw_v3)
  clear hw_v3
  have hRk := Lib.hid hR2.out
  have ld4 : (v3.alloc (.cells #[.string ⟨#[82, 48]⟩, .string tn, .int .i64 fa, .int .i64 fb, .int .i64 f, .slice (some ⟨g, o, none⟩) n rc] 26)).heap[D2]? = some (.cells #[.string ⟨#[82, 48]⟩, .string tn, .int .i64 fa, .int .i64 fb, .int .i64 f, .slice (some ⟨g, o, none⟩) n rc] 26) := (heap_new (by first | omega | (simp; omega)))
  have y4_0 := cell6_0 ld4
  have y4_1 := cell6_1 ld4
  have y4_2 := cell6_2 ld4
  have y4_3 := cell6_3 ld4
  have y4_4 := cell6_4 ld4
  have y4_5 := cell6_5 ld4
  clear ld4
  have W2 : Wd (v3.alloc (.cells #[.string ⟨#[82, 48]⟩, .string tn, .int .i64 fa, .int .i64 fb, .int .i64 f, .slice (some ⟨g, o, none⟩) n rc] 26)) (.slice (some ⟨g, o, none⟩) n rc) n X := hR2.out.below (by first | exact ((Below.refl _ v3).alloc (by first | omega | (simp; omega)) (.cells #[.string ⟨#[82, 48]⟩, .string tn, .int .i64 fa, .int .i64 fb, .int .i64 f, .slice (some ⟨g, o, none⟩) n rc] 26)) | (rw [hD2]; exact ((Below.refl _ v3).alloc (by first | omega | (simp; omega)) (.cells #[.string ⟨#[82, 48]⟩, .string tn, .int .i64 fa, .int .i64 fb, .int .i64 f, .slice (some ⟨g, o, none⟩) n rc] 26))))
  go_wp2_with fail
  refine (SL.out _ _ _ W2).mono ?_
  rintro e v5 ⟨⟨sr, cr, rfl, hwd⟩, hb_v5⟩
  have cP_v5 : v5.heap[D]? = some (.cells #[.int .u8 t, .int .u8 ft, .int .i8 f, .int .u8 p, .int .u8 w0, .int .u8 w1, .int .u8 w2, .int .u8 w3, .int .u8 w4] 47) := (hb_v5.block (D) (Array.getElem?_eq_some_iff.1 (show (v3.alloc (.cells #[.string ⟨#[82, 48]⟩, .string tn, .int .i64 fa, .int .i64 fb, .int .i64 f, .slice (some ⟨g, o, none⟩) n rc] 26)).heap[D]? = some (.cells #[.int .u8 t, .int .u8 ft, .int .i8 f, .int .u8 p, .int .u8 w0, .int .u8 w1, .int .u8 w2, .int .u8 w3, .int .u8 w4] 47) from (heap_old (o := .cells #[.string ⟨#[82, 48]⟩, .string tn, .int .i64 fa, .int .i64 fb, .int .i64 f, .slice (some ⟨g, o, none⟩) n rc] 26) cP_v3))).1).trans (heap_old (o := .cells #[.string ⟨#[82, 48]⟩, .string tn, .int .i64 fa, .int .i64 fb, .int .i64 f, .slice (some ⟨g, o, none⟩) n rc] 26) cP_v3)
  have cR_v5 : v5.heap[D2]? = some (.cells #[.string ⟨#[82, 48]⟩, .string tn, .int .i64 fa, .int .i64 fb, .int .i64 f, .slice (some ⟨g, o, none⟩) n rc] 26) := (hb_v5.block (D2) (Array.getElem?_eq_some_iff.1 (show (v3.alloc (.cells #[.string ⟨#[82, 48]⟩, .string tn, .int .i64 fa, .int .i64 fb, .int .i64 f, .slice (some ⟨g, o, none⟩) n rc] 26)).heap[D2]? = some (.cells #[.string ⟨#[82, 48]⟩, .string tn, .int .i64 fa, .int .i64 fb, .int .i64 f, .slice (some ⟨g, o, none⟩) n rc] 26) from (heap_new (by first | omega | (simp; omega))))).1).trans (heap_new (by first | omega | (simp; omega)))
  have hw_v5 : Below D2 v3 v5 := (((Below.refl _ v3).alloc (by first | omega | (simp; omega)) (.cells #[.string ⟨#[82, 48]⟩, .string tn, .int .i64 fa, .int .i64 fb, .int .i64 f, .slice (some ⟨g, o, none⟩) n rc] 26))).trans (hb_v5.mono (by first | omega | (simp; omega)))
  clear cP_v3 hb_v5 y4_0 y4_1 y4_2 y4_3 y4_4 y4_5 W2
  have hS3 := Lib.hid hwd
  clear hwd
  have hR3 := Lib.hid (hR2.out.below (by first | exact hw_v5 | (rw [hD2]; exact hw_v5)))
  clear hR2
  obtain ⟨D3, hD3⟩ : ∃ D, v5.heap.size = D := ⟨_, rfl⟩
  have G23 : Gi v5 := G2.below (by first | exact hw_v5 | (rw [hD2]; exact hw_v5))
  have HB3 := Lib.hid (hw_v5)
  clear hw_v5
  clear G2
  rcases HC.out with ⟨g1, rfl, rfl, rfl, rfl, rfl, rfl, rfl, rfl⟩ | ⟨g1, g2, rfl, rfl, rfl, rfl, rfl, rfl, rfl, rfl⟩ | ⟨k, u, rfl, rfl, g1, g2, rfl, rfl, rfl, rfl, rfl, rfl, rfl, rfl⟩
  · rcases (show fr < 0 ∨ (¬ fr < 0 ∧ (n : Int) ≤ fr) by omega) with q1 | ⟨q1, q2⟩
    · skip
      have ld6 : (v5.alloc (.cells #[.string ⟨#[]⟩, .string ⟨#[]⟩, .int .i64 0, .int .i64 0, .int .i64 0, .slice sr 0 cr] 26)).heap[D3]? = some (.cells #[.string ⟨#[]⟩, .string ⟨#[]⟩, .int .i64 0, .int .i64 0, .int .i64 0, .slice sr 0 cr] 26) := (heap_new (by first | omega | (simp; omega)))
      have y6_0 := cell6_0 ld6
      have y6_1 := cell6_1 ld6
      have y6_2 := cell6_2 ld6
      have y6_3 := cell6_3 ld6
      have y6_4 := cell6_4 ld6
      have y6_5 := cell6_5 ld6
      clear ld6
      have ld7 : (v5.alloc (.cells #[.string ⟨#[]⟩, .string ⟨#[]⟩, .int .i64 0, .int .i64 0, .int .i64 0, .slice sr 0 cr] 26)).heap[D2]? = some (.cells #[.string ⟨#[82, 48]⟩, .string tn, .int .i64 fa, .int .i64 fb, .int .i64 f, .slice (some ⟨g, o, none⟩) n rc] 26) := (heap_old (o := .cells #[.string ⟨#[]⟩, .string ⟨#[]⟩, .int .i64 0, .int .i64 0, .int .i64 0, .slice sr 0 cr] 26) cR_v5)
      have y7_0 := cell6_0 ld7
      have y7_1 := cell6_1 ld7
      have y7_2 := cell6_2 ld7
      have y7_3 := cell6_3 ld7
      have y7_4 := cell6_4 ld7
      have y7_5 := cell6_5 ld7
      clear ld7
      have W3 : Wd (v5.alloc (.cells #[.string ⟨#[]⟩, .string ⟨#[]⟩, .int .i64 0, .int .i64 0, .int .i64 0, .slice sr 0 cr] 26)) (.slice sr 0 cr) 0 X := hS3.out.below (by first | exact ((Below.refl _ v5).alloc (by first | omega | (simp; omega)) (.cells #[.string ⟨#[]⟩, .string ⟨#[]⟩, .int .i64 0, .int .i64 0, .int .i64 0, .slice sr 0 cr] 26)) | (rw [hD3]; exact ((Below.refl _ v5).alloc (by first | omega | (simp; omega)) (.cells #[.string ⟨#[]⟩, .string ⟨#[]⟩, .int .i64 0, .int .i64 0, .int .i64 0, .slice sr 0 cr] 26))))
      have Z4 := wd_nil ((v5.alloc (.cells #[.string ⟨#[]⟩, .string ⟨#[]⟩, .int .i64 0, .int .i64 0, .int .i64 0, .slice sr 0 cr] 26))) X
      go_wp2_with fail
      refine (SZ.out _ _ _ W3 Z4).mono ?_
      rintro e v8 ⟨rfl, hb_v8⟩
      have cP_v8 : v8.heap[D]? = some (.cells #[.int .u8 t, .int .u8 ft, .int .i8 f, .int .u8 p, .int .u8 w0, .int .u8 w1, .int .u8 w2, .int .u8 w3, .int .u8 w4] 47) := (hb_v8.block (D) (Array.getElem?_eq_some_iff.1 (show (v5.alloc (.cells #[.string ⟨#[]⟩, .string ⟨#[]⟩, .int .i64 0, .int .i64 0, .int .i64 0, .slice sr 0 cr] 26)).heap[D]? = some (.cells #[.int .u8 t, .int .u8 ft, .int .i8 f, .int .u8 p, .int .u8 w0, .int .u8 w1, .int .u8 w2, .int .u8 w3, .int .u8 w4] 47) from (heap_old (o := .cells #[.string ⟨#[]⟩, .string ⟨#[]⟩, .int .i64 0, .int .i64 0, .int .i64 0, .slice sr 0 cr] 26) cP_v5))).1).trans (heap_old (o := .cells #[.string ⟨#[]⟩, .string ⟨#[]⟩, .int .i64 0, .int .i64 0, .int .i64 0, .slice sr 0 cr] 26) cP_v5)
      have cR_v8 : v8.heap[D2]? = some (.cells #[.string ⟨#[82, 48]⟩, .string tn, .int .i64 fa, .int .i64 fb, .int .i64 f, .slice (some ⟨g, o, none⟩) n rc] 26) := (hb_v8.block (D2) (Array.getElem?_eq_some_iff.1 (show (v5.alloc (.cells #[.string ⟨#[]⟩, .string ⟨#[]⟩, .int .i64 0, .int .i64 0, .int .i64 0, .slice sr 0 cr] 26)).heap[D2]? = some (.cells #[.string ⟨#[82, 48]⟩, .string tn, .int .i64 fa, .int .i64 fb, .int .i64 f, .slice (some ⟨g, o, none⟩) n rc] 26) from (heap_old (o := .cells #[.string ⟨#[]⟩, .string ⟨#[]⟩, .int .i64 0, .int .i64 0, .int .i64 0, .slice sr 0 cr] 26) cR_v5))).1).trans (heap_old (o := .cells #[.string ⟨#[]⟩, .string ⟨#[]⟩, .int .i64 0, .int .i64 0, .int .i64 0, .slice sr 0 cr] 26) cR_v5)
      have cS_v8 : v8.heap[D3]? = some (.cells #[.string ⟨#[]⟩, .string ⟨#[]⟩, .int .i64 0, .int .i64 0, .int .i64 0, .slice sr 0 cr] 26) := (hb_v8.block (D3) (Array.getElem?_eq_some_iff.1 (show (v5.alloc (.cells #[.string ⟨#[]⟩, .string ⟨#[]⟩, .int .i64 0, .int .i64 0, .int .i64 0, .slice sr 0 cr] 26)).heap[D3]? = some (.cells #[.string ⟨#[]⟩, .string ⟨#[]⟩, .int .i64 0, .int .i64 0, .int .i64 0, .slice sr 0 cr] 26) from (heap_new (by first | omega | (simp; omega))))).1).trans (heap_new (by first | omega | (simp; omega)))
      have hw_v8 : Below D3 v5 v8 := (((Below.refl _ v5).alloc (by first | omega | (simp; omega)) (.cells #[.string ⟨#[]⟩, .string ⟨#[]⟩, .int .i64 0, .int .i64 0, .int .i64 0, .slice sr 0 cr] 26))).trans (hb_v8.mono (by first | omega | (simp; omega)))
      clear cP_v5 cR_v5 hb_v8 y6_0 y6_1 y6_2 y6_3 y6_4 y6_5 y7_0 y7_1 y7_2 y7_3 y7_4 y7_5 W3
      have HW := Lib.hid (show Below D w (v8) from (HB2.out.trans (((HB3.out.trans ((hw_v8).mono (by first | exact HB3.out.size | (have := HB3.out.size; simp only [hD] at *; omega) | (have := HB3.out.size; omega))))).mono (by first | exact HB2.out.size | (have := HB2.out.size; simp only [hD] at *; omega) | (have := HB2.out.size; omega)))))
      go_wp2
      go_ret
      exact ⟨rfl, by first | exact HW.out | (rw [hD]; exact HW.out)⟩
    · skip
      have ld6 : (v5.alloc (.cells #[.string ⟨#[]⟩, .string ⟨#[]⟩, .int .i64 0, .int .i64 0, .int .i64 0, .slice sr 0 cr] 26)).heap[D3]? = some (.cells #[.string ⟨#[]⟩, .string ⟨#[]⟩, .int .i64 0, .int .i64 0, .int .i64 0, .slice sr 0 cr] 26) := (heap_new (by first | omega | (simp; omega)))
      have y6_0 := cell6_0 ld6
      have y6_1 := cell6_1 ld6
      have y6_2 := cell6_2 ld6
      have y6_3 := cell6_3 ld6
      have y6_4 := cell6_4 ld6
      have y6_5 := cell6_5 ld6
      clear ld6
      have ld7 : (v5.alloc (.cells #[.string ⟨#[]⟩, .string ⟨#[]⟩, .int .i64 0, .int .i64 0, .int .i64 0, .slice sr 0 cr] 26)).heap[D2]? = some (.cells #[.string ⟨#[82, 48]⟩, .string tn, .int .i64 fa, .int .i64 fb, .int .i64 f, .slice (some ⟨g, o, none⟩) n rc] 26) := (heap_old (o := .cells #[.string ⟨#[]⟩, .string ⟨#[]⟩, .int .i64 0, .int .i64 0, .int .i64 0, .slice sr 0 cr] 26) cR_v5)
      have y7_0 := cell6_0 ld7
      have y7_1 := cell6_1 ld7
      have y7_2 := cell6_2 ld7
      have y7_3 := cell6_3 ld7
      have y7_4 := cell6_4 ld7
      have y7_5 := cell6_5 ld7
      clear ld7
      have W5 : Wd (v5.alloc (.cells #[.string ⟨#[]⟩, .string ⟨#[]⟩, .int .i64 0, .int .i64 0, .int .i64 0, .slice sr 0 cr] 26)) (.slice sr 0 cr) 0 X := hS3.out.below (by first | exact ((Below.refl _ v5).alloc (by first | omega | (simp; omega)) (.cells #[.string ⟨#[]⟩, .string ⟨#[]⟩, .int .i64 0, .int .i64 0, .int .i64 0, .slice sr 0 cr] 26)) | (rw [hD3]; exact ((Below.refl _ v5).alloc (by first | omega | (simp; omega)) (.cells #[.string ⟨#[]⟩, .string ⟨#[]⟩, .int .i64 0, .int .i64 0, .int .i64 0, .slice sr 0 cr] 26))))
      have Z6 := wd_nil ((v5.alloc (.cells #[.string ⟨#[]⟩, .string ⟨#[]⟩, .int .i64 0, .int .i64 0, .int .i64 0, .slice sr 0 cr] 26))) X
      go_wp2_with fail
      refine (SZ.out _ _ _ W5 Z6).mono ?_
      rintro e v8 ⟨rfl, hb_v8⟩
      have cP_v8 : v8.heap[D]? = some (.cells #[.int .u8 t, .int .u8 ft, .int .i8 f, .int .u8 p, .int .u8 w0, .int .u8 w1, .int .u8 w2, .int .u8 w3, .int .u8 w4] 47) := (hb_v8.block (D) (Array.getElem?_eq_some_iff.1 (show (v5.alloc (.cells #[.string ⟨#[]⟩, .string ⟨#[]⟩, .int .i64 0, .int .i64 0, .int .i64 0, .slice sr 0 cr] 26)).heap[D]? = some (.cells #[.int .u8 t, .int .u8 ft, .int .i8 f, .int .u8 p, .int .u8 w0, .int .u8 w1, .int .u8 w2, .int .u8 w3, .int .u8 w4] 47) from (heap_old (o := .cells #[.string ⟨#[]⟩, .string ⟨#[]⟩, .int .i64 0, .int .i64 0, .int .i64 0, .slice sr 0 cr] 26) cP_v5))).1).trans (heap_old (o := .cells #[.string ⟨#[]⟩, .string ⟨#[]⟩, .int .i64 0, .int .i64 0, .int .i64 0, .slice sr 0 cr] 26) cP_v5)
      have cR_v8 : v8.heap[D2]? = some (.cells #[.string ⟨#[82, 48]⟩, .string tn, .int .i64 fa, .int .i64 fb, .int .i64 f, .slice (some ⟨g, o, none⟩) n rc] 26) := (hb_v8.block (D2) (Array.getElem?_eq_some_iff.1 (show (v5.alloc (.cells #[.string ⟨#[]⟩, .string ⟨#[]⟩, .int .i64 0, .int .i64 0, .int .i64 0, .slice sr 0 cr] 26)).heap[D2]? = some (.cells #[.string ⟨#[82, 48]⟩, .string tn, .int .i64 fa, .int .i64 fb, .int .i64 f, .slice (some ⟨g, o, none⟩) n rc] 26) from (heap_old (o := .cells #[.string ⟨#[]⟩, .string ⟨#[]⟩, .int .i64 0, .int .i64 0, .int .i64 0, .slice sr 0 cr] 26) cR_v5))).1).trans (heap_old (o := .cells #[.string ⟨#[]⟩, .string ⟨#[]⟩, .int .i64 0, .int .i64 0, .int .i64 0, .slice sr 0 cr] 26) cR_v5)
      have cS_v8 : v8.heap[D3]? = some (.cells #[.string ⟨#[]⟩, .string ⟨#[]⟩, .int .i64 0, .int .i64 0, .int .i64 0, .slice sr 0 cr] 26) := (hb_v8.block (D3) (Array.getElem?_eq_some_iff.1 (show (v5.alloc (.cells #[.string ⟨#[]⟩, .string ⟨#[]⟩, .int .i64 0, .int .i64 0, .int .i64 0, .slice sr 0 cr] 26)).heap[D3]? = some (.cells #[.string ⟨#[]⟩, .string ⟨#[]⟩, .int .i64 0, .int .i64 0, .int .i64 0, .slice sr 0 cr] 26) from (heap_new (by first | omega | (simp; omega))))).1).trans (heap_new (by first | omega | (simp; omega)))
      have hw_v8 : Below D3 v5 v8 := (((Below.refl _ v5).alloc (by first | omega | (simp; omega)) (.cells #[.string ⟨#[]⟩, .string ⟨#[]⟩, .int .i64 0, .int .i64 0, .int .i64 0, .slice sr 0 cr] 26))).trans (hb_v8.mono (by first | omega | (simp; omega)))
      clear cP_v5 cR_v5 hb_v8 y6_0 y6_1 y6_2 y6_3 y6_4 y6_5 y7_0 y7_1 y7_2 y7_3 y7_4 y7_5 W5
      have HW := Lib.hid (show Below D w (v8) from (HB2.out.trans (((HB3.out.trans ((hw_v8).mono (by first | exact HB3.out.size | (have := HB3.out.size; simp only [hD] at *; omega) | (have := HB3.out.size; omega))))).mono (by first | exact HB2.out.size | (have := HB2.out.size; simp only [hD] at *; omega) | (have := HB2.out.size; omega)))))
      go_wp2
      go_ret
      exact ⟨rfl, by first | exact HW.out | (rw [hD]; exact HW.out)⟩
  · have q1 : ¬ fr < 0 := by omega
    have q2 : ¬ (n : Int) ≤ fr := by omega
    have q3 := wrap_in (q := (n : Int) - fr) (by omega) (by omega)
    rcases (show pp < 1 ∨ (¬ pp < 1 ∧ (n : Int) - fr < pp) by omega) with q4 | ⟨q4, q5⟩
    · skip
      have ld6 : (v5.alloc (.cells #[.string ⟨#[]⟩, .string ⟨#[]⟩, .int .i64 0, .int .i64 0, .int .i64 0, .slice sr 0 cr] 26)).heap[D3]? = some (.cells #[.string ⟨#[]⟩, .string ⟨#[]⟩, .int .i64 0, .int .i64 0, .int .i64 0, .slice sr 0 cr] 26) := (heap_new (by first | omega | (simp; omega)))
      have y6_0 := cell6_0 ld6
      have y6_1 := cell6_1 ld6
      have y6_2 := cell6_2 ld6
      have y6_3 := cell6_3 ld6
      have y6_4 := cell6_4 ld6
      have y6_5 := cell6_5 ld6
      clear ld6
      have ld7 : (v5.alloc (.cells #[.string ⟨#[]⟩, .string ⟨#[]⟩, .int .i64 0, .int .i64 0, .int .i64 0, .slice sr 0 cr] 26)).heap[D2]? = some (.cells #[.string ⟨#[82, 48]⟩, .string tn, .int .i64 fa, .int .i64 fb, .int .i64 f, .slice (some ⟨g, o, none⟩) n rc] 26) := (heap_old (o := .cells #[.string ⟨#[]⟩, .string ⟨#[]⟩, .int .i64 0, .int .i64 0, .int .i64 0, .slice sr 0 cr] 26) cR_v5)
      have y7_0 := cell6_0 ld7
      have y7_1 := cell6_1 ld7
      have y7_2 := cell6_2 ld7
      have y7_3 := cell6_3 ld7
      have y7_4 := cell6_4 ld7
      have y7_5 := cell6_5 ld7
      clear ld7
      have W7 : Wd (v5.alloc (.cells #[.string ⟨#[]⟩, .string ⟨#[]⟩, .int .i64 0, .int .i64 0, .int .i64 0, .slice sr 0 cr] 26)) (.slice sr 0 cr) 0 X := hS3.out.below (by first | exact ((Below.refl _ v5).alloc (by first | omega | (simp; omega)) (.cells #[.string ⟨#[]⟩, .string ⟨#[]⟩, .int .i64 0, .int .i64 0, .int .i64 0, .slice sr 0 cr] 26)) | (rw [hD3]; exact ((Below.refl _ v5).alloc (by first | omega | (simp; omega)) (.cells #[.string ⟨#[]⟩, .string ⟨#[]⟩, .int .i64 0, .int .i64 0, .int .i64 0, .slice sr 0 cr] 26))))
      have Z8 := wd_nil ((v5.alloc (.cells #[.string ⟨#[]⟩, .string ⟨#[]⟩, .int .i64 0, .int .i64 0, .int .i64 0, .slice sr 0 cr] 26))) X
      go_wp2_with fail
      refine (SZ.out _ _ _ W7 Z8).mono ?_
      rintro e v8 ⟨rfl, hb_v8⟩
      have cP_v8 : v8.heap[D]? = some (.cells #[.int .u8 t, .int .u8 ft, .int .i8 f, .int .u8 p, .int .u8 w0, .int .u8 w1, .int .u8 w2, .int .u8 w3, .int .u8 w4] 47) := (hb_v8.block (D) (Array.getElem?_eq_some_iff.1 (show (v5.alloc (.cells #[.string ⟨#[]⟩, .string ⟨#[]⟩, .int .i64 0, .int .i64 0, .int .i64 0, .slice sr 0 cr] 26)).heap[D]? = some (.cells #[.int .u8 t, .int .u8 ft, .int .i8 f, .int .u8 p, .int .u8 w0, .int .u8 w1, .int .u8 w2, .int .u8 w3, .int .u8 w4] 47) from (heap_old (o := .cells #[.string ⟨#[]⟩, .string ⟨#[]⟩, .int .i64 0, .int .i64 0, .int .i64 0, .slice sr 0 cr] 26) cP_v5))).1).trans (heap_old (o := .cells #[.string ⟨#[]⟩, .string ⟨#[]⟩, .int .i64 0, .int .i64 0, .int .i64 0, .slice sr 0 cr] 26) cP_v5)
      have cR_v8 : v8.heap[D2]? = some (.cells #[.string ⟨#[82, 48]⟩, .string tn, .int .i64 fa, .int .i64 fb, .int .i64 f, .slice (some ⟨g, o, none⟩) n rc] 26) := (hb_v8.block (D2) (Array.getElem?_eq_some_iff.1 (show (v5.alloc (.cells #[.string ⟨#[]⟩, .string ⟨#[]⟩, .int .i64 0, .int .i64 0, .int .i64 0, .slice sr 0 cr] 26)).heap[D2]? = some (.cells #[.string ⟨#[82, 48]⟩, .string tn, .int .i64 fa, .int .i64 fb, .int .i64 f, .slice (some ⟨g, o, none⟩) n rc] 26) from (heap_old (o := .cells #[.string ⟨#[]⟩, .string ⟨#[]⟩, .int .i64 0, .int .i64 0, .int .i64 0, .slice sr 0 cr] 26) cR_v5))).1).trans (heap_old (o := .cells #[.string ⟨#[]⟩, .string ⟨#[]⟩, .int .i64 0, .int .i64 0, .int .i64 0, .slice sr 0 cr] 26) cR_v5)
      have cS_v8 : v8.heap[D3]? = some (.cells #[.string ⟨#[]⟩, .string ⟨#[]⟩, .int .i64 0, .int .i64 0, .int .i64 0, .slice sr 0 cr] 26) := (hb_v8.block (D3) (Array.getElem?_eq_some_iff.1 (show (v5.alloc (.cells #[.string ⟨#[]⟩, .string ⟨#[]⟩, .int .i64 0, .int .i64 0, .int .i64 0, .slice sr 0 cr] 26)).heap[D3]? = some (.cells #[.string ⟨#[]⟩, .string ⟨#[]⟩, .int .i64 0, .int .i64 0, .int .i64 0, .slice sr 0 cr] 26) from (heap_new (by first | omega | (simp; omega))))).1).trans (heap_new (by first | omega | (simp; omega)))
      have hw_v8 : Below D3 v5 v8 := (((Below.refl _ v5).alloc (by first | omega | (simp; omega)) (.cells #[.string ⟨#[]⟩, .string ⟨#[]⟩, .int .i64 0, .int .i64 0, .int .i64 0, .slice sr 0 cr] 26))).trans (hb_v8.mono (by first | omega | (simp; omega)))
      clear cP_v5 cR_v5 hb_v8 y6_0 y6_1 y6_2 y6_3 y6_4 y6_5 y7_0 y7_1 y7_2 y7_3 y7_4 y7_5 W7
      have HW := Lib.hid (show Below D w (v8) from (HB2.out.trans (((HB3.out.trans ((hw_v8).mono (by first | exact HB3.out.size | (have := HB3.out.size; simp only [hD] at *; omega) | (have := HB3.out.size; omega))))).mono (by first | exact HB2.out.size | (have := HB2.out.size; simp only [hD] at *; omega) | (have := HB2.out.size; omega)))))
      go_wp2
      go_ret
      exact ⟨rfl, by first | exact HW.out | (rw [hD]; exact HW.out)⟩
    · skip
      have ld6 : (v5.alloc (.cells #[.string ⟨#[]⟩, .string ⟨#[]⟩, .int .i64 0, .int .i64 0, .int .i64 0, .slice sr 0 cr] 26)).heap[D3]? = some (.cells #[.string ⟨#[]⟩, .string ⟨#[]⟩, .int .i64 0, .int .i64 0, .int .i64 0, .slice sr 0 cr] 26) := (heap_new (by first | omega | (simp; omega)))
      have y6_0 := cell6_0 ld6
      have y6_1 := cell6_1 ld6
      have y6_2 := cell6_2 ld6
      have y6_3 := cell6_3 ld6
      have y6_4 := cell6_4 ld6
      have y6_5 := cell6_5 ld6
      clear ld6
      have ld7 : (v5.alloc (.cells #[.string ⟨#[]⟩, .string ⟨#[]⟩, .int .i64 0, .int .i64 0, .int .i64 0, .slice sr 0 cr] 26)).heap[D2]? = some (.cells #[.string ⟨#[82, 48]⟩, .string tn, .int .i64 fa, .int .i64 fb, .int .i64 f, .slice (some ⟨g, o, none⟩) n rc] 26) := (heap_old (o := .cells #[.string ⟨#[]⟩, .string ⟨#[]⟩, .int .i64 0, .int .i64 0, .int .i64 0, .slice sr 0 cr] 26) cR_v5)
      have y7_0 := cell6_0 ld7
      have y7_1 := cell6_1 ld7
      have y7_2 := cell6_2 ld7
      have y7_3 := cell6_3 ld7
      have y7_4 := cell6_4 ld7
      have y7_5 := cell6_5 ld7
      clear ld7
      have W9 : Wd (v5.alloc (.cells #[.string ⟨#[]⟩, .string ⟨#[]⟩, .int .i64 0, .int .i64 0, .int .i64 0, .slice sr 0 cr] 26)) (.slice sr 0 cr) 0 X := hS3.out.below (by first | exact ((Below.refl _ v5).alloc (by first | omega | (simp; omega)) (.cells #[.string ⟨#[]⟩, .string ⟨#[]⟩, .int .i64 0, .int .i64 0, .int .i64 0, .slice sr 0 cr] 26)) | (rw [hD3]; exact ((Below.refl _ v5).alloc (by first | omega | (simp; omega)) (.cells #[.string ⟨#[]⟩, .string ⟨#[]⟩, .int .i64 0, .int .i64 0, .int .i64 0, .slice sr 0 cr] 26))))
      have Z10 := wd_nil ((v5.alloc (.cells #[.string ⟨#[]⟩, .string ⟨#[]⟩, .int .i64 0, .int .i64 0, .int .i64 0, .slice sr 0 cr] 26))) X
      go_wp2_with fail
      refine (SZ.out _ _ _ W9 Z10).mono ?_
      rintro e v8 ⟨rfl, hb_v8⟩
      have cP_v8 : v8.heap[D]? = some (.cells #[.int .u8 t, .int .u8 ft, .int .i8 f, .int .u8 p, .int .u8 w0, .int .u8 w1, .int .u8 w2, .int .u8 w3, .int .u8 w4] 47) := (hb_v8.block (D) (Array.getElem?_eq_some_iff.1 (show (v5.alloc (.cells #[.string ⟨#[]⟩, .string ⟨#[]⟩, .int .i64 0, .int .i64 0, .int .i64 0, .slice sr 0 cr] 26)).heap[D]? = some (.cells #[.int .u8 t, .int .u8 ft, .int .i8 f, .int .u8 p, .int .u8 w0, .int .u8 w1, .int .u8 w2, .int .u8 w3, .int .u8 w4] 47) from (heap_old (o := .cells #[.string ⟨#[]⟩, .string ⟨#[]⟩, .int .i64 0, .int .i64 0, .int .i64 0, .slice sr 0 cr] 26) cP_v5))).1).trans (heap_old (o := .cells #[.string ⟨#[]⟩, .string ⟨#[]⟩, .int .i64 0, .int .i64 0, .int .i64 0, .slice sr 0 cr] 26) cP_v5)
      have cR_v8 : v8.heap[D2]? = some (.cells #[.string ⟨#[82, 48]⟩, .string tn, .int .i64 fa, .int .i64 fb, .int .i64 f, .slice (some ⟨g, o, none⟩) n rc] 26) := (hb_v8.block (D2) (Array.getElem?_eq_some_iff.1 (show (v5.alloc (.cells #[.string ⟨#[]⟩, .string ⟨#[]⟩, .int .i64 0, .int .i64 0, .int .i64 0, .slice sr 0 cr] 26)).heap[D2]? = some (.cells #[.string ⟨#[82, 48]⟩, .string tn, .int .i64 fa, .int .i64 fb, .int .i64 f, .slice (some ⟨g, o, none⟩) n rc] 26) from (heap_old (o := .cells #[.string ⟨#[]⟩, .string ⟨#[]⟩, .int .i64 0, .int .i64 0, .int .i64 0, .slice sr 0 cr] 26) cR_v5))).1).trans (heap_old (o := .cells #[.string ⟨#[]⟩, .string ⟨#[]⟩, .int .i64 0, .int .i64 0, .int .i64 0, .slice sr 0 cr] 26) cR_v5)
      have cS_v8 : v8.heap[D3]? = some (.cells #[.string ⟨#[]⟩, .string ⟨#[]⟩, .int .i64 0, .int .i64 0, .int .i64 0, .slice sr 0 cr] 26) := (hb_v8.block (D3) (Array.getElem?_eq_some_iff.1 (show (v5.alloc (.cells #[.string ⟨#[]⟩, .string ⟨#[]⟩, .int .i64 0, .int .i64 0, .int .i64 0, .slice sr 0 cr] 26)).heap[D3]? = some (.cells #[.string ⟨#[]⟩, .string ⟨#[]⟩, .int .i64 0, .int .i64 0, .int .i64 0, .slice sr 0 cr] 26) from (heap_new (by first | omega | (simp; omega))))).1).trans (heap_new (by first | omega | (simp; omega)))
      have hw_v8 : Below D3 v5 v8 := (((Below.refl _ v5).alloc (by first | omega | (simp; omega)) (.cells #[.string ⟨#[]⟩, .string ⟨#[]⟩, .int .i64 0, .int .i64 0, .int .i64 0, .slice sr 0 cr] 26))).trans (hb_v8.mono (by first | omega | (simp; omega)))
      clear cP_v5 cR_v5 hb_v8 y6_0 y6_1 y6_2 y6_3 y6_4 y6_5 y7_0 y7_1 y7_2 y7_3 y7_4 y7_5 W9
      have HW := Lib.hid (show Below D w (v8) from (HB2.out.trans (((HB3.out.trans ((hw_v8).mono (by first | exact HB3.out.size | (have := HB3.out.size; simp only [hD] at *; omega) | (have := HB3.out.size; omega))))).mono (by first | exact HB2.out.size | (have := HB2.out.size; simp only [hD] at *; omega) | (have := HB2.out.size; omega)))))
      go_wp2
      go_ret
      exact ⟨rfl, by first | exact HW.out | (rw [hD]; exact HW.out)⟩
  · have q1 : ¬ (k : Int) < 0 := by omega
    have q2 : ¬ (n : Int) ≤ (k : Int) := by omega
    have q3 := wrap_in (q := (n : Int) - (k : Int)) (by omega) (by omega)
    have q4 : ¬ (u : Int) < 1 := by omega
    have q5 : ¬ (n : Int) - (k : Int) < (u : Int) := by omega
    have q6 := wrap_in (q := f + (k : Int)) (by omega) (by omega)
    have q7 := wrap_in (q := (k : Int) + (u : Int)) (by omega) (by omega)
    have HSL := Lib.hid (fun W => sl_at g o n rc k u (by omega) (by omega) hc W)
    have HS0 := Lib.hid (fun W => sl0_at g o n rc (k + u) (by omega) (by omega) hc W)
    have ld6 : (v5.alloc (.cells #[.string ⟨#[82, 48]⟩, .string tn, .int .i64 fa, .int .i64 fb, .int .i64 (f + k), .slice sr u cr] 26)).heap[D2]? = some (.cells #[.string ⟨#[82, 48]⟩, .string tn, .int .i64 fa, .int .i64 fb, .int .i64 f, .slice (some ⟨g, o, none⟩) n rc] 26) := (heap_old (o := .cells #[.string ⟨#[82, 48]⟩, .string tn, .int .i64 fa, .int .i64 fb, .int .i64 (f + k), .slice sr u cr] 26) cR_v5)
    have y6_0 := cell6_0 ld6
    have y6_1 := cell6_1 ld6
    have y6_2 := cell6_2 ld6
    have y6_3 := cell6_3 ld6
    have y6_4 := cell6_4 ld6
    have y6_5 := cell6_5 ld6
    clear ld6
    have ld7 : (v5.alloc (.cells #[.string ⟨#[82, 48]⟩, .string tn, .int .i64 fa, .int .i64 fb, .int .i64 (f + k), .slice sr u cr] 26)).heap[D3]? = some (.cells #[.string ⟨#[82, 48]⟩, .string tn, .int .i64 fa, .int .i64 fb, .int .i64 (f + k), .slice sr u cr] 26) := (heap_new (by first | omega | (simp; omega)))
    have y7_0 := cell6_0 ld7
    have y7_1 := cell6_1 ld7
    have y7_2 := cell6_2 ld7
    have y7_3 := cell6_3 ld7
    have y7_4 := cell6_4 ld7
    have y7_5 := cell6_5 ld7
    clear ld7
    obtain ⟨V1, hV1⟩ : ∃ V, ((v5.alloc (.cells #[.string ⟨#[82, 48]⟩, .string tn, .int .i64 fa, .int .i64 fb, .int .i64 (f + k), .slice sr u cr] 26)).alloc (.cells #[.string ⟨#[82, 48]⟩, .string tn, .int .i64 fa, .int .i64 fb, .int .i64 f, .slice (some ⟨g, o, none⟩) n rc] 26)) = V := ⟨_, rfl⟩
    have hw_V1 : Below D3 v5 V1 := by rw [← hV1]; exact (((Below.refl _ v5).alloc (by first | omega | (simp; omega)) (.cells #[.string ⟨#[82, 48]⟩, .string tn, .int .i64 fa, .int .i64 fb, .int .i64 (f + k), .slice sr u cr] 26)).alloc (by first | omega | (simp; omega)) (.cells #[.string ⟨#[82, 48]⟩, .string tn, .int .i64 fa, .int .i64 fb, .int .i64 f, .slice (some ⟨g, o, none⟩) n rc] 26))
    have lt_P : D < D3 + 1 := by have := (Array.getElem?_eq_some_iff.1 cP_v5).1; omega
    have lt_R : D2 < D3 + 1 := by have := (Array.getElem?_eq_some_iff.1 cR_v5).1; omega
    have ge_T : D3 ≤ D3 + 1 := by omega
    have cP_V1 : V1.heap[D]? = some (.cells #[.int .u8 t, .int .u8 ft, .int .i8 f, .int .u8 p, .int .u8 w0, .int .u8 w1, .int .u8 w2, .int .u8 w3, .int .u8 w4] 47) := by rw [← hV1]; exact (heap_old (o := .cells #[.string ⟨#[82, 48]⟩, .string tn, .int .i64 fa, .int .i64 fb, .int .i64 f, .slice (some ⟨g, o, none⟩) n rc] 26) (heap_old (o := .cells #[.string ⟨#[82, 48]⟩, .string tn, .int .i64 fa, .int .i64 fb, .int .i64 (f + k), .slice sr u cr] 26) cP_v5))
    have cR_V1 : V1.heap[D2]? = some (.cells #[.string ⟨#[82, 48]⟩, .string tn, .int .i64 fa, .int .i64 fb, .int .i64 f, .slice (some ⟨g, o, none⟩) n rc] 26) := by rw [← hV1]; exact (heap_old (o := .cells #[.string ⟨#[82, 48]⟩, .string tn, .int .i64 fa, .int .i64 fb, .int .i64 f, .slice (some ⟨g, o, none⟩) n rc] 26) (heap_old (o := .cells #[.string ⟨#[82, 48]⟩, .string tn, .int .i64 fa, .int .i64 fb, .int .i64 (f + k), .slice sr u cr] 26) cR_v5))
    have cS_V1 : V1.heap[D3]? = some (.cells #[.string ⟨#[82, 48]⟩, .string tn, .int .i64 fa, .int .i64 fb, .int .i64 (f + k), .slice sr u cr] 26) := by rw [← hV1]; exact (heap_old (o := .cells #[.string ⟨#[82, 48]⟩, .string tn, .int .i64 fa, .int .i64 fb, .int .i64 f, .slice (some ⟨g, o, none⟩) n rc] 26) (heap_new (by first | omega | (simp; omega))))
    have cT_V1 : V1.heap[D3 + 1]? = some (.cells #[.string ⟨#[82, 48]⟩, .string tn, .int .i64 fa, .int .i64 fb, .int .i64 f, .slice (some ⟨g, o, none⟩) n rc] 26) := by rw [← hV1]; exact (heap_new (by first | omega | (simp; omega)))
    clear cP_v5 cR_v5
    have HEV1 := Lib.hid hV1
    clear hV1
    go_upto_region 10 with fail
    rw [HEV1.out]
    clear y6_0 y6_1 y6_2 y6_3 y6_4 y6_5 y7_0 y7_1 y7_2 y7_3 y7_4 y7_5
    have ld8 : V1.heap[D3 + 1]? = some (.cells #[.string ⟨#[82, 48]⟩, .string tn, .int .i64 fa, .int .i64 fb, .int .i64 f, .slice (some ⟨g, o, none⟩) n rc] 26) := cT_V1
    have y8_0 := cell6_0 ld8
    have y8_1 := cell6_1 ld8
    have y8_2 := cell6_2 ld8
    have y8_3 := cell6_3 ld8
    have y8_4 := cell6_4 ld8
    have y8_5 := cell6_5 ld8
    clear ld8
    have ld9 : V1.heap[D2]? = some (.cells #[.string ⟨#[82, 48]⟩, .string tn, .int .i64 fa, .int .i64 fb, .int .i64 f, .slice (some ⟨g, o, none⟩) n rc] 26) := cR_V1
    have y9_0 := cell6_0 ld9
    have y9_1 := cell6_1 ld9
    have y9_2 := cell6_2 ld9
    have y9_3 := cell6_3 ld9
    have y9_4 := cell6_4 ld9
    have y9_5 := cell6_5 ld9
    clear ld9
    obtain ⟨f0, f1, f2, f3, f4, f5⟩ := free6_at cT_V1
    have hs := HSL.out
    go_region
    clear hs
    obtain ⟨U1, hU1⟩ : ∃ U, ((V1.setCell ⟨D3 + 1, 4, none⟩ (.int .i64 (f + k))).setCell ⟨D3 + 1, 5, none⟩ (.slice (some ⟨g, o + k, none⟩) u (rc - k))).drew = U := ⟨_, rfl⟩
    have hw_U1 : Below D3 v5 U1 := by rw [← hU1]; exact (((((hw_V1).setCell (p := ⟨D3 + 1, 4, none⟩) (by first | (simp; done) | (simp; omega)) (.int .i64 (f + k)))).setCell (p := ⟨D3 + 1, 5, none⟩) (by first | (simp; done) | (simp; omega)) (.slice (some ⟨g, o + k, none⟩) u (rc - k)))).trans ⟨rfl, rfl, rfl, Nat.le_refl _, fun _ _ => rfl⟩
    have cT_U1 : U1.heap[D3 + 1]? = some (.cells #[.string ⟨#[82, 48]⟩, .string tn, .int .i64 fa, .int .i64 fb, .int .i64 (f + k), .slice (some ⟨g, o + k, none⟩) u (rc - k)] 26) := by rw [← hU1]; exact (set6_5 (set6_4 cT_V1))
    have cP_U1 : U1.heap[D]? = some (.cells #[.int .u8 t, .int .u8 ft, .int .i8 f, .int .u8 p, .int .u8 w0, .int .u8 w1, .int .u8 w2, .int .u8 w3, .int .u8 w4] 47) := by rw [← hU1]; exact ((set_other (by omega)).trans ((set_other (by omega)).trans cP_V1))
    have cR_U1 : U1.heap[D2]? = some (.cells #[.string ⟨#[82, 48]⟩, .string tn, .int .i64 fa, .int .i64 fb, .int .i64 f, .slice (some ⟨g, o, none⟩) n rc] 26) := by rw [← hU1]; exact ((set_other (by omega)).trans ((set_other (by omega)).trans cR_V1))
    have cS_U1 : U1.heap[D3]? = some (.cells #[.string ⟨#[82, 48]⟩, .string tn, .int .i64 fa, .int .i64 fb, .int .i64 (f + k), .slice sr u cr] 26) := by rw [← hU1]; exact ((set_other (by omega)).trans ((set_other (by omega)).trans cS_V1))
    rw [hU1]
    clear hU1 y8_0 y8_1 y8_2 y8_3 y8_4 y8_5 y9_0 y9_1 y9_2 y9_3 y9_4 y9_5 f0 f1 f2 f3 f4 f5 cP_V1 cR_V1 cS_V1 cT_V1 hw_V1
    have hT4 := Lib.hid (wd_sub (k := k) (p := u) hR3.out (by omega) (by omega))
    have ld10 : U1.heap[D3 + 1]? = some (.cells #[.string ⟨#[82, 48]⟩, .string tn, .int .i64 fa, .int .i64 fb, .int .i64 (f + k), .slice (some ⟨g, o + k, none⟩) u (rc - k)] 26) := cT_U1
    have y10_0 := cell6_0 ld10
    have y10_1 := cell6_1 ld10
    have y10_2 := cell6_2 ld10
    have y10_3 := cell6_3 ld10
    have y10_4 := cell6_4 ld10
    have y10_5 := cell6_5 ld10
    clear ld10
    have ld11 : U1.heap[D3]? = some (.cells #[.string ⟨#[82, 48]⟩, .string tn, .int .i64 fa, .int .i64 fb, .int .i64 (f + k), .slice sr u cr] 26) := cS_U1
    have y11_0 := cell6_0 ld11
    have y11_1 := cell6_1 ld11
    have y11_2 := cell6_2 ld11
    have y11_3 := cell6_3 ld11
    have y11_4 := cell6_4 ld11
    have y11_5 := cell6_5 ld11
    clear ld11
    have W11 : Wd U1 (.slice sr u cr) u (fun j => X (k + j)) := hS3.out.below (by first | exact hw_U1 | (rw [hD3]; exact hw_U1))
    have W12 : Wd U1 (.slice (some ⟨g, o + k, none⟩) u (rc - k)) u (fun j => X (k + j)) := hT4.out.below (by first | exact hw_U1 | (rw [hD3]; exact hw_U1))
    go_wp2_with fail
    refine (SW.out _ _ _ (by omega) _ _ _ W11 W12).mono ?_
    rintro e v12 ⟨rfl, hb_v12⟩
    have hs_v12 := hw_U1.size
    have cP_v12 : v12.heap[D]? = some (.cells #[.int .u8 t, .int .u8 ft, .int .i8 f, .int .u8 p, .int .u8 w0, .int .u8 w1, .int .u8 w2, .int .u8 w3, .int .u8 w4] 47) := (hb_v12.block (D) (Array.getElem?_eq_some_iff.1 (show U1.heap[D]? = some (.cells #[.int .u8 t, .int .u8 ft, .int .i8 f, .int .u8 p, .int .u8 w0, .int .u8 w1, .int .u8 w2, .int .u8 w3, .int .u8 w4] 47) from cP_U1)).1).trans cP_U1
    have cR_v12 : v12.heap[D2]? = some (.cells #[.string ⟨#[82, 48]⟩, .string tn, .int .i64 fa, .int .i64 fb, .int .i64 f, .slice (some ⟨g, o, none⟩) n rc] 26) := (hb_v12.block (D2) (Array.getElem?_eq_some_iff.1 (show U1.heap[D2]? = some (.cells #[.string ⟨#[82, 48]⟩, .string tn, .int .i64 fa, .int .i64 fb, .int .i64 f, .slice (some ⟨g, o, none⟩) n rc] 26) from cR_U1)).1).trans cR_U1
    have cS_v12 : v12.heap[D3]? = some (.cells #[.string ⟨#[82, 48]⟩, .string tn, .int .i64 fa, .int .i64 fb, .int .i64 (f + k), .slice sr u cr] 26) := (hb_v12.block (D3) (Array.getElem?_eq_some_iff.1 (show U1.heap[D3]? = some (.cells #[.string ⟨#[82, 48]⟩, .string tn, .int .i64 fa, .int .i64 fb, .int .i64 (f + k), .slice sr u cr] 26) from cS_U1)).1).trans cS_U1
    have cT_v12 : v12.heap[D3 + 1]? = some (.cells #[.string ⟨#[82, 48]⟩, .string tn, .int .i64 fa, .int .i64 fb, .int .i64 (f + k), .slice (some ⟨g, o + k, none⟩) u (rc - k)] 26) := (hb_v12.block (D3 + 1) (Array.getElem?_eq_some_iff.1 (show U1.heap[D3 + 1]? = some (.cells #[.string ⟨#[82, 48]⟩, .string tn, .int .i64 fa, .int .i64 fb, .int .i64 (f + k), .slice (some ⟨g, o + k, none⟩) u (rc - k)] 26) from cT_U1)).1).trans cT_U1
    have hw_v12 : Below D3 v5 v12 := (hw_U1).trans (hb_v12.mono (by first | omega | (simp; omega)))
    clear cP_U1 cR_U1 cS_U1 cT_U1 hb_v12 y10_0 y10_1 y10_2 y10_3 y10_4 y10_5 y11_0 y11_1 y11_2 y11_3 y11_4 y11_5 W11 W12 hw_U1 hs_v12
    by_cases h0 : k = 0
    · subst h0
      have HW := Lib.hid (show Below D w (v12) from (HB2.out.trans (((HB3.out.trans ((hw_v12).mono (by first | exact HB3.out.size | (have := HB3.out.size; simp only [hD] at *; omega) | (have := HB3.out.size; omega))))).mono (by first | exact HB2.out.size | (have := HB2.out.size; simp only [hD] at *; omega) | (have := HB2.out.size; omega)))))
      go_wp2
      go_ret
      exact ⟨rfl, by first | exact HW.out | (rw [hD]; exact HW.out)⟩
    · have q8 : ¬ (k : Int) = 0 := by omega
      have ld13 : v12.heap[D2]? = some (.cells #[.string ⟨#[82, 48]⟩, .string tn, .int .i64 fa, .int .i64 fb, .int .i64 f, .slice (some ⟨g, o, none⟩) n rc] 26) := cR_v12
      have y13_0 := cell6_0 ld13
      have y13_1 := cell6_1 ld13
      have y13_2 := cell6_2 ld13
      have y13_3 := cell6_3 ld13
      have y13_4 := cell6_4 ld13
      have y13_5 := cell6_5 ld13
      clear ld13
      have W13 : Wd v12 (.slice (some ⟨g, o, none⟩) n rc) n X := hR3.out.below (by first | exact hw_v12 | (rw [hD3]; exact hw_v12))
      go_wp2_with fail
      refine (LO.out k (by omega) (by omega) _ _ _ W13).mono ?_
      rintro e v14 ⟨⟨sl, cl, rfl, hwd⟩, hb_v14⟩
      have hs_v14 := hw_v12.size
      have cP_v14 : v14.heap[D]? = some (.cells #[.int .u8 t, .int .u8 ft, .int .i8 f, .int .u8 p, .int .u8 w0, .int .u8 w1, .int .u8 w2, .int .u8 w3, .int .u8 w4] 47) := (hb_v14.block (D) (Array.getElem?_eq_some_iff.1 (show v12.heap[D]? = some (.cells #[.int .u8 t, .int .u8 ft, .int .i8 f, .int .u8 p, .int .u8 w0, .int .u8 w1, .int .u8 w2, .int .u8 w3, .int .u8 w4] 47) from cP_v12)).1).trans cP_v12
      have cR_v14 : v14.heap[D2]? = some (.cells #[.string ⟨#[82, 48]⟩, .string tn, .int .i64 fa, .int .i64 fb, .int .i64 f, .slice (some ⟨g, o, none⟩) n rc] 26) := (hb_v14.block (D2) (Array.getElem?_eq_some_iff.1 (show v12.heap[D2]? = some (.cells #[.string ⟨#[82, 48]⟩, .string tn, .int .i64 fa, .int .i64 fb, .int .i64 f, .slice (some ⟨g, o, none⟩) n rc] 26) from cR_v12)).1).trans cR_v12
      have cS_v14 : v14.heap[D3]? = some (.cells #[.string ⟨#[82, 48]⟩, .string tn, .int .i64 fa, .int .i64 fb, .int .i64 (f + k), .slice sr u cr] 26) := (hb_v14.block (D3) (Array.getElem?_eq_some_iff.1 (show v12.heap[D3]? = some (.cells #[.string ⟨#[82, 48]⟩, .string tn, .int .i64 fa, .int .i64 fb, .int .i64 (f + k), .slice sr u cr] 26) from cS_v12)).1).trans cS_v12
      have cT_v14 : v14.heap[D3 + 1]? = some (.cells #[.string ⟨#[82, 48]⟩, .string tn, .int .i64 fa, .int .i64 fb, .int .i64 (f + k), .slice (some ⟨g, o + k, none⟩) u (rc - k)] 26) := (hb_v14.block (D3 + 1) (Array.getElem?_eq_some_iff.1 (show v12.heap[D3 + 1]? = some (.cells #[.string ⟨#[82, 48]⟩, .string tn, .int .i64 fa, .int .i64 fb, .int .i64 (f + k), .slice (some ⟨g, o + k, none⟩) u (rc - k)] 26) from cT_v12)).1).trans cT_v12
      have hw_v14 : Below D3 v5 v14 := (hw_v12).trans (hb_v14.mono (by first | omega | (simp; omega)))
      clear cP_v12 cR_v12 cS_v12 cT_v12 hb_v14 y13_0 y13_1 y13_2 y13_3 y13_4 y13_5 W13 hw_v12 hs_v14
      have hL5 := Lib.hid hwd
      clear hwd
      have hR5 := Lib.hid (hR3.out.below (by first | exact hw_v14 | (rw [hD3]; exact hw_v14)))
      clear hR3
      have hS5 := Lib.hid (hS3.out.below (by first | exact hw_v14 | (rw [hD3]; exact hw_v14)))
      clear hS3
      have hT5 := Lib.hid (hT4.out.below (by first | exact hw_v14 | (rw [hD3]; exact hw_v14)))
      clear hT4
      obtain ⟨D5, hD5⟩ : ∃ D, v14.heap.size = D := ⟨_, rfl⟩
      have G235 : Gi v14 := G23.below (by first | exact hw_v14 | (rw [hD3]; exact hw_v14))
      have HB5 := Lib.hid (hw_v14)
      clear hw_v14
      clear G23
      have ltT5 : D3 + 1 < D5 := by have := (Array.getElem?_eq_some_iff.1 cT_v14).1; omega
      have ld15 : (v14.alloc (.cells #[.string ⟨#[82, 48]⟩, .string tn, .int .i64 fa, .int .i64 fb, .int .i64 f, .slice sl k cl] 26)).heap[D5]? = some (.cells #[.string ⟨#[82, 48]⟩, .string tn, .int .i64 fa, .int .i64 fb, .int .i64 f, .slice sl k cl] 26) := (heap_new (by first | omega | (simp; omega)))
      have y15_0 := cell6_0 ld15
      have y15_1 := cell6_1 ld15
      have y15_2 := cell6_2 ld15
      have y15_3 := cell6_3 ld15
      have y15_4 := cell6_4 ld15
      have y15_5 := cell6_5 ld15
      clear ld15
      have ld16 : (v14.alloc (.cells #[.string ⟨#[82, 48]⟩, .string tn, .int .i64 fa, .int .i64 fb, .int .i64 f, .slice sl k cl] 26)).heap[D3]? = some (.cells #[.string ⟨#[82, 48]⟩, .string tn, .int .i64 fa, .int .i64 fb, .int .i64 (f + k), .slice sr u cr] 26) := (heap_old (o := .cells #[.string ⟨#[82, 48]⟩, .string tn, .int .i64 fa, .int .i64 fb, .int .i64 f, .slice sl k cl] 26) cS_v14)
      have y16_0 := cell6_0 ld16
      have y16_1 := cell6_1 ld16
      have y16_2 := cell6_2 ld16
      have y16_3 := cell6_3 ld16
      have y16_4 := cell6_4 ld16
      have y16_5 := cell6_5 ld16
      clear ld16
      have W14 : Wd (v14.alloc (.cells #[.string ⟨#[82, 48]⟩, .string tn, .int .i64 fa, .int .i64 fb, .int .i64 f, .slice sl k cl] 26)) (.slice sl k cl) k X := hL5.out.below (by first | exact ((Below.refl _ v14).alloc (by first | omega | (simp; omega)) (.cells #[.string ⟨#[82, 48]⟩, .string tn, .int .i64 fa, .int .i64 fb, .int .i64 f, .slice sl k cl] 26)) | (rw [hD5]; exact ((Below.refl _ v14).alloc (by first | omega | (simp; omega)) (.cells #[.string ⟨#[82, 48]⟩, .string tn, .int .i64 fa, .int .i64 fb, .int .i64 f, .slice sl k cl] 26))))
      have W15 : Wd (v14.alloc (.cells #[.string ⟨#[82, 48]⟩, .string tn, .int .i64 fa, .int .i64 fb, .int .i64 f, .slice sl k cl] 26)) (.slice sr u cr) u (fun j => X (k + j)) := hS5.out.below (by first | exact ((Below.refl _ v14).alloc (by first | omega | (simp; omega)) (.cells #[.string ⟨#[82, 48]⟩, .string tn, .int .i64 fa, .int .i64 fb, .int .i64 f, .slice sl k cl] 26)) | (rw [hD5]; exact ((Below.refl _ v14).alloc (by first | omega | (simp; omega)) (.cells #[.string ⟨#[82, 48]⟩, .string tn, .int .i64 fa, .int .i64 fb, .int .i64 f, .slice sl k cl] 26))))
      have ltJ : D5 + 1 ≤ ((v14.alloc (.cells #[.string ⟨#[82, 48]⟩, .string tn, .int .i64 fa, .int .i64 fb, .int .i64 f, .slice sl k cl] 26))).heap.size := by simp; omega
      go_wp2_with fail
      refine (PJ.out k u (by omega) (by omega) (by omega) _ _ _ _ _ W14 W15).mono ?_
      rintro e v17 ⟨⟨sj, cj, rfl, hwd, hN⟩, hb_v17⟩
      have cP_v17 : v17.heap[D]? = some (.cells #[.int .u8 t, .int .u8 ft, .int .i8 f, .int .u8 p, .int .u8 w0, .int .u8 w1, .int .u8 w2, .int .u8 w3, .int .u8 w4] 47) := (hb_v17.block (D) (Array.getElem?_eq_some_iff.1 (show (v14.alloc (.cells #[.string ⟨#[82, 48]⟩, .string tn, .int .i64 fa, .int .i64 fb, .int .i64 f, .slice sl k cl] 26)).heap[D]? = some (.cells #[.int .u8 t, .int .u8 ft, .int .i8 f, .int .u8 p, .int .u8 w0, .int .u8 w1, .int .u8 w2, .int .u8 w3, .int .u8 w4] 47) from (heap_old (o := .cells #[.string ⟨#[82, 48]⟩, .string tn, .int .i64 fa, .int .i64 fb, .int .i64 f, .slice sl k cl] 26) cP_v14))).1).trans (heap_old (o := .cells #[.string ⟨#[82, 48]⟩, .string tn, .int .i64 fa, .int .i64 fb, .int .i64 f, .slice sl k cl] 26) cP_v14)
      have cR_v17 : v17.heap[D2]? = some (.cells #[.string ⟨#[82, 48]⟩, .string tn, .int .i64 fa, .int .i64 fb, .int .i64 f, .slice (some ⟨g, o, none⟩) n rc] 26) := (hb_v17.block (D2) (Array.getElem?_eq_some_iff.1 (show (v14.alloc (.cells #[.string ⟨#[82, 48]⟩, .string tn, .int .i64 fa, .int .i64 fb, .int .i64 f, .slice sl k cl] 26)).heap[D2]? = some (.cells #[.string ⟨#[82, 48]⟩, .string tn, .int .i64 fa, .int .i64 fb, .int .i64 f, .slice (some ⟨g, o, none⟩) n rc] 26) from (heap_old (o := .cells #[.string ⟨#[82, 48]⟩, .string tn, .int .i64 fa, .int .i64 fb, .int .i64 f, .slice sl k cl] 26) cR_v14))).1).trans (heap_old (o := .cells #[.string ⟨#[82, 48]⟩, .string tn, .int .i64 fa, .int .i64 fb, .int .i64 f, .slice sl k cl] 26) cR_v14)
      have cS_v17 : v17.heap[D3]? = some (.cells #[.string ⟨#[82, 48]⟩, .string tn, .int .i64 fa, .int .i64 fb, .int .i64 (f + k), .slice sr u cr] 26) := (hb_v17.block (D3) (Array.getElem?_eq_some_iff.1 (show (v14.alloc (.cells #[.string ⟨#[82, 48]⟩, .string tn, .int .i64 fa, .int .i64 fb, .int .i64 f, .slice sl k cl] 26)).heap[D3]? = some (.cells #[.string ⟨#[82, 48]⟩, .string tn, .int .i64 fa, .int .i64 fb, .int .i64 (f + k), .slice sr u cr] 26) from (heap_old (o := .cells #[.string ⟨#[82, 48]⟩, .string tn, .int .i64 fa, .int .i64 fb, .int .i64 f, .slice sl k cl] 26) cS_v14))).1).trans (heap_old (o := .cells #[.string ⟨#[82, 48]⟩, .string tn, .int .i64 fa, .int .i64 fb, .int .i64 f, .slice sl k cl] 26) cS_v14)
      have cT_v17 : v17.heap[D3 + 1]? = some (.cells #[.string ⟨#[82, 48]⟩, .string tn, .int .i64 fa, .int .i64 fb, .int .i64 (f + k), .slice (some ⟨g, o + k, none⟩) u (rc - k)] 26) := (hb_v17.block (D3 + 1) (Array.getElem?_eq_some_iff.1 (show (v14.alloc (.cells #[.string ⟨#[82, 48]⟩, .string tn, .int .i64 fa, .int .i64 fb, .int .i64 f, .slice sl k cl] 26)).heap[D3 + 1]? = some (.cells #[.string ⟨#[82, 48]⟩, .string tn, .int .i64 fa, .int .i64 fb, .int .i64 (f + k), .slice (some ⟨g, o + k, none⟩) u (rc - k)] 26) from (heap_old (o := .cells #[.string ⟨#[82, 48]⟩, .string tn, .int .i64 fa, .int .i64 fb, .int .i64 f, .slice sl k cl] 26) cT_v14))).1).trans (heap_old (o := .cells #[.string ⟨#[82, 48]⟩, .string tn, .int .i64 fa, .int .i64 fb, .int .i64 f, .slice sl k cl] 26) cT_v14)
      have cL_v17 : v17.heap[D5]? = some (.cells #[.string ⟨#[82, 48]⟩, .string tn, .int .i64 fa, .int .i64 fb, .int .i64 f, .slice sl k cl] 26) := (hb_v17.block (D5) (Array.getElem?_eq_some_iff.1 (show (v14.alloc (.cells #[.string ⟨#[82, 48]⟩, .string tn, .int .i64 fa, .int .i64 fb, .int .i64 f, .slice sl k cl] 26)).heap[D5]? = some (.cells #[.string ⟨#[82, 48]⟩, .string tn, .int .i64 fa, .int .i64 fb, .int .i64 f, .slice sl k cl] 26) from (heap_new (by first | omega | (simp; omega))))).1).trans (heap_new (by first | omega | (simp; omega)))
      have hw_v17 : Below D5 v14 v17 := (((Below.refl _ v14).alloc (by first | omega | (simp; omega)) (.cells #[.string ⟨#[82, 48]⟩, .string tn, .int .i64 fa, .int .i64 fb, .int .i64 f, .slice sl k cl] 26))).trans (hb_v17.mono (by first | omega | (simp; omega)))
      clear cP_v14 cR_v14 cS_v14 cT_v14 hb_v17 y15_0 y15_1 y15_2 y15_3 y15_4 y15_5 y16_0 y16_1 y16_2 y16_3 y16_4 y16_5 W14 W15
      have hN2 : NewS (D5 + 1) (.slice sj (k + u) cj) := fun a n c e => Nat.le_trans ltJ (hN a n c e)
      have ltJ6 : D5 + 1 ≤ v17.heap.size := by have := hw_v17.size; first | omega | (have := (Array.getElem?_eq_some_iff.1 cL_v17).1; omega)
      clear hN ltJ
      have hJ6 := Lib.hid hwd
      clear hwd
      have hR6 := Lib.hid (hR5.out.below (by first | exact hw_v17 | (rw [hD5]; exact hw_v17)))
      clear hR5
      have hS6 := Lib.hid (hS5.out.below (by first | exact hw_v17 | (rw [hD5]; exact hw_v17)))
      clear hS5
      have hT6 := Lib.hid (hT5.out.below (by first | exact hw_v17 | (rw [hD5]; exact hw_v17)))
      clear hT5
      have hL6 := Lib.hid (hL5.out.below (by first | exact hw_v17 | (rw [hD5]; exact hw_v17)))
      clear hL5
      obtain ⟨D6, hD6⟩ : ∃ D, v17.heap.size = D := ⟨_, rfl⟩
      have G2356 : Gi v17 := G235.below (by first | exact hw_v17 | (rw [hD5]; exact hw_v17))
      have HB6 := Lib.hid (hw_v17)
      clear hw_v17
      clear G235
      obtain ⟨V2, hV2⟩ : ∃ V, (v17.alloc (.cells #[.string ⟨#[82, 48]⟩, .string tn, .int .i64 fa, .int .i64 fb, .int .i64 f, .slice sj (k + u) cj] 26)) = V := ⟨_, rfl⟩
      have hw_V2 : Below D6 v17 V2 := by rw [← hV2]; exact ((Below.refl _ v17).alloc (by first | omega | (simp; omega)) (.cells #[.string ⟨#[82, 48]⟩, .string tn, .int .i64 fa, .int .i64 fb, .int .i64 f, .slice sj (k + u) cj] 26))
      have cP_V2 : V2.heap[D]? = some (.cells #[.int .u8 t, .int .u8 ft, .int .i8 f, .int .u8 p, .int .u8 w0, .int .u8 w1, .int .u8 w2, .int .u8 w3, .int .u8 w4] 47) := by rw [← hV2]; exact (heap_old (o := .cells #[.string ⟨#[82, 48]⟩, .string tn, .int .i64 fa, .int .i64 fb, .int .i64 f, .slice sj (k + u) cj] 26) cP_v17)
      have cR_V2 : V2.heap[D2]? = some (.cells #[.string ⟨#[82, 48]⟩, .string tn, .int .i64 fa, .int .i64 fb, .int .i64 f, .slice (some ⟨g, o, none⟩) n rc] 26) := by rw [← hV2]; exact (heap_old (o := .cells #[.string ⟨#[82, 48]⟩, .string tn, .int .i64 fa, .int .i64 fb, .int .i64 f, .slice sj (k + u) cj] 26) cR_v17)
      have cS_V2 : V2.heap[D3]? = some (.cells #[.string ⟨#[82, 48]⟩, .string tn, .int .i64 fa, .int .i64 fb, .int .i64 (f + k), .slice sr u cr] 26) := by rw [← hV2]; exact (heap_old (o := .cells #[.string ⟨#[82, 48]⟩, .string tn, .int .i64 fa, .int .i64 fb, .int .i64 f, .slice sj (k + u) cj] 26) cS_v17)
      have cT_V2 : V2.heap[D3 + 1]? = some (.cells #[.string ⟨#[82, 48]⟩, .string tn, .int .i64 fa, .int .i64 fb, .int .i64 (f + k), .slice (some ⟨g, o + k, none⟩) u (rc - k)] 26) := by rw [← hV2]; exact (heap_old (o := .cells #[.string ⟨#[82, 48]⟩, .string tn, .int .i64 fa, .int .i64 fb, .int .i64 f, .slice sj (k + u) cj] 26) cT_v17)
      have cL_V2 : V2.heap[D5]? = some (.cells #[.string ⟨#[82, 48]⟩, .string tn, .int .i64 fa, .int .i64 fb, .int .i64 f, .slice sl k cl] 26) := by rw [← hV2]; exact (heap_old (o := .cells #[.string ⟨#[82, 48]⟩, .string tn, .int .i64 fa, .int .i64 fb, .int .i64 f, .slice sj (k + u) cj] 26) cL_v17)
      have cJ_V2 : V2.heap[D6]? = some (.cells #[.string ⟨#[82, 48]⟩, .string tn, .int .i64 fa, .int .i64 fb, .int .i64 f, .slice sj (k + u) cj] 26) := by rw [← hV2]; exact (heap_new (by first | omega | (simp; omega)))
      clear cP_v17 cR_v17 cS_v17 cT_v17 cL_v17
      have HEV2 := Lib.hid hV2
      clear hV2
      go_upto_region 17 with fail
      rw [HEV2.out]
      have ld18 : V2.heap[D3 + 1]? = some (.cells #[.string ⟨#[82, 48]⟩, .string tn, .int .i64 fa, .int .i64 fb, .int .i64 (f + k), .slice (some ⟨g, o + k, none⟩) u (rc - k)] 26) := cT_V2
      have y18_0 := cell6_0 ld18
      have y18_1 := cell6_1 ld18
      have y18_2 := cell6_2 ld18
      have y18_3 := cell6_3 ld18
      have y18_4 := cell6_4 ld18
      have y18_5 := cell6_5 ld18
      clear ld18
      have ld19 : V2.heap[D2]? = some (.cells #[.string ⟨#[82, 48]⟩, .string tn, .int .i64 fa, .int .i64 fb, .int .i64 f, .slice (some ⟨g, o, none⟩) n rc] 26) := cR_V2
      have y19_0 := cell6_0 ld19
      have y19_1 := cell6_1 ld19
      have y19_2 := cell6_2 ld19
      have y19_3 := cell6_3 ld19
      have y19_4 := cell6_4 ld19
      have y19_5 := cell6_5 ld19
      clear ld19
      obtain ⟨f0, f1, f2, f3, f4, f5⟩ := free6_at cT_V2
      have hs := HS0.out
      simp only [Int.natCast_add] at hs
      go_region
      clear hs
      have W16 : Wd V2 (.slice sj (k + u) cj) (k + u) X := hJ6.out.below (by first | exact hw_V2 | (rw [hD6]; exact hw_V2))
      have hV3 : Below D3 v5 V2 := (HB5.out.trans (((HB6.out.trans ((hw_V2).mono (by have := HB6.out.size; omega)))).mono (by have := HB5.out.size; omega)))
      obtain ⟨U2, hU2⟩ : ∃ U, ((V2.setCell ⟨D3 + 1, 4, none⟩ (.int .i64 f)).setCell ⟨D3 + 1, 5, none⟩ (.slice (some ⟨g, o, none⟩) (k + u) rc)).drew = U := ⟨_, rfl⟩
      have hw_U2 : Below D3 v5 U2 := by rw [← hU2]; exact ((hV3.setCell (p := ⟨D3 + 1, 4, none⟩) (by first | (simp; done) | (simp; omega)) _).setCell (p := ⟨D3 + 1, 5, none⟩) (by first | (simp; done) | (simp; omega)) _).trans ⟨rfl, rfl, rfl, Nat.le_refl _, fun _ _ => rfl⟩
      have cT_U2 : U2.heap[D3 + 1]? = some (.cells #[.string ⟨#[82, 48]⟩, .string tn, .int .i64 fa, .int .i64 fb, .int .i64 f, .slice (some ⟨g, o, none⟩) (k + u) rc] 26) := by rw [← hU2]; exact set6_5 (set6_4 cT_V2)
      have cJ_U2 : U2.heap[D6]? = some (.cells #[.string ⟨#[82, 48]⟩, .string tn, .int .i64 fa, .int .i64 fb, .int .i64 f, .slice sj (k + u) cj] 26) := by rw [← hU2]; exact (set_other (by omega)).trans ((set_other (by omega)).trans cJ_V2)
      have hJU : Wd U2 (.slice sj (k + u) cj) (k + u) X := by rw [← hU2]; exact Wd.below (wd_set (wd_set W16 hN2 (by omega)) hN2 (by omega)) ⟨rfl, rfl, rfl, Nat.le_refl _, fun _ _ => rfl⟩
      have hRU : Wd U2 (.slice (some ⟨g, o, none⟩) n rc) n X := hRk.out.below (by rw [hD2]; exact HB3.out.trans (hw_U2.mono (by have := HB3.out.size; omega)))
      have hTU : Wd U2 (.slice (some ⟨g, o, none⟩) (k + u) rc) (k + u) X := wd_pre hRU (by omega) (by omega)
      rw [hU2]
      clear hU2 hRU y18_0 y18_1 y18_2 y18_3 y18_4 y18_5 y19_0 y19_1 y19_2 y19_3 y19_4 y19_5 f0 f1 f2 f3 f4 f5 W16 cP_V2 cR_V2 cS_V2 cT_V2 cL_V2 cJ_V2 hw_V2 hV3
      have ld20 : U2.heap[D6]? = some (.cells #[.string ⟨#[82, 48]⟩, .string tn, .int .i64 fa, .int .i64 fb, .int .i64 f, .slice sj (k + u) cj] 26) := cJ_U2
      have y20_0 := cell6_0 ld20
      have y20_1 := cell6_1 ld20
      have y20_2 := cell6_2 ld20
      have y20_3 := cell6_3 ld20
      have y20_4 := cell6_4 ld20
      have y20_5 := cell6_5 ld20
      clear ld20
      have ld21 : U2.heap[D3 + 1]? = some (.cells #[.string ⟨#[82, 48]⟩, .string tn, .int .i64 fa, .int .i64 fb, .int .i64 f, .slice (some ⟨g, o, none⟩) (k + u) rc] 26) := cT_U2
      have y21_0 := cell6_0 ld21
      have y21_1 := cell6_1 ld21
      have y21_2 := cell6_2 ld21
      have y21_3 := cell6_3 ld21
      have y21_4 := cell6_4 ld21
      have y21_5 := cell6_5 ld21
      clear ld21
      go_wp2_with fail
      refine (SW.out _ _ _ (by omega) _ _ _ hJU hTU).mono ?_
      rintro e v22 ⟨rfl, hb_v22⟩
      have hs_v22 := hw_U2.size
      have cT_v22 : v22.heap[D3 + 1]? = some (.cells #[.string ⟨#[82, 48]⟩, .string tn, .int .i64 fa, .int .i64 fb, .int .i64 f, .slice (some ⟨g, o, none⟩) (k + u) rc] 26) := (hb_v22.block (D3 + 1) (Array.getElem?_eq_some_iff.1 (show U2.heap[D3 + 1]? = some (.cells #[.string ⟨#[82, 48]⟩, .string tn, .int .i64 fa, .int .i64 fb, .int .i64 f, .slice (some ⟨g, o, none⟩) (k + u) rc] 26) from cT_U2)).1).trans cT_U2
      have cJ_v22 : v22.heap[D6]? = some (.cells #[.string ⟨#[82, 48]⟩, .string tn, .int .i64 fa, .int .i64 fb, .int .i64 f, .slice sj (k + u) cj] 26) := (hb_v22.block (D6) (Array.getElem?_eq_some_iff.1 (show U2.heap[D6]? = some (.cells #[.string ⟨#[82, 48]⟩, .string tn, .int .i64 fa, .int .i64 fb, .int .i64 f, .slice sj (k + u) cj] 26) from cJ_U2)).1).trans cJ_U2
      have hw_v22 : Below D3 v5 v22 := (hw_U2).trans (hb_v22.mono (by first | omega | (simp; omega)))
      clear cT_U2 cJ_U2 hb_v22 y20_0 y20_1 y20_2 y20_3 y20_4 y20_5 y21_0 y21_1 y21_2 y21_3 y21_4 y21_5 hw_U2 hs_v22
      have HW := Lib.hid (show Below D w (v22) from (HB2.out.trans (((HB3.out.trans ((hw_v22).mono (by first | exact HB3.out.size | (have := HB3.out.size; simp only [hD] at *; omega) | (have := HB3.out.size; omega))))).mono (by first | exact HB2.out.size | (have := HB2.out.size; simp only [hD] at *; omega) | (have := HB2.out.size; omega)))))
      go_wp2
      go_ret
      exact ⟨rfl, by first | exact HW.out | (rw [hD]; exact HW.out)⟩
end Go.Proofs.YtbkbncapgljfaaaGreatDoor
