/- The walk of RankRepitches. -/
import Derived.Test.YtbkbncapgljfaaaGreatDoorRkV
namespace Go.Proofs.YtbkbncapgljfaaaGreatDoor
open Go Go.RowKit Go.Shelf

theorem same_eq (nm tn : ByteArray) (a b f : Int) (n : Nat) (X Y : Nat → Int) (h : ∀ k, k < n → X k = Y k) : sameB nm tn a b f n X nm tn a b f n Y = true := by
  unfold sameB
  exact decide_eq_true ⟨rfl, rfl, ⟨rfl, rfl⟩, rfl, eqW_all h⟩
theorem same_wd (nm tn : ByteArray) (a b f : Int) (n : Nat) (X Y : Nat → Int) (hn : n ≤ 9223372036854775807) (h : ∀ k, k < n → X k = Y k) (va vb : Value) (w : World) (h1 : Wd w va n X) (h2 : Wd w vb n Y) :
    Calls Tryz.prog 30 #[.agg #[.string nm, .string tn, .int .i64 a, .int .i64 b, .int .i64 f, va], .agg #[.string nm, .string tn, .int .i64 a, .int .i64 b, .int .i64 f, vb]] w fun e w' => e = .returned (.bool true) ∧ Below w.heap.size w w' := by
  have h3 := same_c nm tn a b f va n X nm tn a b f vb n Y hn w h1 h2
  rw [same_eq nm tn a b f n X Y h] at h3
  exact h3
theorem wd_nil (w : World) (X : Nat → Int) : Wd w (.slice none 0 0) 0 X := .inl ⟨rfl, _, _, rfl⟩
theorem wd_own {W : World} {base n : Nat} {sr : Option Addr} {mr cr : Nat} {X : Nat → Int} (h : W.ownsRow base 3 1 (.slice sr mr cr) n (rowL X n)) : mr = n ∧ Wd W (.slice sr mr cr) n X := by
  have h1 : Wd W (.slice sr mr cr) n X := wd_of h (fun k hk => rowL_at hk)
  obtain ⟨a, c, e⟩ := h1.len
  cases e
  exact ⟨rfl, h1⟩
theorem repitch_wd (nm tn : ByteArray) (a b f : Int) (n : Nat) (X : Nat → Int) (c d s : Int) (s1 : nm.size ≤ 1099511627776) (s2 : tn.size ≤ 1099511627776) (hn : n ≤ 1099511627776) (h1 : rkE nm tn a b f n X = 0) (h2 : pk c d = 0) (h3 : ShI (a * d) (b * c) s) (h4 : -256 ≤ f - s ∧ f - s ≤ 256) (sa : Option Addr) (cp : Nat) (w : World) (hW1 : Wd w (.slice sa n cp) n X) (G : Gi w) :
    Calls Tryz.prog 29 #[.agg #[.string nm, .string tn, .int .i64 a, .int .i64 b, .int .i64 f, .slice sa n cp], .agg #[.int .i64 c, .int .i64 d]] w fun e w' => (∃ sr cr, e = .returned (.tuple #[.agg #[.string nm, .string tn, .int .i64 c, .int .i64 d, .int .i64 (f - s), .slice sr n cr], .int .i64 0]) ∧ Wd w' (.slice sr n cr) n X) ∧ Below w.heap.size w w' := by
  refine (repitch_ok nm tn a b f sa n cp X c d s1 s2 hn s h1 h2 h3 h4 w hW1 G).mono ?_
  rintro e w' ⟨⟨sr, mr, cr, rfl, hrow⟩, hb⟩
  obtain ⟨rfl, hw⟩ := wd_own hrow
  exact ⟨⟨sr, cr, rfl, hw⟩, hb⟩
theorem repitch_any (nm tn : ByteArray) (a b f : Int) (n : Nat) (X : Nat → Int) (c d : Int) (s1 : nm.size ≤ 1099511627776) (s2 : tn.size ≤ 1099511627776) (hn : n ≤ 1099511627776) (h1 : rkE nm tn a b f n X = 0) :
    ∃ (Nm Tn : ByteArray) (A B Fv : Int) (m : Nat) (ev : Int), (∀ (sa : Option Addr) (cp : Nat) (w : World), Wd w (.slice sa n cp) n X → Gi w → Calls Tryz.prog 29 #[.agg #[.string nm, .string tn, .int .i64 a, .int .i64 b, .int .i64 f, .slice sa n cp], .agg #[.int .i64 c, .int .i64 d]] w fun e w' => (∃ sr cr, e = .returned (.tuple #[.agg #[.string Nm, .string Tn, .int .i64 A, .int .i64 B, .int .i64 Fv, .slice sr m cr], .int .i64 ev]) ∧ Wd w' (.slice sr m cr) m X) ∧ Below w.heap.size w w') ∧
      ((¬ pk c d = 0 ∧ ev = pk c d ∧ Nm = ⟨#[]⟩ ∧ Tn = ⟨#[]⟩ ∧ A = 0 ∧ B = 0 ∧ Fv = 0 ∧ m = 0) ∨ (pk c d = 0 ∧ ∃ s, ShI (a * d) (b * c) s ∧ ¬ (-256 ≤ f - s ∧ f - s ≤ 256) ∧ ev = 3 ∧ Nm = ⟨#[]⟩ ∧ Tn = ⟨#[]⟩ ∧ A = 0 ∧ B = 0 ∧ Fv = 0 ∧ m = 0) ∨ (pk c d = 0 ∧ ∃ s, ShI (a * d) (b * c) s ∧ (-256 ≤ f - s ∧ f - s ≤ 256) ∧ ev = 0 ∧ nm = Nm ∧ tn = Tn ∧ c = A ∧ d = B ∧ f - s = Fv ∧ n = m)) := by
  by_cases h2 : pk c d = 0
  · obtain ⟨_, _, hp, _⟩ := rk_ok h1
    obtain ⟨_, p1, _, p2, p3, _⟩ := pk_ok hp
    obtain ⟨_, r1, _, r2, r3, _⟩ := pk_ok h2
    obtain ⟨s, hs⟩ := shi_ex (x := a * d) (y := b * c) (Int.mul_pos p1 r2) (Int.mul_pos p2 r1)
    by_cases h4 : -256 ≤ f - s ∧ f - s ≤ 256
    · exact ⟨_, _, _, _, _, _, _, fun sa cp w h G => repitch_wd nm tn a b f n X c d s s1 s2 hn h1 h2 hs h4 sa cp w h G, .inr (.inr ⟨h2, s, hs, h4, rfl, rfl, rfl, rfl, rfl, rfl, rfl⟩)⟩
    · exact ⟨_, _, _, _, _, _, _, fun sa cp w h G => (repitch_range nm tn a b f sa n cp X c d s1 s2 hn s h1 h2 hs h4 w h G).mono (fun e w' ⟨he, hb⟩ => ⟨⟨none, 0, he, wd_nil w' X⟩, hb⟩), .inr (.inl ⟨h2, s, hs, h4, rfl, rfl, rfl, rfl, rfl, rfl, rfl⟩)⟩
  · exact ⟨_, _, _, _, _, _, _, fun sa cp w h G => (repitch_feet nm tn a b f sa n cp X c d s1 s2 hn _ h1 rfl h2 w h).mono (fun e w' ⟨he, hb⟩ => ⟨⟨none, 0, he, wd_nil w' X⟩, hb⟩), .inl ⟨h2, rfl, rfl, rfl, rfl, rfl, rfl, rfl⟩⟩
theorem sh_own (a b : Int) (h : 0 < a) (h2 : 0 < b) : ShI (a * b) (b * a) 0 := by
  unfold ShI
  rw [Int.mul_comm b a]
  exact Pt.sh_self (by have := Int.mul_pos h h2; omega)


set_option maxRecDepth 100000 in
set_option maxHeartbeats 4000000 in
theorem repitches_walk (t ft f p w0 w1 w2 w3 w4 : Int) (bt : 0 ≤ t ∧ t ≤ 255) (bft : 0 ≤ ft ∧ ft ≤ 255) (bf : -128 ≤ f ∧ f ≤ 127) (bp : 0 ≤ p ∧ p ≤ 255) (b0 : 0 ≤ w0 ∧ w0 ≤ 255) (b1 : 0 ≤ w1 ∧ w1 ≤ 255) (b2 : 0 ≤ w2 ∧ w2 ≤ 255) (b3 : 0 ≤ w3 ∧ w3 ≤ 255) (b4 : 0 ≤ w4 ∧ w4 ≤ 255) (c d : Int) (w : World) (G : Gi w) :
    Calls Tryz.prog 10 #[.agg #[.int .u8 t, .int .u8 ft, .int .i8 f, .int .u8 p, .int .u8 w0, .int .u8 w1, .int .u8 w2, .int .u8 w3, .int .u8 w4], .agg #[.int .i64 c, .int .i64 d]] w fun e w' => e = .returned (.bool true) ∧ Below w.heap.size w w' := by
  obtain ⟨j, hj, hx⟩ := feet_rem ft bft
  obtain ⟨tm, h3, htm⟩ := plan_tone bt
  obtain ⟨q, hq25, hq⟩ := plan_num bp
  obtain ⟨n, hn⟩ : ∃ n, q + 1 = n := ⟨_, rfl⟩
  obtain ⟨fa, hfa⟩ : ∃ a, (feetF j).1 = a := ⟨_, rfl⟩
  obtain ⟨fb, hfb⟩ : ∃ a, (feetF j).2 = a := ⟨_, rfl⟩
  obtain ⟨tn, htn⟩ : ∃ a, toneB tm = a := ⟨_, rfl⟩
  obtain ⟨X, hX⟩ : ∃ a, xw w0 w1 w2 w3 w4 = a := ⟨_, rfl⟩
  have MK := Lib.hid (fun W => make_c0 t ft f p w0 w1 w2 w3 w4 bt bft bf bp b0 b1 b2 b3 b4 j tm q hj hx h3 htm hq25 hq W)
  have hpk := feetF_pk j hj
  have hnt := tone_name tm h3
  have hXb := fun k => xw_bd b0 b1 b2 b3 b4 k
  have ts := tone_size tm h3
  rw [hfa, hfb, htn, hn, hX] at MK
  rw [hfa, hfb] at hpk
  rw [htn] at hnt ts
  rw [hX] at hXb
  have hn1 : 1 ≤ n ∧ n ≤ 25 := by omega
  have hz : rkE ⟨#[82, 48]⟩ tn fa fb f n X = 0 := rk_of (by decide +kernel) hnt hpk (by omega) (by omega) (by omega) (fun k _ => by have := hXb k; omega)
  have ns : n ≤ 1099511627776 := by omega
  clear hj hx htm hq hfa hfb htn hX h3 hn hnt hq25 bt bft bp b0 b1 b2 b3 b4
  obtain ⟨_, _, hp, hf, hn0, hn128, hx⟩ := rk_ok hz
  obtain ⟨_, p1, _, p2, p3, _⟩ := pk_ok hp
  have n6 : n ≤ 9223372036854775807 := by omega
  obtain ⟨Nm, Tn, A, B, Fv, m, ev, hRP, hcase⟩ := repitch_any ⟨#[82, 48]⟩ tn fa fb f n X c d (by decide) ts ns hz
  have hRO := fun sa cp W h G => repitch_wd ⟨#[82, 48]⟩ tn fa fb f n X fa fb 0 (by decide) ts ns hz hp (sh_own fa fb p1 p2) (by omega) sa cp W h G
  simp only [Int.sub_zero] at hRO
  have KN := Lib.hid (fun W G => known_c W G)
  have RP := Lib.hid hRP
  have RO := Lib.hid hRO
  have SO := Lib.hid (fun va vb W h h' => same_wd ⟨#[82, 48]⟩ tn fa fb f n X X n6 (fun _ _ => rfl) va vb W h h')
  have SZ := Lib.hid (fun va vb W h h' => same_wd ⟨#[]⟩ ⟨#[]⟩ 0 0 0 0 X X (by omega) (fun _ _ => rfl) va vb W h h')
  have SW := Lib.hid (fun g va vb W h h' => same_wd ⟨#[82, 48]⟩ tn c d g n X X n6 (fun _ _ => rfl) va vb W h h')
  have PS := Lib.hid (fun h s hs W G => pshift_ok c d fa fb s h hp hs W G)
  have PC := Lib.hid (fun W => pcheck_any c d W)
  have HPK := Lib.hid (show pk c d = 0 → ∀ s, ShI (fa * d) (fb * c) s → -300 ≤ s ∧ s ≤ 300 from fun h2 s hs => by
    obtain ⟨_, r1, _, r2, r3, _⟩ := pk_ok h2
    obtain ⟨m1, m2⟩ := pr_bd h2 hp
    obtain ⟨m3, m4⟩ : 0 < fb * c ∧ fb * c ≤ 2097152 := by rw [Int.mul_comm]; exact pr_bd hp h2
    exact sh_of_eq hs m1 m2 m3 m4)
  have HC := Lib.hid hcase
  clear hRP hRO hcase hz hx ns ts hpk hXb hn1 hp p1 p2 p3 hn0 n6
  obtain ⟨D, hD⟩ : ∃ D, w.heap.size = D := ⟨_, rfl⟩
  go_enter Tryz.func10, Tryz.ntmps10
  have G1 : Gi ((w.alloc (.cells #[.int .u8 t, .int .u8 ft, .int .i8 f, .int .u8 p, .int .u8 w0, .int .u8 w1, .int .u8 w2, .int .u8 w3, .int .u8 w4] 47)).alloc (.cells #[.int .i64 c, .int .i64 d] 23)) := G.below (by first | exact (((Below.refl _ w).alloc (by first | omega | (simp; omega)) (.cells #[.int .u8 t, .int .u8 ft, .int .i8 f, .int .u8 p, .int .u8 w0, .int .u8 w1, .int .u8 w2, .int .u8 w3, .int .u8 w4] 47)).alloc (by first | omega | (simp; omega)) (.cells #[.int .i64 c, .int .i64 d] 23)) | (rw [hD]; exact (((Below.refl _ w).alloc (by first | omega | (simp; omega)) (.cells #[.int .u8 t, .int .u8 ft, .int .i8 f, .int .u8 p, .int .u8 w0, .int .u8 w1, .int .u8 w2, .int .u8 w3, .int .u8 w4] 47)).alloc (by first | omega | (simp; omega)) (.cells #[.int .i64 c, .int .i64 d] 23))))
  go_wp2_with fail
  refine (KN.out _ G1).mono ?_
  rintro e v1 ⟨rfl, hb_v1⟩
  have cP_v1 : v1.heap[D]? = some (.cells #[.int .u8 t, .int .u8 ft, .int .i8 f, .int .u8 p, .int .u8 w0, .int .u8 w1, .int .u8 w2, .int .u8 w3, .int .u8 w4] 47) := (hb_v1.block (D) (Array.getElem?_eq_some_iff.1 (show ((w.alloc (.cells #[.int .u8 t, .int .u8 ft, .int .i8 f, .int .u8 p, .int .u8 w0, .int .u8 w1, .int .u8 w2, .int .u8 w3, .int .u8 w4] 47)).alloc (.cells #[.int .i64 c, .int .i64 d] 23)).heap[D]? = some (.cells #[.int .u8 t, .int .u8 ft, .int .i8 f, .int .u8 p, .int .u8 w0, .int .u8 w1, .int .u8 w2, .int .u8 w3, .int .u8 w4] 47) from (heap_old (o := .cells #[.int .i64 c, .int .i64 d] 23) (heap_new (by first | omega | (simp; omega)))))).1).trans (heap_old (o := .cells #[.int .i64 c, .int .i64 d] 23) (heap_new (by first | omega | (simp; omega))))
  have cQ_v1 : v1.heap[D + 1]? = some (.cells #[.int .i64 c, .int .i64 d] 23) := (hb_v1.block (D + 1) (Array.getElem?_eq_some_iff.1 (show ((w.alloc (.cells #[.int .u8 t, .int .u8 ft, .int .i8 f, .int .u8 p, .int .u8 w0, .int .u8 w1, .int .u8 w2, .int .u8 w3, .int .u8 w4] 47)).alloc (.cells #[.int .i64 c, .int .i64 d] 23)).heap[D + 1]? = some (.cells #[.int .i64 c, .int .i64 d] 23) from (heap_new (by first | omega | (simp; omega))))).1).trans (heap_new (by first | omega | (simp; omega)))
  have hw_v1 : Below D w v1 := ((((Below.refl _ w).alloc (by first | omega | (simp; omega)) (.cells #[.int .u8 t, .int .u8 ft, .int .i8 f, .int .u8 p, .int .u8 w0, .int .u8 w1, .int .u8 w2, .int .u8 w3, .int .u8 w4] 47)).alloc (by first | omega | (simp; omega)) (.cells #[.int .i64 c, .int .i64 d] 23))).trans (hb_v1.mono (by first | omega | (simp; omega)))
  clear hb_v1 G1
  have ld2 : v1.heap[D]? = some (.cells #[.int .u8 t, .int .u8 ft, .int .i8 f, .int .u8 p, .int .u8 w0, .int .u8 w1, .int .u8 w2, .int .u8 w3, .int .u8 w4] 47) := cP_v1
  obtain ⟨y2_0, y2_1, y2_2, y2_3, y2_4, y2_5, y2_6, y2_7, y2_8⟩ := plan_cells ld2
  clear ld2
  go_wp2_with fail
  refine (MK.out _).mono ?_
  rintro e v3 ⟨⟨v0, rfl, hwd⟩, hb_v3⟩
  have hs_v3 := hw_v1.size
  have cP_v3 : v3.heap[D]? = some (.cells #[.int .u8 t, .int .u8 ft, .int .i8 f, .int .u8 p, .int .u8 w0, .int .u8 w1, .int .u8 w2, .int .u8 w3, .int .u8 w4] 47) := (hb_v3.block (D) (Array.getElem?_eq_some_iff.1 (show v1.heap[D]? = some (.cells #[.int .u8 t, .int .u8 ft, .int .i8 f, .int .u8 p, .int .u8 w0, .int .u8 w1, .int .u8 w2, .int .u8 w3, .int .u8 w4] 47) from cP_v1)).1).trans cP_v1
  have cQ_v3 : v3.heap[D + 1]? = some (.cells #[.int .i64 c, .int .i64 d] 23) := (hb_v3.block (D + 1) (Array.getElem?_eq_some_iff.1 (show v1.heap[D + 1]? = some (.cells #[.int .i64 c, .int .i64 d] 23) from cQ_v1)).1).trans cQ_v1
  have hw_v3 : Below D w v3 := (hw_v1).trans (hb_v3.mono (by first | omega | (simp; omega)))
  clear cP_v1 cQ_v1 hb_v3 y2_0 y2_1 y2_2 y2_3 y2_4 y2_5 y2_6 y2_7 y2_8 hw_v1 hs_v3
  obtain ⟨ra, rc, rfl⟩ := hwd.len
  have hR2 := Lib.hid hwd
  clear hwd
  obtain ⟨D2, hD2⟩ : ∃ D, v3.heap.size = D := ⟨_, rfl⟩
  have G2 : Gi v3 := G.below (by first | exact hw_v3 | (rw [hD]; exact hw_v3))
  have HB2 := Lib.hid (hw_v3)
  clear hw_v3
  have ld4 : (v3.alloc (.cells #[.string ⟨#[82, 48]⟩, .string tn, .int .i64 fa, .int .i64 fb, .int .i64 f, .slice ra n rc] 26)).heap[D2]? = some (.cells #[.string ⟨#[82, 48]⟩, .string tn, .int .i64 fa, .int .i64 fb, .int .i64 f, .slice ra n rc] 26) := (heap_new (by first | omega | (simp; omega)))
  have y4_0 := cell6_0 ld4
  have y4_1 := cell6_1 ld4
  have y4_2 := cell6_2 ld4
  have y4_3 := cell6_3 ld4
  have y4_4 := cell6_4 ld4
  have y4_5 := cell6_5 ld4
  clear ld4
  have ld5 : (v3.alloc (.cells #[.string ⟨#[82, 48]⟩, .string tn, .int .i64 fa, .int .i64 fb, .int .i64 f, .slice ra n rc] 26)).heap[D + 1]? = some (.cells #[.int .i64 c, .int .i64 d] 23) := (heap_old (o := .cells #[.string ⟨#[82, 48]⟩, .string tn, .int .i64 fa, .int .i64 fb, .int .i64 f, .slice ra n rc] 26) cQ_v3)
  have y5_0 := cell2_0 ld5
  have y5_1 := cell2_1 ld5
  clear ld5
  have W2 : Wd (v3.alloc (.cells #[.string ⟨#[82, 48]⟩, .string tn, .int .i64 fa, .int .i64 fb, .int .i64 f, .slice ra n rc] 26)) (.slice ra n rc) n X := hR2.out.below (by first | exact ((Below.refl _ v3).alloc (by first | omega | (simp; omega)) (.cells #[.string ⟨#[82, 48]⟩, .string tn, .int .i64 fa, .int .i64 fb, .int .i64 f, .slice ra n rc] 26)) | (rw [hD2]; exact ((Below.refl _ v3).alloc (by first | omega | (simp; omega)) (.cells #[.string ⟨#[82, 48]⟩, .string tn, .int .i64 fa, .int .i64 fb, .int .i64 f, .slice ra n rc] 26))))
  have G3 : Gi (v3.alloc (.cells #[.string ⟨#[82, 48]⟩, .string tn, .int .i64 fa, .int .i64 fb, .int .i64 f, .slice ra n rc] 26)) := G2.below (by first | exact ((Below.refl _ v3).alloc (by first | omega | (simp; omega)) (.cells #[.string ⟨#[82, 48]⟩, .string tn, .int .i64 fa, .int .i64 fb, .int .i64 f, .slice ra n rc] 26)) | (rw [hD2]; exact ((Below.refl _ v3).alloc (by first | omega | (simp; omega)) (.cells #[.string ⟨#[82, 48]⟩, .string tn, .int .i64 fa, .int .i64 fb, .int .i64 f, .slice ra n rc] 26))))
  go_wp2_with fail
  refine (RP.out _ _ _ W2 G3).mono ?_
  rintro e v6 ⟨⟨sr, cr, rfl, hwd⟩, hb_v6⟩
  have cP_v6 : v6.heap[D]? = some (.cells #[.int .u8 t, .int .u8 ft, .int .i8 f, .int .u8 p, .int .u8 w0, .int .u8 w1, .int .u8 w2, .int .u8 w3, .int .u8 w4] 47) := (hb_v6.block (D) (Array.getElem?_eq_some_iff.1 (show (v3.alloc (.cells #[.string ⟨#[82, 48]⟩, .string tn, .int .i64 fa, .int .i64 fb, .int .i64 f, .slice ra n rc] 26)).heap[D]? = some (.cells #[.int .u8 t, .int .u8 ft, .int .i8 f, .int .u8 p, .int .u8 w0, .int .u8 w1, .int .u8 w2, .int .u8 w3, .int .u8 w4] 47) from (heap_old (o := .cells #[.string ⟨#[82, 48]⟩, .string tn, .int .i64 fa, .int .i64 fb, .int .i64 f, .slice ra n rc] 26) cP_v3))).1).trans (heap_old (o := .cells #[.string ⟨#[82, 48]⟩, .string tn, .int .i64 fa, .int .i64 fb, .int .i64 f, .slice ra n rc] 26) cP_v3)
  have cQ_v6 : v6.heap[D + 1]? = some (.cells #[.int .i64 c, .int .i64 d] 23) := (hb_v6.block (D + 1) (Array.getElem?_eq_some_iff.1 (show (v3.alloc (.cells #[.string ⟨#[82, 48]⟩, .string tn, .int .i64 fa, .int .i64 fb, .int .i64 f, .slice ra n rc] 26)).heap[D + 1]? = some (.cells #[.int .i64 c, .int .i64 d] 23) from (heap_old (o := .cells #[.string ⟨#[82, 48]⟩, .string tn, .int .i64 fa, .int .i64 fb, .int .i64 f, .slice ra n rc] 26) cQ_v3))).1).trans (heap_old (o := .cells #[.string ⟨#[82, 48]⟩, .string tn, .int .i64 fa, .int .i64 fb, .int .i64 f, .slice ra n rc] 26) cQ_v3)
  have cR_v6 : v6.heap[D2]? = some (.cells #[.string ⟨#[82, 48]⟩, .string tn, .int .i64 fa, .int .i64 fb, .int .i64 f, .slice ra n rc] 26) := (hb_v6.block (D2) (Array.getElem?_eq_some_iff.1 (show (v3.alloc (.cells #[.string ⟨#[82, 48]⟩, .string tn, .int .i64 fa, .int .i64 fb, .int .i64 f, .slice ra n rc] 26)).heap[D2]? = some (.cells #[.string ⟨#[82, 48]⟩, .string tn, .int .i64 fa, .int .i64 fb, .int .i64 f, .slice ra n rc] 26) from (heap_new (by first | omega | (simp; omega))))).1).trans (heap_new (by first | omega | (simp; omega)))
  have hw_v6 : Below D2 v3 v6 := (((Below.refl _ v3).alloc (by first | omega | (simp; omega)) (.cells #[.string ⟨#[82, 48]⟩, .string tn, .int .i64 fa, .int .i64 fb, .int .i64 f, .slice ra n rc] 26))).trans (hb_v6.mono (by first | omega | (simp; omega)))
  clear cP_v3 cQ_v3 hb_v6 y4_0 y4_1 y4_2 y4_3 y4_4 y4_5 y5_0 y5_1 W2 G3
  have hS3 := Lib.hid hwd
  clear hwd
  have hR3 := Lib.hid (hR2.out.below (by first | exact hw_v6 | (rw [hD2]; exact hw_v6)))
  clear hR2
  obtain ⟨D3, hD3⟩ : ∃ D, v6.heap.size = D := ⟨_, rfl⟩
  have G23 : Gi v6 := G2.below (by first | exact hw_v6 | (rw [hD2]; exact hw_v6))
  have HB3 := Lib.hid (hw_v6)
  clear hw_v6
  clear G2
  have ld7 : (v6.alloc (.cells #[.string Nm, .string Tn, .int .i64 A, .int .i64 B, .int .i64 Fv, .slice sr m cr] 26)).heap[D2]? = some (.cells #[.string ⟨#[82, 48]⟩, .string tn, .int .i64 fa, .int .i64 fb, .int .i64 f, .slice ra n rc] 26) := (heap_old (o := .cells #[.string Nm, .string Tn, .int .i64 A, .int .i64 B, .int .i64 Fv, .slice sr m cr] 26) cR_v6)
  have y7_0 := cell6_0 ld7
  have y7_1 := cell6_1 ld7
  have y7_2 := cell6_2 ld7
  have y7_3 := cell6_3 ld7
  have y7_4 := cell6_4 ld7
  have y7_5 := cell6_5 ld7
  clear ld7
  have ld8 : (v6.alloc (.cells #[.string Nm, .string Tn, .int .i64 A, .int .i64 B, .int .i64 Fv, .slice sr m cr] 26)).heap[D3]? = some (.cells #[.string Nm, .string Tn, .int .i64 A, .int .i64 B, .int .i64 Fv, .slice sr m cr] 26) := (heap_new (by first | omega | (simp; omega)))
  have y8_0 := cell6_0 ld8
  have y8_1 := cell6_1 ld8
  have y8_2 := cell6_2 ld8
  have y8_3 := cell6_3 ld8
  have y8_4 := cell6_4 ld8
  have y8_5 := cell6_5 ld8
  clear ld8
  have W4 : Wd (v6.alloc (.cells #[.string Nm, .string Tn, .int .i64 A, .int .i64 B, .int .i64 Fv, .slice sr m cr] 26)) (.slice ra n rc) n X := hR3.out.below (by first | exact ((Below.refl _ v6).alloc (by first | omega | (simp; omega)) (.cells #[.string Nm, .string Tn, .int .i64 A, .int .i64 B, .int .i64 Fv, .slice sr m cr] 26)) | (rw [hD3]; exact ((Below.refl _ v6).alloc (by first | omega | (simp; omega)) (.cells #[.string Nm, .string Tn, .int .i64 A, .int .i64 B, .int .i64 Fv, .slice sr m cr] 26))))
  have G5 : Gi (v6.alloc (.cells #[.string Nm, .string Tn, .int .i64 A, .int .i64 B, .int .i64 Fv, .slice sr m cr] 26)) := G23.below (by first | exact ((Below.refl _ v6).alloc (by first | omega | (simp; omega)) (.cells #[.string Nm, .string Tn, .int .i64 A, .int .i64 B, .int .i64 Fv, .slice sr m cr] 26)) | (rw [hD3]; exact ((Below.refl _ v6).alloc (by first | omega | (simp; omega)) (.cells #[.string Nm, .string Tn, .int .i64 A, .int .i64 B, .int .i64 Fv, .slice sr m cr] 26))))
  go_wp2_with fail
  refine (RO.out _ _ _ W4 G5).mono ?_
  rintro e v9 ⟨⟨so, co, rfl, hwd⟩, hb_v9⟩
  have cP_v9 : v9.heap[D]? = some (.cells #[.int .u8 t, .int .u8 ft, .int .i8 f, .int .u8 p, .int .u8 w0, .int .u8 w1, .int .u8 w2, .int .u8 w3, .int .u8 w4] 47) := (hb_v9.block (D) (Array.getElem?_eq_some_iff.1 (show (v6.alloc (.cells #[.string Nm, .string Tn, .int .i64 A, .int .i64 B, .int .i64 Fv, .slice sr m cr] 26)).heap[D]? = some (.cells #[.int .u8 t, .int .u8 ft, .int .i8 f, .int .u8 p, .int .u8 w0, .int .u8 w1, .int .u8 w2, .int .u8 w3, .int .u8 w4] 47) from (heap_old (o := .cells #[.string Nm, .string Tn, .int .i64 A, .int .i64 B, .int .i64 Fv, .slice sr m cr] 26) cP_v6))).1).trans (heap_old (o := .cells #[.string Nm, .string Tn, .int .i64 A, .int .i64 B, .int .i64 Fv, .slice sr m cr] 26) cP_v6)
  have cQ_v9 : v9.heap[D + 1]? = some (.cells #[.int .i64 c, .int .i64 d] 23) := (hb_v9.block (D + 1) (Array.getElem?_eq_some_iff.1 (show (v6.alloc (.cells #[.string Nm, .string Tn, .int .i64 A, .int .i64 B, .int .i64 Fv, .slice sr m cr] 26)).heap[D + 1]? = some (.cells #[.int .i64 c, .int .i64 d] 23) from (heap_old (o := .cells #[.string Nm, .string Tn, .int .i64 A, .int .i64 B, .int .i64 Fv, .slice sr m cr] 26) cQ_v6))).1).trans (heap_old (o := .cells #[.string Nm, .string Tn, .int .i64 A, .int .i64 B, .int .i64 Fv, .slice sr m cr] 26) cQ_v6)
  have cR_v9 : v9.heap[D2]? = some (.cells #[.string ⟨#[82, 48]⟩, .string tn, .int .i64 fa, .int .i64 fb, .int .i64 f, .slice ra n rc] 26) := (hb_v9.block (D2) (Array.getElem?_eq_some_iff.1 (show (v6.alloc (.cells #[.string Nm, .string Tn, .int .i64 A, .int .i64 B, .int .i64 Fv, .slice sr m cr] 26)).heap[D2]? = some (.cells #[.string ⟨#[82, 48]⟩, .string tn, .int .i64 fa, .int .i64 fb, .int .i64 f, .slice ra n rc] 26) from (heap_old (o := .cells #[.string Nm, .string Tn, .int .i64 A, .int .i64 B, .int .i64 Fv, .slice sr m cr] 26) cR_v6))).1).trans (heap_old (o := .cells #[.string Nm, .string Tn, .int .i64 A, .int .i64 B, .int .i64 Fv, .slice sr m cr] 26) cR_v6)
  have cS_v9 : v9.heap[D3]? = some (.cells #[.string Nm, .string Tn, .int .i64 A, .int .i64 B, .int .i64 Fv, .slice sr m cr] 26) := (hb_v9.block (D3) (Array.getElem?_eq_some_iff.1 (show (v6.alloc (.cells #[.string Nm, .string Tn, .int .i64 A, .int .i64 B, .int .i64 Fv, .slice sr m cr] 26)).heap[D3]? = some (.cells #[.string Nm, .string Tn, .int .i64 A, .int .i64 B, .int .i64 Fv, .slice sr m cr] 26) from (heap_new (by first | omega | (simp; omega))))).1).trans (heap_new (by first | omega | (simp; omega)))
  have hw_v9 : Below D3 v6 v9 := (((Below.refl _ v6).alloc (by first | omega | (simp; omega)) (.cells #[.string Nm, .string Tn, .int .i64 A, .int .i64 B, .int .i64 Fv, .slice sr m cr] 26))).trans (hb_v9.mono (by first | omega | (simp; omega)))
  clear cP_v6 cQ_v6 cR_v6 hb_v9 y7_0 y7_1 y7_2 y7_3 y7_4 y7_5 y8_0 y8_1 y8_2 y8_3 y8_4 y8_5 W4 G5
  have hO4 := Lib.hid hwd
  clear hwd
  have hR4 := Lib.hid (hR3.out.below (by first | exact hw_v9 | (rw [hD3]; exact hw_v9)))
  clear hR3
  have hS4 := Lib.hid (hS3.out.below (by first | exact hw_v9 | (rw [hD3]; exact hw_v9)))
  clear hS3
  obtain ⟨D4, hD4⟩ : ∃ D, v9.heap.size = D := ⟨_, rfl⟩
  have G234 : Gi v9 := G23.below (by first | exact hw_v9 | (rw [hD3]; exact hw_v9))
  have HB4 := Lib.hid (hw_v9)
  clear hw_v9
  clear G23
  have ld10 : (v9.alloc (.cells #[.string ⟨#[82, 48]⟩, .string tn, .int .i64 fa, .int .i64 fb, .int .i64 f, .slice so n co] 26)).heap[D4]? = some (.cells #[.string ⟨#[82, 48]⟩, .string tn, .int .i64 fa, .int .i64 fb, .int .i64 f, .slice so n co] 26) := (heap_new (by first | omega | (simp; omega)))
  have y10_0 := cell6_0 ld10
  have y10_1 := cell6_1 ld10
  have y10_2 := cell6_2 ld10
  have y10_3 := cell6_3 ld10
  have y10_4 := cell6_4 ld10
  have y10_5 := cell6_5 ld10
  clear ld10
  have ld11 : (v9.alloc (.cells #[.string ⟨#[82, 48]⟩, .string tn, .int .i64 fa, .int .i64 fb, .int .i64 f, .slice so n co] 26)).heap[D2]? = some (.cells #[.string ⟨#[82, 48]⟩, .string tn, .int .i64 fa, .int .i64 fb, .int .i64 f, .slice ra n rc] 26) := (heap_old (o := .cells #[.string ⟨#[82, 48]⟩, .string tn, .int .i64 fa, .int .i64 fb, .int .i64 f, .slice so n co] 26) cR_v9)
  have y11_0 := cell6_0 ld11
  have y11_1 := cell6_1 ld11
  have y11_2 := cell6_2 ld11
  have y11_3 := cell6_3 ld11
  have y11_4 := cell6_4 ld11
  have y11_5 := cell6_5 ld11
  clear ld11
  have W6 : Wd (v9.alloc (.cells #[.string ⟨#[82, 48]⟩, .string tn, .int .i64 fa, .int .i64 fb, .int .i64 f, .slice so n co] 26)) (.slice so n co) n X := hO4.out.below (by first | exact ((Below.refl _ v9).alloc (by first | omega | (simp; omega)) (.cells #[.string ⟨#[82, 48]⟩, .string tn, .int .i64 fa, .int .i64 fb, .int .i64 f, .slice so n co] 26)) | (rw [hD4]; exact ((Below.refl _ v9).alloc (by first | omega | (simp; omega)) (.cells #[.string ⟨#[82, 48]⟩, .string tn, .int .i64 fa, .int .i64 fb, .int .i64 f, .slice so n co] 26))))
  have W7 : Wd (v9.alloc (.cells #[.string ⟨#[82, 48]⟩, .string tn, .int .i64 fa, .int .i64 fb, .int .i64 f, .slice so n co] 26)) (.slice ra n rc) n X := hR4.out.below (by first | exact ((Below.refl _ v9).alloc (by first | omega | (simp; omega)) (.cells #[.string ⟨#[82, 48]⟩, .string tn, .int .i64 fa, .int .i64 fb, .int .i64 f, .slice so n co] 26)) | (rw [hD4]; exact ((Below.refl _ v9).alloc (by first | omega | (simp; omega)) (.cells #[.string ⟨#[82, 48]⟩, .string tn, .int .i64 fa, .int .i64 fb, .int .i64 f, .slice so n co] 26))))
  go_wp2_with fail
  refine (SO.out _ _ _ W6 W7).mono ?_
  rintro e v12 ⟨rfl, hb_v12⟩
  have cP_v12 : v12.heap[D]? = some (.cells #[.int .u8 t, .int .u8 ft, .int .i8 f, .int .u8 p, .int .u8 w0, .int .u8 w1, .int .u8 w2, .int .u8 w3, .int .u8 w4] 47) := (hb_v12.block (D) (Array.getElem?_eq_some_iff.1 (show (v9.alloc (.cells #[.string ⟨#[82, 48]⟩, .string tn, .int .i64 fa, .int .i64 fb, .int .i64 f, .slice so n co] 26)).heap[D]? = some (.cells #[.int .u8 t, .int .u8 ft, .int .i8 f, .int .u8 p, .int .u8 w0, .int .u8 w1, .int .u8 w2, .int .u8 w3, .int .u8 w4] 47) from (heap_old (o := .cells #[.string ⟨#[82, 48]⟩, .string tn, .int .i64 fa, .int .i64 fb, .int .i64 f, .slice so n co] 26) cP_v9))).1).trans (heap_old (o := .cells #[.string ⟨#[82, 48]⟩, .string tn, .int .i64 fa, .int .i64 fb, .int .i64 f, .slice so n co] 26) cP_v9)
  have cQ_v12 : v12.heap[D + 1]? = some (.cells #[.int .i64 c, .int .i64 d] 23) := (hb_v12.block (D + 1) (Array.getElem?_eq_some_iff.1 (show (v9.alloc (.cells #[.string ⟨#[82, 48]⟩, .string tn, .int .i64 fa, .int .i64 fb, .int .i64 f, .slice so n co] 26)).heap[D + 1]? = some (.cells #[.int .i64 c, .int .i64 d] 23) from (heap_old (o := .cells #[.string ⟨#[82, 48]⟩, .string tn, .int .i64 fa, .int .i64 fb, .int .i64 f, .slice so n co] 26) cQ_v9))).1).trans (heap_old (o := .cells #[.string ⟨#[82, 48]⟩, .string tn, .int .i64 fa, .int .i64 fb, .int .i64 f, .slice so n co] 26) cQ_v9)
  have cR_v12 : v12.heap[D2]? = some (.cells #[.string ⟨#[82, 48]⟩, .string tn, .int .i64 fa, .int .i64 fb, .int .i64 f, .slice ra n rc] 26) := (hb_v12.block (D2) (Array.getElem?_eq_some_iff.1 (show (v9.alloc (.cells #[.string ⟨#[82, 48]⟩, .string tn, .int .i64 fa, .int .i64 fb, .int .i64 f, .slice so n co] 26)).heap[D2]? = some (.cells #[.string ⟨#[82, 48]⟩, .string tn, .int .i64 fa, .int .i64 fb, .int .i64 f, .slice ra n rc] 26) from (heap_old (o := .cells #[.string ⟨#[82, 48]⟩, .string tn, .int .i64 fa, .int .i64 fb, .int .i64 f, .slice so n co] 26) cR_v9))).1).trans (heap_old (o := .cells #[.string ⟨#[82, 48]⟩, .string tn, .int .i64 fa, .int .i64 fb, .int .i64 f, .slice so n co] 26) cR_v9)
  have cS_v12 : v12.heap[D3]? = some (.cells #[.string Nm, .string Tn, .int .i64 A, .int .i64 B, .int .i64 Fv, .slice sr m cr] 26) := (hb_v12.block (D3) (Array.getElem?_eq_some_iff.1 (show (v9.alloc (.cells #[.string ⟨#[82, 48]⟩, .string tn, .int .i64 fa, .int .i64 fb, .int .i64 f, .slice so n co] 26)).heap[D3]? = some (.cells #[.string Nm, .string Tn, .int .i64 A, .int .i64 B, .int .i64 Fv, .slice sr m cr] 26) from (heap_old (o := .cells #[.string ⟨#[82, 48]⟩, .string tn, .int .i64 fa, .int .i64 fb, .int .i64 f, .slice so n co] 26) cS_v9))).1).trans (heap_old (o := .cells #[.string ⟨#[82, 48]⟩, .string tn, .int .i64 fa, .int .i64 fb, .int .i64 f, .slice so n co] 26) cS_v9)
  have cO_v12 : v12.heap[D4]? = some (.cells #[.string ⟨#[82, 48]⟩, .string tn, .int .i64 fa, .int .i64 fb, .int .i64 f, .slice so n co] 26) := (hb_v12.block (D4) (Array.getElem?_eq_some_iff.1 (show (v9.alloc (.cells #[.string ⟨#[82, 48]⟩, .string tn, .int .i64 fa, .int .i64 fb, .int .i64 f, .slice so n co] 26)).heap[D4]? = some (.cells #[.string ⟨#[82, 48]⟩, .string tn, .int .i64 fa, .int .i64 fb, .int .i64 f, .slice so n co] 26) from (heap_new (by first | omega | (simp; omega))))).1).trans (heap_new (by first | omega | (simp; omega)))
  have hw_v12 : Below D4 v9 v12 := (((Below.refl _ v9).alloc (by first | omega | (simp; omega)) (.cells #[.string ⟨#[82, 48]⟩, .string tn, .int .i64 fa, .int .i64 fb, .int .i64 f, .slice so n co] 26))).trans (hb_v12.mono (by first | omega | (simp; omega)))
  clear cP_v9 cQ_v9 cR_v9 cS_v9 hb_v12 y10_0 y10_1 y10_2 y10_3 y10_4 y10_5 y11_0 y11_1 y11_2 y11_3 y11_4 y11_5 W6 W7
  have ld13 : v12.heap[D + 1]? = some (.cells #[.int .i64 c, .int .i64 d] 23) := cQ_v12
  have y13_0 := cell2_0 ld13
  have y13_1 := cell2_1 ld13
  clear ld13
  go_wp2_with fail
  refine (PC.out _).mono ?_
  rintro e v14 ⟨rfl, hb_v14⟩
  have hs_v14 := hw_v12.size
  have cP_v14 : v14.heap[D]? = some (.cells #[.int .u8 t, .int .u8 ft, .int .i8 f, .int .u8 p, .int .u8 w0, .int .u8 w1, .int .u8 w2, .int .u8 w3, .int .u8 w4] 47) := (hb_v14.block (D) (Array.getElem?_eq_some_iff.1 (show v12.heap[D]? = some (.cells #[.int .u8 t, .int .u8 ft, .int .i8 f, .int .u8 p, .int .u8 w0, .int .u8 w1, .int .u8 w2, .int .u8 w3, .int .u8 w4] 47) from cP_v12)).1).trans cP_v12
  have cQ_v14 : v14.heap[D + 1]? = some (.cells #[.int .i64 c, .int .i64 d] 23) := (hb_v14.block (D + 1) (Array.getElem?_eq_some_iff.1 (show v12.heap[D + 1]? = some (.cells #[.int .i64 c, .int .i64 d] 23) from cQ_v12)).1).trans cQ_v12
  have cR_v14 : v14.heap[D2]? = some (.cells #[.string ⟨#[82, 48]⟩, .string tn, .int .i64 fa, .int .i64 fb, .int .i64 f, .slice ra n rc] 26) := (hb_v14.block (D2) (Array.getElem?_eq_some_iff.1 (show v12.heap[D2]? = some (.cells #[.string ⟨#[82, 48]⟩, .string tn, .int .i64 fa, .int .i64 fb, .int .i64 f, .slice ra n rc] 26) from cR_v12)).1).trans cR_v12
  have cS_v14 : v14.heap[D3]? = some (.cells #[.string Nm, .string Tn, .int .i64 A, .int .i64 B, .int .i64 Fv, .slice sr m cr] 26) := (hb_v14.block (D3) (Array.getElem?_eq_some_iff.1 (show v12.heap[D3]? = some (.cells #[.string Nm, .string Tn, .int .i64 A, .int .i64 B, .int .i64 Fv, .slice sr m cr] 26) from cS_v12)).1).trans cS_v12
  have cO_v14 : v14.heap[D4]? = some (.cells #[.string ⟨#[82, 48]⟩, .string tn, .int .i64 fa, .int .i64 fb, .int .i64 f, .slice so n co] 26) := (hb_v14.block (D4) (Array.getElem?_eq_some_iff.1 (show v12.heap[D4]? = some (.cells #[.string ⟨#[82, 48]⟩, .string tn, .int .i64 fa, .int .i64 fb, .int .i64 f, .slice so n co] 26) from cO_v12)).1).trans cO_v12
  have hw_v14 : Below D4 v9 v14 := (hw_v12).trans (hb_v14.mono (by first | omega | (simp; omega)))
  clear cP_v12 cQ_v12 cR_v12 cS_v12 cO_v12 hb_v14 y13_0 y13_1 hw_v12 hs_v14
  rcases HC.out with ⟨h2, rfl, rfl, rfl, rfl, rfl, rfl, rfl⟩ | ⟨h2, s, hs, g1, rfl, rfl, rfl, rfl, rfl, rfl, rfl⟩ | ⟨h2, s, hs, g1, rfl, rfl, rfl, rfl, rfl, rfl, rfl⟩
  · obtain ⟨z, hz⟩ : ∃ z, pk c d = z := ⟨_, rfl⟩
    rw [hz] at h2 ⊢
    clear hz
    have ld15 : v14.heap[D3]? = some (.cells #[.string ⟨#[]⟩, .string ⟨#[]⟩, .int .i64 0, .int .i64 0, .int .i64 0, .slice sr 0 cr] 26) := cS_v14
    have y15_0 := cell6_0 ld15
    have y15_1 := cell6_1 ld15
    have y15_2 := cell6_2 ld15
    have y15_3 := cell6_3 ld15
    have y15_4 := cell6_4 ld15
    have y15_5 := cell6_5 ld15
    clear ld15
    have W8 : Wd v14 (.slice sr 0 cr) 0 X := hS4.out.below (by first | exact hw_v14 | (rw [hD4]; exact hw_v14))
    have Z9 := wd_nil (v14) X
    go_wp2_with fail
    refine (SZ.out _ _ _ W8 Z9).mono ?_
    rintro e v16 ⟨rfl, hb_v16⟩
    have hs_v16 := hw_v14.size
    have cP_v16 : v16.heap[D]? = some (.cells #[.int .u8 t, .int .u8 ft, .int .i8 f, .int .u8 p, .int .u8 w0, .int .u8 w1, .int .u8 w2, .int .u8 w3, .int .u8 w4] 47) := (hb_v16.block (D) (Array.getElem?_eq_some_iff.1 (show v14.heap[D]? = some (.cells #[.int .u8 t, .int .u8 ft, .int .i8 f, .int .u8 p, .int .u8 w0, .int .u8 w1, .int .u8 w2, .int .u8 w3, .int .u8 w4] 47) from cP_v14)).1).trans cP_v14
    have cQ_v16 : v16.heap[D + 1]? = some (.cells #[.int .i64 c, .int .i64 d] 23) := (hb_v16.block (D + 1) (Array.getElem?_eq_some_iff.1 (show v14.heap[D + 1]? = some (.cells #[.int .i64 c, .int .i64 d] 23) from cQ_v14)).1).trans cQ_v14
    have cR_v16 : v16.heap[D2]? = some (.cells #[.string ⟨#[82, 48]⟩, .string tn, .int .i64 fa, .int .i64 fb, .int .i64 f, .slice ra n rc] 26) := (hb_v16.block (D2) (Array.getElem?_eq_some_iff.1 (show v14.heap[D2]? = some (.cells #[.string ⟨#[82, 48]⟩, .string tn, .int .i64 fa, .int .i64 fb, .int .i64 f, .slice ra n rc] 26) from cR_v14)).1).trans cR_v14
    have cS_v16 : v16.heap[D3]? = some (.cells #[.string ⟨#[]⟩, .string ⟨#[]⟩, .int .i64 0, .int .i64 0, .int .i64 0, .slice sr 0 cr] 26) := (hb_v16.block (D3) (Array.getElem?_eq_some_iff.1 (show v14.heap[D3]? = some (.cells #[.string ⟨#[]⟩, .string ⟨#[]⟩, .int .i64 0, .int .i64 0, .int .i64 0, .slice sr 0 cr] 26) from cS_v14)).1).trans cS_v14
    have cO_v16 : v16.heap[D4]? = some (.cells #[.string ⟨#[82, 48]⟩, .string tn, .int .i64 fa, .int .i64 fb, .int .i64 f, .slice so n co] 26) := (hb_v16.block (D4) (Array.getElem?_eq_some_iff.1 (show v14.heap[D4]? = some (.cells #[.string ⟨#[82, 48]⟩, .string tn, .int .i64 fa, .int .i64 fb, .int .i64 f, .slice so n co] 26) from cO_v14)).1).trans cO_v14
    have hw_v16 : Below D4 v9 v16 := (hw_v14).trans (hb_v16.mono (by first | omega | (simp; omega)))
    clear cP_v14 cQ_v14 cR_v14 cS_v14 cO_v14 hb_v16 y15_0 y15_1 y15_2 y15_3 y15_4 y15_5 W8 hw_v14 hs_v16
    have HW := Lib.hid (show Below D w (v16) from (HB2.out.trans (((HB3.out.trans (((HB4.out.trans ((hw_v16).mono (by first | exact HB4.out.size | (have := HB4.out.size; simp only [hD] at *; omega) | (have := HB4.out.size; omega))))).mono (by first | exact HB3.out.size | (have := HB3.out.size; simp only [hD] at *; omega) | (have := HB3.out.size; omega))))).mono (by first | exact HB2.out.size | (have := HB2.out.size; simp only [hD] at *; omega) | (have := HB2.out.size; omega)))))
    go_wp2
    go_ret
    exact ⟨rfl, by first | exact HW.out | (rw [hD]; exact HW.out)⟩
  · skip
    have bs := HPK.out h2 s hs
    rw [h2]
    have ld15 : v14.heap[D2]? = some (.cells #[.string ⟨#[82, 48]⟩, .string tn, .int .i64 fa, .int .i64 fb, .int .i64 f, .slice ra n rc] 26) := cR_v14
    have y15_0 := cell6_0 ld15
    have y15_1 := cell6_1 ld15
    have y15_2 := cell6_2 ld15
    have y15_3 := cell6_3 ld15
    have y15_4 := cell6_4 ld15
    have y15_5 := cell6_5 ld15
    clear ld15
    have ld16 : v14.heap[D + 1]? = some (.cells #[.int .i64 c, .int .i64 d] 23) := cQ_v14
    have y16_0 := cell2_0 ld16
    have y16_1 := cell2_1 ld16
    clear ld16
    have G10 : Gi v14 := G234.below (by first | exact hw_v14 | (rw [hD4]; exact hw_v14))
    go_wp2_with fail
    refine (PS.out h2 s hs _ G10).mono ?_
    rintro e v17 ⟨rfl, hb_v17⟩
    have hs_v17 := hw_v14.size
    have cP_v17 : v17.heap[D]? = some (.cells #[.int .u8 t, .int .u8 ft, .int .i8 f, .int .u8 p, .int .u8 w0, .int .u8 w1, .int .u8 w2, .int .u8 w3, .int .u8 w4] 47) := (hb_v17.block (D) (Array.getElem?_eq_some_iff.1 (show v14.heap[D]? = some (.cells #[.int .u8 t, .int .u8 ft, .int .i8 f, .int .u8 p, .int .u8 w0, .int .u8 w1, .int .u8 w2, .int .u8 w3, .int .u8 w4] 47) from cP_v14)).1).trans cP_v14
    have cQ_v17 : v17.heap[D + 1]? = some (.cells #[.int .i64 c, .int .i64 d] 23) := (hb_v17.block (D + 1) (Array.getElem?_eq_some_iff.1 (show v14.heap[D + 1]? = some (.cells #[.int .i64 c, .int .i64 d] 23) from cQ_v14)).1).trans cQ_v14
    have cR_v17 : v17.heap[D2]? = some (.cells #[.string ⟨#[82, 48]⟩, .string tn, .int .i64 fa, .int .i64 fb, .int .i64 f, .slice ra n rc] 26) := (hb_v17.block (D2) (Array.getElem?_eq_some_iff.1 (show v14.heap[D2]? = some (.cells #[.string ⟨#[82, 48]⟩, .string tn, .int .i64 fa, .int .i64 fb, .int .i64 f, .slice ra n rc] 26) from cR_v14)).1).trans cR_v14
    have cS_v17 : v17.heap[D3]? = some (.cells #[.string ⟨#[]⟩, .string ⟨#[]⟩, .int .i64 0, .int .i64 0, .int .i64 0, .slice sr 0 cr] 26) := (hb_v17.block (D3) (Array.getElem?_eq_some_iff.1 (show v14.heap[D3]? = some (.cells #[.string ⟨#[]⟩, .string ⟨#[]⟩, .int .i64 0, .int .i64 0, .int .i64 0, .slice sr 0 cr] 26) from cS_v14)).1).trans cS_v14
    have cO_v17 : v17.heap[D4]? = some (.cells #[.string ⟨#[82, 48]⟩, .string tn, .int .i64 fa, .int .i64 fb, .int .i64 f, .slice so n co] 26) := (hb_v17.block (D4) (Array.getElem?_eq_some_iff.1 (show v14.heap[D4]? = some (.cells #[.string ⟨#[82, 48]⟩, .string tn, .int .i64 fa, .int .i64 fb, .int .i64 f, .slice so n co] 26) from cO_v14)).1).trans cO_v14
    have hw_v17 : Below D4 v9 v17 := (hw_v14).trans (hb_v17.mono (by first | omega | (simp; omega)))
    clear cP_v14 cQ_v14 cR_v14 cS_v14 cO_v14 hb_v17 y15_0 y15_1 y15_2 y15_3 y15_4 y15_5 y16_0 y16_1 G10 hw_v14 hs_v17
    have ld18 : v17.heap[D2]? = some (.cells #[.string ⟨#[82, 48]⟩, .string tn, .int .i64 fa, .int .i64 fb, .int .i64 f, .slice ra n rc] 26) := cR_v17
    have y18_0 := cell6_0 ld18
    have y18_1 := cell6_1 ld18
    have y18_2 := cell6_2 ld18
    have y18_3 := cell6_3 ld18
    have y18_4 := cell6_4 ld18
    have y18_5 := cell6_5 ld18
    clear ld18
    have ld19 : v17.heap[D + 1]? = some (.cells #[.int .i64 c, .int .i64 d] 23) := cQ_v17
    have y19_0 := cell2_0 ld19
    have y19_1 := cell2_1 ld19
    clear ld19
    have q1 := wrap_in (q := f - s) (by omega) (by omega)
    have ld20 : v17.heap[D2]? = some (.cells #[.string ⟨#[82, 48]⟩, .string tn, .int .i64 fa, .int .i64 fb, .int .i64 f, .slice ra n rc] 26) := cR_v17
    have y20_0 := cell6_0 ld20
    have y20_1 := cell6_1 ld20
    have y20_2 := cell6_2 ld20
    have y20_3 := cell6_3 ld20
    have y20_4 := cell6_4 ld20
    have y20_5 := cell6_5 ld20
    clear ld20
    have ld21 : v17.heap[D + 1]? = some (.cells #[.int .i64 c, .int .i64 d] 23) := cQ_v17
    have y21_0 := cell2_0 ld21
    have y21_1 := cell2_1 ld21
    clear ld21
    obtain ⟨ET, hET⟩ : ∃ E, v17.heap.size = E := ⟨_, rfl⟩
    obtain ⟨V1, hV1⟩ : ∃ V, (v17.alloc (.cells #[.string ⟨#[82, 48]⟩, .string tn, .int .i64 fa, .int .i64 fb, .int .i64 f, .slice ra n rc] 26)) = V := ⟨_, rfl⟩
    have hw_V1 : Below D4 v9 V1 := by rw [← hV1]; exact (hw_v17.alloc (by have := hw_v17.size; first | omega | (simp; omega)) (.cells #[.string ⟨#[82, 48]⟩, .string tn, .int .i64 fa, .int .i64 fb, .int .i64 f, .slice ra n rc] 26))
    have lt_P : D < ET := by have := (Array.getElem?_eq_some_iff.1 cP_v17).1; omega
    have lt_Q : D + 1 < ET := by have := (Array.getElem?_eq_some_iff.1 cQ_v17).1; omega
    have lt_R : D2 < ET := by have := (Array.getElem?_eq_some_iff.1 cR_v17).1; omega
    have lt_S : D3 < ET := by have := (Array.getElem?_eq_some_iff.1 cS_v17).1; omega
    have lt_O : D4 < ET := by have := (Array.getElem?_eq_some_iff.1 cO_v17).1; omega
    have ge_T : D4 ≤ ET := by have := hw_v17.size; omega
    have cP_V1 : V1.heap[D]? = some (.cells #[.int .u8 t, .int .u8 ft, .int .i8 f, .int .u8 p, .int .u8 w0, .int .u8 w1, .int .u8 w2, .int .u8 w3, .int .u8 w4] 47) := by rw [← hV1]; exact (heap_old (o := .cells #[.string ⟨#[82, 48]⟩, .string tn, .int .i64 fa, .int .i64 fb, .int .i64 f, .slice ra n rc] 26) cP_v17)
    have cQ_V1 : V1.heap[D + 1]? = some (.cells #[.int .i64 c, .int .i64 d] 23) := by rw [← hV1]; exact (heap_old (o := .cells #[.string ⟨#[82, 48]⟩, .string tn, .int .i64 fa, .int .i64 fb, .int .i64 f, .slice ra n rc] 26) cQ_v17)
    have cR_V1 : V1.heap[D2]? = some (.cells #[.string ⟨#[82, 48]⟩, .string tn, .int .i64 fa, .int .i64 fb, .int .i64 f, .slice ra n rc] 26) := by rw [← hV1]; exact (heap_old (o := .cells #[.string ⟨#[82, 48]⟩, .string tn, .int .i64 fa, .int .i64 fb, .int .i64 f, .slice ra n rc] 26) cR_v17)
    have cS_V1 : V1.heap[D3]? = some (.cells #[.string ⟨#[]⟩, .string ⟨#[]⟩, .int .i64 0, .int .i64 0, .int .i64 0, .slice sr 0 cr] 26) := by rw [← hV1]; exact (heap_old (o := .cells #[.string ⟨#[82, 48]⟩, .string tn, .int .i64 fa, .int .i64 fb, .int .i64 f, .slice ra n rc] 26) cS_v17)
    have cO_V1 : V1.heap[D4]? = some (.cells #[.string ⟨#[82, 48]⟩, .string tn, .int .i64 fa, .int .i64 fb, .int .i64 f, .slice so n co] 26) := by rw [← hV1]; exact (heap_old (o := .cells #[.string ⟨#[82, 48]⟩, .string tn, .int .i64 fa, .int .i64 fb, .int .i64 f, .slice ra n rc] 26) cO_v17)
    have cT_V1 : V1.heap[ET]? = some (.cells #[.string ⟨#[82, 48]⟩, .string tn, .int .i64 fa, .int .i64 fb, .int .i64 f, .slice ra n rc] 26) := by rw [← hV1]; exact (heap_new (by first | omega | (simp; omega)))
    clear cP_v17 cQ_v17 cR_v17 cS_v17 cO_v17 hw_v17
    have HEV1 := Lib.hid hV1
    clear hV1
    go_upto_region 13 with fail
    rw [HEV1.out]
    clear y18_0 y18_1 y18_2 y18_3 y18_4 y18_5 y19_0 y19_1 y20_0 y20_1 y20_2 y20_3 y20_4 y20_5 y21_0 y21_1
    have ld22 : V1.heap[ET]? = some (.cells #[.string ⟨#[82, 48]⟩, .string tn, .int .i64 fa, .int .i64 fb, .int .i64 f, .slice ra n rc] 26) := cT_V1
    have y22_0 := cell6_0 ld22
    have y22_1 := cell6_1 ld22
    have y22_2 := cell6_2 ld22
    have y22_3 := cell6_3 ld22
    have y22_4 := cell6_4 ld22
    have y22_5 := cell6_5 ld22
    clear ld22
    have ld23 : V1.heap[D2]? = some (.cells #[.string ⟨#[82, 48]⟩, .string tn, .int .i64 fa, .int .i64 fb, .int .i64 f, .slice ra n rc] 26) := cR_V1
    have y23_0 := cell6_0 ld23
    have y23_1 := cell6_1 ld23
    have y23_2 := cell6_2 ld23
    have y23_3 := cell6_3 ld23
    have y23_4 := cell6_4 ld23
    have y23_5 := cell6_5 ld23
    clear ld23
    have ld24 : V1.heap[D + 1]? = some (.cells #[.int .i64 c, .int .i64 d] 23) := cQ_V1
    have y24_0 := cell2_0 ld24
    have y24_1 := cell2_1 ld24
    clear ld24
    obtain ⟨f0, f1, f2, f3, f4, f5⟩ := free6_at cT_V1
    go_region
    obtain ⟨U1, hU1⟩ : ∃ U, (((V1.setCell ⟨ET, 4, none⟩ (.int .i64 (f - s))).setCell ⟨ET, 2, none⟩ (.int .i64 c)).setCell ⟨ET, 3, none⟩ (.int .i64 d)).drew = U := ⟨_, rfl⟩
    have hw_U1 : Below D4 v9 U1 := by rw [← hU1]; exact (((((((hw_V1).setCell (p := ⟨ET, 4, none⟩) (by simp; omega) (.int .i64 (f - s)))).setCell (p := ⟨ET, 2, none⟩) (by simp; omega) (.int .i64 c))).setCell (p := ⟨ET, 3, none⟩) (by simp; omega) (.int .i64 d))).trans ⟨rfl, rfl, rfl, Nat.le_refl _, fun _ _ => rfl⟩
    have cT_U1 : U1.heap[ET]? = some (.cells #[.string ⟨#[82, 48]⟩, .string tn, .int .i64 c, .int .i64 d, .int .i64 (f - s), .slice ra n rc] 26) := by rw [← hU1]; exact (set6_3 (set6_2 (set6_4 cT_V1)))
    have cP_U1 : U1.heap[D]? = some (.cells #[.int .u8 t, .int .u8 ft, .int .i8 f, .int .u8 p, .int .u8 w0, .int .u8 w1, .int .u8 w2, .int .u8 w3, .int .u8 w4] 47) := by rw [← hU1]; exact ((set_other (by omega)).trans ((set_other (by omega)).trans ((set_other (by omega)).trans cP_V1)))
    have cQ_U1 : U1.heap[D + 1]? = some (.cells #[.int .i64 c, .int .i64 d] 23) := by rw [← hU1]; exact ((set_other (by omega)).trans ((set_other (by omega)).trans ((set_other (by omega)).trans cQ_V1)))
    have cR_U1 : U1.heap[D2]? = some (.cells #[.string ⟨#[82, 48]⟩, .string tn, .int .i64 fa, .int .i64 fb, .int .i64 f, .slice ra n rc] 26) := by rw [← hU1]; exact ((set_other (by omega)).trans ((set_other (by omega)).trans ((set_other (by omega)).trans cR_V1)))
    have cS_U1 : U1.heap[D3]? = some (.cells #[.string ⟨#[]⟩, .string ⟨#[]⟩, .int .i64 0, .int .i64 0, .int .i64 0, .slice sr 0 cr] 26) := by rw [← hU1]; exact ((set_other (by omega)).trans ((set_other (by omega)).trans ((set_other (by omega)).trans cS_V1)))
    have cO_U1 : U1.heap[D4]? = some (.cells #[.string ⟨#[82, 48]⟩, .string tn, .int .i64 fa, .int .i64 fb, .int .i64 f, .slice so n co] 26) := by rw [← hU1]; exact ((set_other (by omega)).trans ((set_other (by omega)).trans ((set_other (by omega)).trans cO_V1)))
    rw [hU1]
    clear hU1 y22_0 y22_1 y22_2 y22_3 y22_4 y22_5 y23_0 y23_1 y23_2 y23_3 y23_4 y23_5 y24_0 y24_1 f0 f1 f2 f3 f4 f5 cP_V1 cQ_V1 cR_V1 cS_V1 cO_V1 cT_V1 hw_V1
    have ld25 : U1.heap[ET]? = some (.cells #[.string ⟨#[82, 48]⟩, .string tn, .int .i64 c, .int .i64 d, .int .i64 (f - s), .slice ra n rc] 26) := cT_U1
    have y25_0 := cell6_0 ld25
    have y25_1 := cell6_1 ld25
    have y25_2 := cell6_2 ld25
    have y25_3 := cell6_3 ld25
    have y25_4 := cell6_4 ld25
    have y25_5 := cell6_5 ld25
    clear ld25
    rcases (show f - s < -256 ∨ (¬ f - s < -256 ∧ 256 < f - s) by omega) with g2 | ⟨g2, g3⟩
    · skip
      have ld26 : U1.heap[D3]? = some (.cells #[.string ⟨#[]⟩, .string ⟨#[]⟩, .int .i64 0, .int .i64 0, .int .i64 0, .slice sr 0 cr] 26) := cS_U1
      have y26_0 := cell6_0 ld26
      have y26_1 := cell6_1 ld26
      have y26_2 := cell6_2 ld26
      have y26_3 := cell6_3 ld26
      have y26_4 := cell6_4 ld26
      have y26_5 := cell6_5 ld26
      clear ld26
      have W11 : Wd U1 (.slice sr 0 cr) 0 X := hS4.out.below (by first | exact hw_U1 | (rw [hD4]; exact hw_U1))
      have Z12 := wd_nil (U1) X
      go_wp2_with fail
      refine (SZ.out _ _ _ W11 Z12).mono ?_
      rintro e v27 ⟨rfl, hb_v27⟩
      have hs_v27 := hw_U1.size
      have cP_v27 : v27.heap[D]? = some (.cells #[.int .u8 t, .int .u8 ft, .int .i8 f, .int .u8 p, .int .u8 w0, .int .u8 w1, .int .u8 w2, .int .u8 w3, .int .u8 w4] 47) := (hb_v27.block (D) (Array.getElem?_eq_some_iff.1 (show U1.heap[D]? = some (.cells #[.int .u8 t, .int .u8 ft, .int .i8 f, .int .u8 p, .int .u8 w0, .int .u8 w1, .int .u8 w2, .int .u8 w3, .int .u8 w4] 47) from cP_U1)).1).trans cP_U1
      have cQ_v27 : v27.heap[D + 1]? = some (.cells #[.int .i64 c, .int .i64 d] 23) := (hb_v27.block (D + 1) (Array.getElem?_eq_some_iff.1 (show U1.heap[D + 1]? = some (.cells #[.int .i64 c, .int .i64 d] 23) from cQ_U1)).1).trans cQ_U1
      have cR_v27 : v27.heap[D2]? = some (.cells #[.string ⟨#[82, 48]⟩, .string tn, .int .i64 fa, .int .i64 fb, .int .i64 f, .slice ra n rc] 26) := (hb_v27.block (D2) (Array.getElem?_eq_some_iff.1 (show U1.heap[D2]? = some (.cells #[.string ⟨#[82, 48]⟩, .string tn, .int .i64 fa, .int .i64 fb, .int .i64 f, .slice ra n rc] 26) from cR_U1)).1).trans cR_U1
      have cS_v27 : v27.heap[D3]? = some (.cells #[.string ⟨#[]⟩, .string ⟨#[]⟩, .int .i64 0, .int .i64 0, .int .i64 0, .slice sr 0 cr] 26) := (hb_v27.block (D3) (Array.getElem?_eq_some_iff.1 (show U1.heap[D3]? = some (.cells #[.string ⟨#[]⟩, .string ⟨#[]⟩, .int .i64 0, .int .i64 0, .int .i64 0, .slice sr 0 cr] 26) from cS_U1)).1).trans cS_U1
      have cO_v27 : v27.heap[D4]? = some (.cells #[.string ⟨#[82, 48]⟩, .string tn, .int .i64 fa, .int .i64 fb, .int .i64 f, .slice so n co] 26) := (hb_v27.block (D4) (Array.getElem?_eq_some_iff.1 (show U1.heap[D4]? = some (.cells #[.string ⟨#[82, 48]⟩, .string tn, .int .i64 fa, .int .i64 fb, .int .i64 f, .slice so n co] 26) from cO_U1)).1).trans cO_U1
      have cT_v27 : v27.heap[ET]? = some (.cells #[.string ⟨#[82, 48]⟩, .string tn, .int .i64 c, .int .i64 d, .int .i64 (f - s), .slice ra n rc] 26) := (hb_v27.block (ET) (Array.getElem?_eq_some_iff.1 (show U1.heap[ET]? = some (.cells #[.string ⟨#[82, 48]⟩, .string tn, .int .i64 c, .int .i64 d, .int .i64 (f - s), .slice ra n rc] 26) from cT_U1)).1).trans cT_U1
      have hw_v27 : Below D4 v9 v27 := (hw_U1).trans (hb_v27.mono (by first | omega | (simp; omega)))
      clear cP_U1 cQ_U1 cR_U1 cS_U1 cO_U1 cT_U1 hb_v27 y25_0 y25_1 y25_2 y25_3 y25_4 y25_5 y26_0 y26_1 y26_2 y26_3 y26_4 y26_5 W11 hw_U1 hs_v27
      have HW := Lib.hid (show Below D w (v27) from (HB2.out.trans (((HB3.out.trans (((HB4.out.trans ((hw_v27).mono (by first | exact HB4.out.size | (have := HB4.out.size; simp only [hD] at *; omega) | (have := HB4.out.size; omega))))).mono (by first | exact HB3.out.size | (have := HB3.out.size; simp only [hD] at *; omega) | (have := HB3.out.size; omega))))).mono (by first | exact HB2.out.size | (have := HB2.out.size; simp only [hD] at *; omega) | (have := HB2.out.size; omega)))))
      go_wp2
      go_ret
      exact ⟨rfl, by first | exact HW.out | (rw [hD]; exact HW.out)⟩
    · skip
      have ld26 : U1.heap[D3]? = some (.cells #[.string ⟨#[]⟩, .string ⟨#[]⟩, .int .i64 0, .int .i64 0, .int .i64 0, .slice sr 0 cr] 26) := cS_U1
      have y26_0 := cell6_0 ld26
      have y26_1 := cell6_1 ld26
      have y26_2 := cell6_2 ld26
      have y26_3 := cell6_3 ld26
      have y26_4 := cell6_4 ld26
      have y26_5 := cell6_5 ld26
      clear ld26
      have W13 : Wd U1 (.slice sr 0 cr) 0 X := hS4.out.below (by first | exact hw_U1 | (rw [hD4]; exact hw_U1))
      have Z14 := wd_nil (U1) X
      go_wp2_with fail
      refine (SZ.out _ _ _ W13 Z14).mono ?_
      rintro e v27 ⟨rfl, hb_v27⟩
      have hs_v27 := hw_U1.size
      have cP_v27 : v27.heap[D]? = some (.cells #[.int .u8 t, .int .u8 ft, .int .i8 f, .int .u8 p, .int .u8 w0, .int .u8 w1, .int .u8 w2, .int .u8 w3, .int .u8 w4] 47) := (hb_v27.block (D) (Array.getElem?_eq_some_iff.1 (show U1.heap[D]? = some (.cells #[.int .u8 t, .int .u8 ft, .int .i8 f, .int .u8 p, .int .u8 w0, .int .u8 w1, .int .u8 w2, .int .u8 w3, .int .u8 w4] 47) from cP_U1)).1).trans cP_U1
      have cQ_v27 : v27.heap[D + 1]? = some (.cells #[.int .i64 c, .int .i64 d] 23) := (hb_v27.block (D + 1) (Array.getElem?_eq_some_iff.1 (show U1.heap[D + 1]? = some (.cells #[.int .i64 c, .int .i64 d] 23) from cQ_U1)).1).trans cQ_U1
      have cR_v27 : v27.heap[D2]? = some (.cells #[.string ⟨#[82, 48]⟩, .string tn, .int .i64 fa, .int .i64 fb, .int .i64 f, .slice ra n rc] 26) := (hb_v27.block (D2) (Array.getElem?_eq_some_iff.1 (show U1.heap[D2]? = some (.cells #[.string ⟨#[82, 48]⟩, .string tn, .int .i64 fa, .int .i64 fb, .int .i64 f, .slice ra n rc] 26) from cR_U1)).1).trans cR_U1
      have cS_v27 : v27.heap[D3]? = some (.cells #[.string ⟨#[]⟩, .string ⟨#[]⟩, .int .i64 0, .int .i64 0, .int .i64 0, .slice sr 0 cr] 26) := (hb_v27.block (D3) (Array.getElem?_eq_some_iff.1 (show U1.heap[D3]? = some (.cells #[.string ⟨#[]⟩, .string ⟨#[]⟩, .int .i64 0, .int .i64 0, .int .i64 0, .slice sr 0 cr] 26) from cS_U1)).1).trans cS_U1
      have cO_v27 : v27.heap[D4]? = some (.cells #[.string ⟨#[82, 48]⟩, .string tn, .int .i64 fa, .int .i64 fb, .int .i64 f, .slice so n co] 26) := (hb_v27.block (D4) (Array.getElem?_eq_some_iff.1 (show U1.heap[D4]? = some (.cells #[.string ⟨#[82, 48]⟩, .string tn, .int .i64 fa, .int .i64 fb, .int .i64 f, .slice so n co] 26) from cO_U1)).1).trans cO_U1
      have cT_v27 : v27.heap[ET]? = some (.cells #[.string ⟨#[82, 48]⟩, .string tn, .int .i64 c, .int .i64 d, .int .i64 (f - s), .slice ra n rc] 26) := (hb_v27.block (ET) (Array.getElem?_eq_some_iff.1 (show U1.heap[ET]? = some (.cells #[.string ⟨#[82, 48]⟩, .string tn, .int .i64 c, .int .i64 d, .int .i64 (f - s), .slice ra n rc] 26) from cT_U1)).1).trans cT_U1
      have hw_v27 : Below D4 v9 v27 := (hw_U1).trans (hb_v27.mono (by first | omega | (simp; omega)))
      clear cP_U1 cQ_U1 cR_U1 cS_U1 cO_U1 cT_U1 hb_v27 y25_0 y25_1 y25_2 y25_3 y25_4 y25_5 y26_0 y26_1 y26_2 y26_3 y26_4 y26_5 W13 hw_U1 hs_v27
      have HW := Lib.hid (show Below D w (v27) from (HB2.out.trans (((HB3.out.trans (((HB4.out.trans ((hw_v27).mono (by first | exact HB4.out.size | (have := HB4.out.size; simp only [hD] at *; omega) | (have := HB4.out.size; omega))))).mono (by first | exact HB3.out.size | (have := HB3.out.size; simp only [hD] at *; omega) | (have := HB3.out.size; omega))))).mono (by first | exact HB2.out.size | (have := HB2.out.size; simp only [hD] at *; omega) | (have := HB2.out.size; omega)))))
      go_wp2
      go_ret
      exact ⟨rfl, by first | exact HW.out | (rw [hD]; exact HW.out)⟩
  · skip
    have bs := HPK.out h2 s hs
    rw [h2]
    have ld15 : v14.heap[D2]? = some (.cells #[.string ⟨#[82, 48]⟩, .string tn, .int .i64 fa, .int .i64 fb, .int .i64 f, .slice ra n rc] 26) := cR_v14
    have y15_0 := cell6_0 ld15
    have y15_1 := cell6_1 ld15
    have y15_2 := cell6_2 ld15
    have y15_3 := cell6_3 ld15
    have y15_4 := cell6_4 ld15
    have y15_5 := cell6_5 ld15
    clear ld15
    have ld16 : v14.heap[D + 1]? = some (.cells #[.int .i64 c, .int .i64 d] 23) := cQ_v14
    have y16_0 := cell2_0 ld16
    have y16_1 := cell2_1 ld16
    clear ld16
    have G15 : Gi v14 := G234.below (by first | exact hw_v14 | (rw [hD4]; exact hw_v14))
    go_wp2_with fail
    refine (PS.out h2 s hs _ G15).mono ?_
    rintro e v17 ⟨rfl, hb_v17⟩
    have hs_v17 := hw_v14.size
    have cP_v17 : v17.heap[D]? = some (.cells #[.int .u8 t, .int .u8 ft, .int .i8 f, .int .u8 p, .int .u8 w0, .int .u8 w1, .int .u8 w2, .int .u8 w3, .int .u8 w4] 47) := (hb_v17.block (D) (Array.getElem?_eq_some_iff.1 (show v14.heap[D]? = some (.cells #[.int .u8 t, .int .u8 ft, .int .i8 f, .int .u8 p, .int .u8 w0, .int .u8 w1, .int .u8 w2, .int .u8 w3, .int .u8 w4] 47) from cP_v14)).1).trans cP_v14
    have cQ_v17 : v17.heap[D + 1]? = some (.cells #[.int .i64 c, .int .i64 d] 23) := (hb_v17.block (D + 1) (Array.getElem?_eq_some_iff.1 (show v14.heap[D + 1]? = some (.cells #[.int .i64 c, .int .i64 d] 23) from cQ_v14)).1).trans cQ_v14
    have cR_v17 : v17.heap[D2]? = some (.cells #[.string ⟨#[82, 48]⟩, .string tn, .int .i64 fa, .int .i64 fb, .int .i64 f, .slice ra n rc] 26) := (hb_v17.block (D2) (Array.getElem?_eq_some_iff.1 (show v14.heap[D2]? = some (.cells #[.string ⟨#[82, 48]⟩, .string tn, .int .i64 fa, .int .i64 fb, .int .i64 f, .slice ra n rc] 26) from cR_v14)).1).trans cR_v14
    have cS_v17 : v17.heap[D3]? = some (.cells #[.string ⟨#[82, 48]⟩, .string tn, .int .i64 c, .int .i64 d, .int .i64 (f - s), .slice sr n cr] 26) := (hb_v17.block (D3) (Array.getElem?_eq_some_iff.1 (show v14.heap[D3]? = some (.cells #[.string ⟨#[82, 48]⟩, .string tn, .int .i64 c, .int .i64 d, .int .i64 (f - s), .slice sr n cr] 26) from cS_v14)).1).trans cS_v14
    have cO_v17 : v17.heap[D4]? = some (.cells #[.string ⟨#[82, 48]⟩, .string tn, .int .i64 fa, .int .i64 fb, .int .i64 f, .slice so n co] 26) := (hb_v17.block (D4) (Array.getElem?_eq_some_iff.1 (show v14.heap[D4]? = some (.cells #[.string ⟨#[82, 48]⟩, .string tn, .int .i64 fa, .int .i64 fb, .int .i64 f, .slice so n co] 26) from cO_v14)).1).trans cO_v14
    have hw_v17 : Below D4 v9 v17 := (hw_v14).trans (hb_v17.mono (by first | omega | (simp; omega)))
    clear cP_v14 cQ_v14 cR_v14 cS_v14 cO_v14 hb_v17 y15_0 y15_1 y15_2 y15_3 y15_4 y15_5 y16_0 y16_1 G15 hw_v14 hs_v17
    have ld18 : v17.heap[D2]? = some (.cells #[.string ⟨#[82, 48]⟩, .string tn, .int .i64 fa, .int .i64 fb, .int .i64 f, .slice ra n rc] 26) := cR_v17
    have y18_0 := cell6_0 ld18
    have y18_1 := cell6_1 ld18
    have y18_2 := cell6_2 ld18
    have y18_3 := cell6_3 ld18
    have y18_4 := cell6_4 ld18
    have y18_5 := cell6_5 ld18
    clear ld18
    have ld19 : v17.heap[D + 1]? = some (.cells #[.int .i64 c, .int .i64 d] 23) := cQ_v17
    have y19_0 := cell2_0 ld19
    have y19_1 := cell2_1 ld19
    clear ld19
    have q1 := wrap_in (q := f - s) (by omega) (by omega)
    have ld20 : v17.heap[D2]? = some (.cells #[.string ⟨#[82, 48]⟩, .string tn, .int .i64 fa, .int .i64 fb, .int .i64 f, .slice ra n rc] 26) := cR_v17
    have y20_0 := cell6_0 ld20
    have y20_1 := cell6_1 ld20
    have y20_2 := cell6_2 ld20
    have y20_3 := cell6_3 ld20
    have y20_4 := cell6_4 ld20
    have y20_5 := cell6_5 ld20
    clear ld20
    have ld21 : v17.heap[D + 1]? = some (.cells #[.int .i64 c, .int .i64 d] 23) := cQ_v17
    have y21_0 := cell2_0 ld21
    have y21_1 := cell2_1 ld21
    clear ld21
    obtain ⟨ET, hET⟩ : ∃ E, v17.heap.size = E := ⟨_, rfl⟩
    obtain ⟨V1, hV1⟩ : ∃ V, (v17.alloc (.cells #[.string ⟨#[82, 48]⟩, .string tn, .int .i64 fa, .int .i64 fb, .int .i64 f, .slice ra n rc] 26)) = V := ⟨_, rfl⟩
    have hw_V1 : Below D4 v9 V1 := by rw [← hV1]; exact (hw_v17.alloc (by have := hw_v17.size; first | omega | (simp; omega)) (.cells #[.string ⟨#[82, 48]⟩, .string tn, .int .i64 fa, .int .i64 fb, .int .i64 f, .slice ra n rc] 26))
    have lt_P : D < ET := by have := (Array.getElem?_eq_some_iff.1 cP_v17).1; omega
    have lt_Q : D + 1 < ET := by have := (Array.getElem?_eq_some_iff.1 cQ_v17).1; omega
    have lt_R : D2 < ET := by have := (Array.getElem?_eq_some_iff.1 cR_v17).1; omega
    have lt_S : D3 < ET := by have := (Array.getElem?_eq_some_iff.1 cS_v17).1; omega
    have lt_O : D4 < ET := by have := (Array.getElem?_eq_some_iff.1 cO_v17).1; omega
    have ge_T : D4 ≤ ET := by have := hw_v17.size; omega
    have cP_V1 : V1.heap[D]? = some (.cells #[.int .u8 t, .int .u8 ft, .int .i8 f, .int .u8 p, .int .u8 w0, .int .u8 w1, .int .u8 w2, .int .u8 w3, .int .u8 w4] 47) := by rw [← hV1]; exact (heap_old (o := .cells #[.string ⟨#[82, 48]⟩, .string tn, .int .i64 fa, .int .i64 fb, .int .i64 f, .slice ra n rc] 26) cP_v17)
    have cQ_V1 : V1.heap[D + 1]? = some (.cells #[.int .i64 c, .int .i64 d] 23) := by rw [← hV1]; exact (heap_old (o := .cells #[.string ⟨#[82, 48]⟩, .string tn, .int .i64 fa, .int .i64 fb, .int .i64 f, .slice ra n rc] 26) cQ_v17)
    have cR_V1 : V1.heap[D2]? = some (.cells #[.string ⟨#[82, 48]⟩, .string tn, .int .i64 fa, .int .i64 fb, .int .i64 f, .slice ra n rc] 26) := by rw [← hV1]; exact (heap_old (o := .cells #[.string ⟨#[82, 48]⟩, .string tn, .int .i64 fa, .int .i64 fb, .int .i64 f, .slice ra n rc] 26) cR_v17)
    have cS_V1 : V1.heap[D3]? = some (.cells #[.string ⟨#[82, 48]⟩, .string tn, .int .i64 c, .int .i64 d, .int .i64 (f - s), .slice sr n cr] 26) := by rw [← hV1]; exact (heap_old (o := .cells #[.string ⟨#[82, 48]⟩, .string tn, .int .i64 fa, .int .i64 fb, .int .i64 f, .slice ra n rc] 26) cS_v17)
    have cO_V1 : V1.heap[D4]? = some (.cells #[.string ⟨#[82, 48]⟩, .string tn, .int .i64 fa, .int .i64 fb, .int .i64 f, .slice so n co] 26) := by rw [← hV1]; exact (heap_old (o := .cells #[.string ⟨#[82, 48]⟩, .string tn, .int .i64 fa, .int .i64 fb, .int .i64 f, .slice ra n rc] 26) cO_v17)
    have cT_V1 : V1.heap[ET]? = some (.cells #[.string ⟨#[82, 48]⟩, .string tn, .int .i64 fa, .int .i64 fb, .int .i64 f, .slice ra n rc] 26) := by rw [← hV1]; exact (heap_new (by first | omega | (simp; omega)))
    clear cP_v17 cQ_v17 cR_v17 cS_v17 cO_v17 hw_v17
    have HEV1 := Lib.hid hV1
    clear hV1
    go_upto_region 13 with fail
    rw [HEV1.out]
    clear y18_0 y18_1 y18_2 y18_3 y18_4 y18_5 y19_0 y19_1 y20_0 y20_1 y20_2 y20_3 y20_4 y20_5 y21_0 y21_1
    have ld22 : V1.heap[ET]? = some (.cells #[.string ⟨#[82, 48]⟩, .string tn, .int .i64 fa, .int .i64 fb, .int .i64 f, .slice ra n rc] 26) := cT_V1
    have y22_0 := cell6_0 ld22
    have y22_1 := cell6_1 ld22
    have y22_2 := cell6_2 ld22
    have y22_3 := cell6_3 ld22
    have y22_4 := cell6_4 ld22
    have y22_5 := cell6_5 ld22
    clear ld22
    have ld23 : V1.heap[D2]? = some (.cells #[.string ⟨#[82, 48]⟩, .string tn, .int .i64 fa, .int .i64 fb, .int .i64 f, .slice ra n rc] 26) := cR_V1
    have y23_0 := cell6_0 ld23
    have y23_1 := cell6_1 ld23
    have y23_2 := cell6_2 ld23
    have y23_3 := cell6_3 ld23
    have y23_4 := cell6_4 ld23
    have y23_5 := cell6_5 ld23
    clear ld23
    have ld24 : V1.heap[D + 1]? = some (.cells #[.int .i64 c, .int .i64 d] 23) := cQ_V1
    have y24_0 := cell2_0 ld24
    have y24_1 := cell2_1 ld24
    clear ld24
    obtain ⟨f0, f1, f2, f3, f4, f5⟩ := free6_at cT_V1
    go_region
    obtain ⟨U1, hU1⟩ : ∃ U, (((V1.setCell ⟨ET, 4, none⟩ (.int .i64 (f - s))).setCell ⟨ET, 2, none⟩ (.int .i64 c)).setCell ⟨ET, 3, none⟩ (.int .i64 d)).drew = U := ⟨_, rfl⟩
    have hw_U1 : Below D4 v9 U1 := by rw [← hU1]; exact (((((((hw_V1).setCell (p := ⟨ET, 4, none⟩) (by simp; omega) (.int .i64 (f - s)))).setCell (p := ⟨ET, 2, none⟩) (by simp; omega) (.int .i64 c))).setCell (p := ⟨ET, 3, none⟩) (by simp; omega) (.int .i64 d))).trans ⟨rfl, rfl, rfl, Nat.le_refl _, fun _ _ => rfl⟩
    have cT_U1 : U1.heap[ET]? = some (.cells #[.string ⟨#[82, 48]⟩, .string tn, .int .i64 c, .int .i64 d, .int .i64 (f - s), .slice ra n rc] 26) := by rw [← hU1]; exact (set6_3 (set6_2 (set6_4 cT_V1)))
    have cP_U1 : U1.heap[D]? = some (.cells #[.int .u8 t, .int .u8 ft, .int .i8 f, .int .u8 p, .int .u8 w0, .int .u8 w1, .int .u8 w2, .int .u8 w3, .int .u8 w4] 47) := by rw [← hU1]; exact ((set_other (by omega)).trans ((set_other (by omega)).trans ((set_other (by omega)).trans cP_V1)))
    have cQ_U1 : U1.heap[D + 1]? = some (.cells #[.int .i64 c, .int .i64 d] 23) := by rw [← hU1]; exact ((set_other (by omega)).trans ((set_other (by omega)).trans ((set_other (by omega)).trans cQ_V1)))
    have cR_U1 : U1.heap[D2]? = some (.cells #[.string ⟨#[82, 48]⟩, .string tn, .int .i64 fa, .int .i64 fb, .int .i64 f, .slice ra n rc] 26) := by rw [← hU1]; exact ((set_other (by omega)).trans ((set_other (by omega)).trans ((set_other (by omega)).trans cR_V1)))
    have cS_U1 : U1.heap[D3]? = some (.cells #[.string ⟨#[82, 48]⟩, .string tn, .int .i64 c, .int .i64 d, .int .i64 (f - s), .slice sr n cr] 26) := by rw [← hU1]; exact ((set_other (by omega)).trans ((set_other (by omega)).trans ((set_other (by omega)).trans cS_V1)))
    have cO_U1 : U1.heap[D4]? = some (.cells #[.string ⟨#[82, 48]⟩, .string tn, .int .i64 fa, .int .i64 fb, .int .i64 f, .slice so n co] 26) := by rw [← hU1]; exact ((set_other (by omega)).trans ((set_other (by omega)).trans ((set_other (by omega)).trans cO_V1)))
    rw [hU1]
    clear hU1 y22_0 y22_1 y22_2 y22_3 y22_4 y22_5 y23_0 y23_1 y23_2 y23_3 y23_4 y23_5 y24_0 y24_1 f0 f1 f2 f3 f4 f5 cP_V1 cQ_V1 cR_V1 cS_V1 cO_V1 cT_V1 hw_V1
    have ld25 : U1.heap[ET]? = some (.cells #[.string ⟨#[82, 48]⟩, .string tn, .int .i64 c, .int .i64 d, .int .i64 (f - s), .slice ra n rc] 26) := cT_U1
    have y25_0 := cell6_0 ld25
    have y25_1 := cell6_1 ld25
    have y25_2 := cell6_2 ld25
    have y25_3 := cell6_3 ld25
    have y25_4 := cell6_4 ld25
    have y25_5 := cell6_5 ld25
    clear ld25
    have g2 : ¬ f - s < -256 := by omega
    have g3 : ¬ 256 < f - s := by omega
    have ld26 : U1.heap[D3]? = some (.cells #[.string ⟨#[82, 48]⟩, .string tn, .int .i64 c, .int .i64 d, .int .i64 (f - s), .slice sr n cr] 26) := cS_U1
    have y26_0 := cell6_0 ld26
    have y26_1 := cell6_1 ld26
    have y26_2 := cell6_2 ld26
    have y26_3 := cell6_3 ld26
    have y26_4 := cell6_4 ld26
    have y26_5 := cell6_5 ld26
    clear ld26
    have W16 : Wd U1 (.slice sr n cr) n X := hS4.out.below (by first | exact hw_U1 | (rw [hD4]; exact hw_U1))
    have W17 : Wd U1 (.slice ra n rc) n X := hR4.out.below (by first | exact hw_U1 | (rw [hD4]; exact hw_U1))
    go_wp2_with fail
    refine (SW.out _ _ _ _ W16 W17).mono ?_
    rintro e v27 ⟨rfl, hb_v27⟩
    have hs_v27 := hw_U1.size
    have cP_v27 : v27.heap[D]? = some (.cells #[.int .u8 t, .int .u8 ft, .int .i8 f, .int .u8 p, .int .u8 w0, .int .u8 w1, .int .u8 w2, .int .u8 w3, .int .u8 w4] 47) := (hb_v27.block (D) (Array.getElem?_eq_some_iff.1 (show U1.heap[D]? = some (.cells #[.int .u8 t, .int .u8 ft, .int .i8 f, .int .u8 p, .int .u8 w0, .int .u8 w1, .int .u8 w2, .int .u8 w3, .int .u8 w4] 47) from cP_U1)).1).trans cP_U1
    have cQ_v27 : v27.heap[D + 1]? = some (.cells #[.int .i64 c, .int .i64 d] 23) := (hb_v27.block (D + 1) (Array.getElem?_eq_some_iff.1 (show U1.heap[D + 1]? = some (.cells #[.int .i64 c, .int .i64 d] 23) from cQ_U1)).1).trans cQ_U1
    have cR_v27 : v27.heap[D2]? = some (.cells #[.string ⟨#[82, 48]⟩, .string tn, .int .i64 fa, .int .i64 fb, .int .i64 f, .slice ra n rc] 26) := (hb_v27.block (D2) (Array.getElem?_eq_some_iff.1 (show U1.heap[D2]? = some (.cells #[.string ⟨#[82, 48]⟩, .string tn, .int .i64 fa, .int .i64 fb, .int .i64 f, .slice ra n rc] 26) from cR_U1)).1).trans cR_U1
    have cS_v27 : v27.heap[D3]? = some (.cells #[.string ⟨#[82, 48]⟩, .string tn, .int .i64 c, .int .i64 d, .int .i64 (f - s), .slice sr n cr] 26) := (hb_v27.block (D3) (Array.getElem?_eq_some_iff.1 (show U1.heap[D3]? = some (.cells #[.string ⟨#[82, 48]⟩, .string tn, .int .i64 c, .int .i64 d, .int .i64 (f - s), .slice sr n cr] 26) from cS_U1)).1).trans cS_U1
    have cO_v27 : v27.heap[D4]? = some (.cells #[.string ⟨#[82, 48]⟩, .string tn, .int .i64 fa, .int .i64 fb, .int .i64 f, .slice so n co] 26) := (hb_v27.block (D4) (Array.getElem?_eq_some_iff.1 (show U1.heap[D4]? = some (.cells #[.string ⟨#[82, 48]⟩, .string tn, .int .i64 fa, .int .i64 fb, .int .i64 f, .slice so n co] 26) from cO_U1)).1).trans cO_U1
    have cT_v27 : v27.heap[ET]? = some (.cells #[.string ⟨#[82, 48]⟩, .string tn, .int .i64 c, .int .i64 d, .int .i64 (f - s), .slice ra n rc] 26) := (hb_v27.block (ET) (Array.getElem?_eq_some_iff.1 (show U1.heap[ET]? = some (.cells #[.string ⟨#[82, 48]⟩, .string tn, .int .i64 c, .int .i64 d, .int .i64 (f - s), .slice ra n rc] 26) from cT_U1)).1).trans cT_U1
    have hw_v27 : Below D4 v9 v27 := (hw_U1).trans (hb_v27.mono (by first | omega | (simp; omega)))
    clear cP_U1 cQ_U1 cR_U1 cS_U1 cO_U1 cT_U1 hb_v27 y25_0 y25_1 y25_2 y25_3 y25_4 y25_5 y26_0 y26_1 y26_2 y26_3 y26_4 y26_5 W16 W17 hw_U1 hs_v27
    have HW := Lib.hid (show Below D w (v27) from (HB2.out.trans (((HB3.out.trans (((HB4.out.trans ((hw_v27).mono (by first | exact HB4.out.size | (have := HB4.out.size; simp only [hD] at *; omega) | (have := HB4.out.size; omega))))).mono (by first | exact HB3.out.size | (have := HB3.out.size; simp only [hD] at *; omega) | (have := HB3.out.size; omega))))).mono (by first | exact HB2.out.size | (have := HB2.out.size; simp only [hD] at *; omega) | (have := HB2.out.size; omega)))))
    go_wp2
    go_ret
    exact ⟨rfl, by first | exact HW.out | (rw [hD]; exact HW.out)⟩
end Go.Proofs.YtbkbncapgljfaaaGreatDoor
