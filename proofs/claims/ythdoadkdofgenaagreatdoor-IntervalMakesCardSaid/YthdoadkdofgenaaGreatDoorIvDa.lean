/- Contract of the reference's Ratio. -/
import Derived.Test.YthdoadkdofgenaaGreatDoorIvN
import Derived.Test.YthdoadkdofgenaaGreatDoorIvS
import Derived.Test.YthdoadkdofgenaaGreatDoorIvV
namespace Go.Proofs.YthdoadkdofgenaaGreatDoor
open Go Go.RowKit Go.Shelf

set_option maxRecDepth 10000 in
set_option maxHeartbeats 8000000 in
theorem rratio_low (n0 m0 g a b : Nat) (w : World) (hg0 : 0 < g) (hga : n0 / g = a) (hgb : m0 / g = b) (hgg : Int.gcd (n0 : Int) (m0 : Int) = g) (hn0 : n0 ≤ 1000000000) (hm0 : m0 ≤ 1000000000) (ha : 0 < a) (hb : 0 < b) :
    Calls Tryz.prog 28 #[.int .i64 (n0 : Int), .int .i64 (m0 : Int)] w fun e w' => e = .returned (.tuple #[.agg #[.int .i64 (Iv.e2 a b), .int .i64 (Iv.e3 a b), .int .i64 (Iv.e5 a b), .int .i64 1], .bool (decide (Iv.rest a = 1) && decide (Iv.rest b = 1))]) ∧ Below w.heap.size w w' := by
  have ha2 : a ≤ 1000000000 := by rw [← hga]; exact Nat.le_trans (Nat.div_le_self _ _) hn0
  have hb2 : b ≤ 1000000000 := by rw [← hgb]; exact Nat.le_trans (Nat.div_le_self _ _) hm0
  have DV := fun W => rdivisor_any (n0 : Int) (m0 : Int) W (by omega) (by omega) (by omega) (by omega)
  simp only [hgg] at DV
  have DVH := Lib.hid DV
  clear DV
  have q1 : (n0 : Int).tdiv (g : Int) = (a : Int) := by rw [← hga]; exact tdiv_nat' n0 g
  have q2 : (m0 : Int).tdiv (g : Int) = (b : Int) := by rw [← hgb]; exact tdiv_nat' m0 g
  have gz : ¬ (g : Int) = 0 := by omega
  have gm : ¬ (g : Int) = -1 := by omega
  clear hga hgb hgg
  obtain ⟨a1, ea1⟩ : ∃ x, Iv.rp 2 a = x := ⟨_, rfl⟩
  obtain ⟨b1, eb1⟩ : ∃ x, Iv.rp 2 b = x := ⟨_, rfl⟩
  have ha1 : 0 < a1 := ea1 ▸ Iv.rp_pos (by decide) ha
  have hb1 : 0 < b1 := eb1 ▸ Iv.rp_pos (by decide) hb
  have la1 : a1 ≤ 1000000000 := Nat.le_trans (ea1 ▸ Iv.rp_le (by decide) ha) ha2
  have lb1 : b1 ≤ 1000000000 := Nat.le_trans (eb1 ▸ Iv.rp_le (by decide) hb) hb2
  obtain ⟨a2, ea2⟩ : ∃ x, Iv.rp 3 a1 = x := ⟨_, rfl⟩
  obtain ⟨b2, eb2⟩ : ∃ x, Iv.rp 3 b1 = x := ⟨_, rfl⟩
  have ha2' : 0 < a2 := ea2 ▸ Iv.rp_pos (by decide) ha1
  have hb2' : 0 < b2 := eb2 ▸ Iv.rp_pos (by decide) hb1
  have la2 : a2 ≤ 1000000000 := Nat.le_trans (ea2 ▸ Iv.rp_le (by decide) ha1) la1
  have lb2 : b2 ≤ 1000000000 := Nat.le_trans (eb2 ▸ Iv.rp_le (by decide) hb1) lb1
  obtain ⟨a3, ea3⟩ : ∃ x, Iv.rp 5 a2 = x := ⟨_, rfl⟩
  obtain ⟨b3, eb3⟩ : ∃ x, Iv.rp 5 b2 = x := ⟨_, rfl⟩
  have hx2 : Iv.e2 a b = (Iv.vp 2 a : Int) - (Iv.vp 2 b : Int) := rfl
  have hx3 : Iv.e3 a b = (Iv.vp 3 a1 : Int) - (Iv.vp 3 b1 : Int) := by rw [← ea1, ← eb1]; rfl
  have hx5 : Iv.e5 a b = (Iv.vp 5 a2 : Int) - (Iv.vp 5 b2 : Int) := by rw [← ea2, ← eb2, ← ea1, ← eb1]; rfl
  have hra : Iv.rest a = a3 := by rw [← ea3, ← ea2, ← ea1]; rfl
  have hrb : Iv.rest b = b3 := by rw [← eb3, ← eb2, ← eb1]; rfl
  rw [hra, hrb]
  clear hra hrb
  generalize Iv.e2 a b = x2 at *
  generalize Iv.e3 a b = x3 at *
  generalize Iv.e5 a b = x5 at *
  have A0 := Lib.hid (And.intro ha ha2)
  have A1 := Lib.hid (And.intro ha1 la1)
  have A2 := Lib.hid (And.intro ha2' la2)
  have B0 := Lib.hid (And.intro hb hb2)
  have B1 := Lib.hid (And.intro hb1 lb1)
  have B2 := Lib.hid (And.intro hb2' lb2)
  have V0 := Lib.hid (And.intro ea1 (And.intro eb1 hx2))
  have V1 := Lib.hid (And.intro ea2 (And.intro eb2 hx3))
  have V2 := Lib.hid (And.intro ea3 (And.intro eb3 hx5))
  obtain ⟨r3, hr3⟩ : ∃ r, (decide (a3 = 1) && decide (b3 = 1)) = r := ⟨_, rfl⟩
  rw [hr3]
  have HR3 := Lib.hid hr3
  clear ea1 eb1 ea2 eb2 ea3 eb3 hx2 hx3 hx5 la1 lb1 la2 lb2 ha1 hb1 ha2' hb2' ha hb hr3
  have wa := wrap_in (q := (a : Int)) (by omega) (by omega)
  have wb := wrap_in (q := (b : Int)) (by omega) (by omega)
  obtain ⟨D, hD⟩ : ∃ D, w.heap.size = D := ⟨_, rfl⟩
  go_enter Tryz.func28, Tryz.ntmps28
  go_wp2_with fail
  refine (DVH.out _).mono ?_
  rintro e w1 ⟨rfl, nn, rfl⟩
  go_wp2_with (go_quiet (fail))
  obtain ⟨V, hV⟩ : ∃ V, (((((w.alloc (.cells #[.int .i64 0, .int .i64 0, .int .i64 0, .int .i64 0] 29)).drewN nn).alloc (.cells #[.int .i64 0, .int .i64 0, .int .i64 0, .int .i64 1] 29)).drewN nq).alloc (.cells #[.int .i64 2, .int .i64 3, .int .i64 5] 27)) = V := ⟨_, rfl⟩
  have hb_ : ∀ (X : World) (n : Nat), Below D w X → Below D w (X.drewN n) := fun X n h => ⟨h.os, h.tape, h.output, h.size, h.block⟩
  have hwV : Below D w V := by
    rw [← hV]
    have k1 := hb_ _ nn ((Below.refl D w).alloc (by omega) (.cells #[.int .i64 0, .int .i64 0, .int .i64 0, .int .i64 0] 29))
    have k2 := hb_ _ nq (k1.alloc (show D ≤ _ by have := k1.size; omega) (.cells #[.int .i64 0, .int .i64 0, .int .i64 0, .int .i64 1] 29))
    exact k2.alloc (by have := k2.size; omega) _
  have h0V : V.heap[D]? = some (.cells #[.int .i64 0, .int .i64 0, .int .i64 0, .int .i64 0] 29) := by
    rw [← hV]
    exact heap_old (X := (((w.alloc _).drewN nn).alloc _).drewN nq) (heap_old (X := (w.alloc _).drewN nn) (heap_new (X := w) hD.symm))
  have h1V : V.heap[D + 1]? = some (.cells #[.int .i64 0, .int .i64 0, .int .i64 0, .int .i64 1] 29) := by
    rw [← hV]
    exact heap_old (X := (((w.alloc _).drewN nn).alloc _).drewN nq) (heap_new (X := (w.alloc _).drewN nn) (by simp [hD]))
  have h2V : V.heap[D + 1 + 1]? = some (.cells #[.int .i64 2, .int .i64 3, .int .i64 5] 27) := by
    rw [← hV]
    exact heap_new (X := (((w.alloc _).drewN nn).alloc _).drewN nq) (by simp [hD])
  rw [hV]
  clear hV hb_ q1 q2 gz gm
  go_wp2_with fail
  go_loopw [0, 1, 9] (fun n d i wr => ((i = .int .i64 0 ∧ n = .int .i64 (a : Nat) ∧ d = .int .i64 (b : Nat) ∧ wr.heap[D + 1]? = some (.cells #[.int .i64 0, .int .i64 0, .int .i64 0, .int .i64 1] 29)) ∨ (i = .int .i64 1 ∧ n = .int .i64 (a1 : Nat) ∧ d = .int .i64 (b1 : Nat) ∧ wr.heap[D + 1]? = some (.cells #[.int .i64 x2, .int .i64 0, .int .i64 0, .int .i64 1] 29)) ∨ (i = .int .i64 2 ∧ n = .int .i64 (a2 : Nat) ∧ d = .int .i64 (b2 : Nat) ∧ wr.heap[D + 1]? = some (.cells #[.int .i64 x2, .int .i64 x3, .int .i64 0, .int .i64 1] 29)) ∨ (i = .int .i64 3 ∧ n = .int .i64 (a3 : Nat) ∧ d = .int .i64 (b3 : Nat) ∧ wr.heap[D + 1]? = some (.cells #[.int .i64 x2, .int .i64 x3, .int .i64 x5, .int .i64 1] 29))) ∧ Below D w wr ∧ wr.heap[D]? = some (.cells #[.int .i64 0, .int .i64 0, .int .i64 0, .int .i64 0] 29) ∧ wr.heap[D + 1 + 1]? = some (.cells #[.int .i64 2, .int .i64 3, .int .i64 5] 27)) (fun _ _ i _ => 3 - (intOf i).toNat)
  case atStart => exact ⟨.inl ⟨rfl, rfl, rfl, h1V⟩, hwV, h0V, h2V⟩
  case round =>
    obtain ⟨hk, hw, h0, h2⟩ := hrel
    clear hwV h0V h1V h2V
    obtain ⟨wo, hwo⟩ : ∃ wo, wo = wr := ⟨_, rfl⟩
    subst hwo
    rcases hk with ⟨rfl, rfl, rfl, h1⟩ | ⟨rfl, rfl, rfl, h1⟩ | ⟨rfl, rfl, rfl, h1⟩ | ⟨rfl, rfl, rfl, h1⟩
    · obtain ⟨pa, la⟩ := A0.out
      obtain ⟨pb, lb⟩ := B0.out
      have HW0 := Lib.hid hw
      have HZ0 := Lib.hid h0
      have HE0 := Lib.hid h1
      have HP0 := Lib.hid h2
      clear hw h0 h1 h2
      go_wp2_with fail
      go_loopw [0] (fun n wk => ∃ x k : Nat, 0 < x ∧ x * 2 ^ k = a ∧ n = .int .i64 (x : Int) ∧ Below D w wk ∧ wk.heap[D]? = some (.cells #[.int .i64 0, .int .i64 0, .int .i64 0, .int .i64 0] 29) ∧ wk.heap[D + 1 + 1]? = some (.cells #[.int .i64 2, .int .i64 3, .int .i64 5] 27) ∧ wk.heap[D + 1]? = some (.cells #[.int .i64 (k : Int), .int .i64 0, .int .i64 0, .int .i64 1] 29)) (fun n _ => (intOf n).toNat)
      case atStart => exact ⟨a, 0, pa, by simp, rfl, HW0.out, HZ0.out, HP0.out, HE0.out⟩
      case round =>
        obtain ⟨x, k, hx, hxk, rfl, hw, h0, h2, h1⟩ := hrel
        have hk := Iv.cnt_lt (p := 2) (by decide) hxk hx
        have hxa : x ≤ a := by rw [← hxk]; exact Nat.le_mul_of_pos_right _ (Nat.pow_pos (by decide))
        have m1 := tmod_nat x 2
        have q1 := tdiv_nat' x 2
        have hq := Nat.div_lt_self hx (show 1 < 2 by decide)
        by_cases hd : x % 2 = 0
        · skip
          have hs := Iv.strip_step hxk hd
          have hp := Iv.step_pos hx (show 0 < 2 by decide) hd
          rw [hd] at m1
          obtain ⟨q, eq⟩ : ∃ q, x / 2 = q := ⟨_, rfl⟩
          rw [eq] at hs hp q1 hq
          have r0 := cell4_0 h1
          have f0 := free4_0 h1
          have pc := cell3_0 h2
          have HS := Lib.hid hs
          have m1 : (x : Int).tmod 2 = 0 := m1
          have q1 : (x : Int).tdiv 2 = (q : Int) := q1
          have HW := Lib.hid (below_drew (hw.setCell (p := ⟨D + 1, 0, none⟩) (show D ≤ D + 1 by omega) (.int .i64 ((k : Int) + 1))))
          have HE := Lib.hid (set4_0 (x := .int .i64 ((k : Int) + 1)) h1)
          have H0 := Lib.hid ((set_other (b := D + 1) (o := 0) (x := .int .i64 ((k : Int) + 1)) (show D ≠ D + 1 by omega)).trans h0)
          have H2 := Lib.hid ((set_other (b := D + 1) (o := 0) (x := .int .i64 ((k : Int) + 1)) (show D + 1 + 1 ≠ D + 1 by omega)).trans h2)
          clear hs eq hd hxk h0 h1 h2 hw
          go_wp2
          go_region
          go_wp2
          refine ⟨⟨q, k + 1, hp, HS.out, rfl, HW.out, H0.out, H2.out, ?_⟩, ?_⟩
          · rw [show ((k + 1 : Nat) : Int) = (k : Int) + 1 by push_cast; omega]; exact HE.out
          · simp [intOf]; omega
        · obtain ⟨e1, e2⟩ := Iv.strip_is (p := 2) (by decide) hxk hd
          rw [V0.out.1] at e1
          have hd' : ¬ (((x % 2 : Nat) : Int) = 0) := by omega
          obtain ⟨y0, hy0⟩ : ∃ y0, x % 2 = y0 := ⟨_, rfl⟩
          have m1 : (x : Int).tmod 2 = ((x % 2 : Nat) : Int) := m1
          rw [hy0] at m1 hd'
          subst e1
          have E2 := Lib.hid e2
          have pc := cell3_0 h2
          have HW := Lib.hid hw
          have HZ := Lib.hid h0
          have HE := Lib.hid h1
          have HP := Lib.hid h2
          clear e2 hy0 hd hxk h0 h1 h2 hw q1 hq
          go_wp2_with fail
          clear pc
          go_loopw [1] (fun n wk => ∃ x k : Nat, 0 < x ∧ x * 2 ^ k = b ∧ n = .int .i64 (x : Int) ∧ Below D w wk ∧ wk.heap[D]? = some (.cells #[.int .i64 0, .int .i64 0, .int .i64 0, .int .i64 0] 29) ∧ wk.heap[D + 1 + 1]? = some (.cells #[.int .i64 2, .int .i64 3, .int .i64 5] 27) ∧ wk.heap[D + 1]? = some (.cells #[.int .i64 ((Iv.vp 2 a : Int) - (k : Int)), .int .i64 0, .int .i64 0, .int .i64 1] 29)) (fun n _ => (intOf n).toNat)
          case atStart => exact ⟨b, 0, pb, by simp, rfl, HW.out, HZ.out, HP.out, by rw [E2.out]; simpa using HE.out⟩
          case round =>
            obtain ⟨x, k2, hx, hxk, rfl, hw, h0, h2, h1⟩ := hrel
            have hk2 := Iv.cnt_lt (p := 2) (by decide) hxk hx
            have hxa2 : x ≤ b := by rw [← hxk]; exact Nat.le_mul_of_pos_right _ (Nat.pow_pos (by decide))
            have m1 := tmod_nat x 2
            have q1 := tdiv_nat' x 2
            have hq := Nat.div_lt_self hx (show 1 < 2 by decide)
            have H1 := Lib.hid h1
            rw [E2.out] at h1
            by_cases hd : x % 2 = 0
            · skip
              have hs := Iv.strip_step hxk hd
              have hp := Iv.step_pos hx (show 0 < 2 by decide) hd
              rw [hd] at m1
              obtain ⟨q, eq⟩ : ∃ q, x / 2 = q := ⟨_, rfl⟩
              rw [eq] at hs hp q1 hq
              have r0 := cell4_0 h1
              have f0 := free4_0 h1
              have pc := cell3_0 h2
              have HS := Lib.hid hs
              have m1 : (x : Int).tmod 2 = 0 := m1
              have q1 : (x : Int).tdiv 2 = (q : Int) := q1
              have HW := Lib.hid (below_drew (hw.setCell (p := ⟨D + 1, 0, none⟩) (show D ≤ D + 1 by omega) (.int .i64 ((k : Int) - (k2 : Int) - 1))))
              have HE := Lib.hid (set4_0 (x := .int .i64 ((k : Int) - (k2 : Int) - 1)) h1)
              have H0 := Lib.hid ((set_other (b := D + 1) (o := 0) (x := .int .i64 ((k : Int) - (k2 : Int) - 1)) (show D ≠ D + 1 by omega)).trans h0)
              have H2 := Lib.hid ((set_other (b := D + 1) (o := 0) (x := .int .i64 ((k : Int) - (k2 : Int) - 1)) (show D + 1 + 1 ≠ D + 1 by omega)).trans h2)
              clear hs eq hd hxk h0 h1 h2 hw
              go_wp2
              go_region
              go_wp2
              refine ⟨⟨q, k2 + 1, hp, HS.out, rfl, HW.out, H0.out, H2.out, ?_⟩, ?_⟩
              · rw [show ((Iv.vp 2 a : Int) - ((k2 + 1 : Nat) : Int)) = (k : Int) - (k2 : Int) - 1 by rw [E2.out]; push_cast; omega]; exact HE.out
              · simp [intOf]; omega
            · obtain ⟨e1, e3⟩ := Iv.strip_is (p := 2) (by decide) hxk hd
              rw [V0.out.2.1] at e1
              have hd' : ¬ (((x % 2 : Nat) : Int) = 0) := by omega
              obtain ⟨y0, hy0⟩ : ∃ y0, x % 2 = y0 := ⟨_, rfl⟩
              have m1 : (x : Int).tmod 2 = ((x % 2 : Nat) : Int) := m1
              rw [hy0] at m1 hd'
              subst e1
              have EX : x2 = (Iv.vp 2 a : Int) - (k2 : Int) := by rw [V0.out.2.2, e3]
              have EXH := Lib.hid EX
              have pc := cell3_0 h2
              have HW := Lib.hid hw
              have HZ := Lib.hid h0
              have HP := Lib.hid h2
              clear e3 EX hy0 hd hxk h0 h1 h2 hw q1 hq
              go_wp2_with fail
              go_roundw
              case rel => exact ⟨.inr (.inl ⟨rfl, rfl, rfl, by rw [EXH.out]; exact H1.out⟩), HW.out, HZ.out, HP.out⟩
              case measure => simp [intOf]
    · obtain ⟨pa, la⟩ := A1.out
      obtain ⟨pb, lb⟩ := B1.out
      have HW0 := Lib.hid hw
      have HZ0 := Lib.hid h0
      have HE0 := Lib.hid h1
      have HP0 := Lib.hid h2
      clear hw h0 h1 h2
      go_wp2_with fail
      go_loopw [0] (fun n wk => ∃ x k : Nat, 0 < x ∧ x * 3 ^ k = a1 ∧ n = .int .i64 (x : Int) ∧ Below D w wk ∧ wk.heap[D]? = some (.cells #[.int .i64 0, .int .i64 0, .int .i64 0, .int .i64 0] 29) ∧ wk.heap[D + 1 + 1]? = some (.cells #[.int .i64 2, .int .i64 3, .int .i64 5] 27) ∧ wk.heap[D + 1]? = some (.cells #[.int .i64 x2, .int .i64 (k : Int), .int .i64 0, .int .i64 1] 29)) (fun n _ => (intOf n).toNat)
      case atStart => exact ⟨a1, 0, pa, by simp, rfl, HW0.out, HZ0.out, HP0.out, HE0.out⟩
      case round =>
        obtain ⟨x, k, hx, hxk, rfl, hw, h0, h2, h1⟩ := hrel
        have hk := Iv.cnt_lt (p := 3) (by decide) hxk hx
        have hxa : x ≤ a1 := by rw [← hxk]; exact Nat.le_mul_of_pos_right _ (Nat.pow_pos (by decide))
        have m1 := tmod_nat x 3
        have q1 := tdiv_nat' x 3
        have hq := Nat.div_lt_self hx (show 1 < 3 by decide)
        by_cases hd : x % 3 = 0
        · skip
          have hs := Iv.strip_step hxk hd
          have hp := Iv.step_pos hx (show 0 < 3 by decide) hd
          rw [hd] at m1
          obtain ⟨q, eq⟩ : ∃ q, x / 3 = q := ⟨_, rfl⟩
          rw [eq] at hs hp q1 hq
          have r0 := cell4_1 h1
          have f0 := free4_1 h1
          have pc := cell3_1 h2
          have HS := Lib.hid hs
          have m1 : (x : Int).tmod 3 = 0 := m1
          have q1 : (x : Int).tdiv 3 = (q : Int) := q1
          have HW := Lib.hid (below_drew (hw.setCell (p := ⟨D + 1, 1, none⟩) (show D ≤ D + 1 by omega) (.int .i64 ((k : Int) + 1))))
          have HE := Lib.hid (set4_1 (x := .int .i64 ((k : Int) + 1)) h1)
          have H0 := Lib.hid ((set_other (b := D + 1) (o := 1) (x := .int .i64 ((k : Int) + 1)) (show D ≠ D + 1 by omega)).trans h0)
          have H2 := Lib.hid ((set_other (b := D + 1) (o := 1) (x := .int .i64 ((k : Int) + 1)) (show D + 1 + 1 ≠ D + 1 by omega)).trans h2)
          clear hs eq hd hxk h0 h1 h2 hw
          go_wp2
          go_region
          go_wp2
          refine ⟨⟨q, k + 1, hp, HS.out, rfl, HW.out, H0.out, H2.out, ?_⟩, ?_⟩
          · rw [show ((k + 1 : Nat) : Int) = (k : Int) + 1 by push_cast; omega]; exact HE.out
          · simp [intOf]; omega
        · obtain ⟨e1, e2⟩ := Iv.strip_is (p := 3) (by decide) hxk hd
          rw [V1.out.1] at e1
          have hd' : ¬ (((x % 3 : Nat) : Int) = 0) := by omega
          obtain ⟨y0, hy0⟩ : ∃ y0, x % 3 = y0 := ⟨_, rfl⟩
          have m1 : (x : Int).tmod 3 = ((x % 3 : Nat) : Int) := m1
          rw [hy0] at m1 hd'
          subst e1
          have E2 := Lib.hid e2
          have pc := cell3_1 h2
          have HW := Lib.hid hw
          have HZ := Lib.hid h0
          have HE := Lib.hid h1
          have HP := Lib.hid h2
          clear e2 hy0 hd hxk h0 h1 h2 hw q1 hq
          go_wp2_with fail
          clear pc
          go_loopw [1] (fun n wk => ∃ x k : Nat, 0 < x ∧ x * 3 ^ k = b1 ∧ n = .int .i64 (x : Int) ∧ Below D w wk ∧ wk.heap[D]? = some (.cells #[.int .i64 0, .int .i64 0, .int .i64 0, .int .i64 0] 29) ∧ wk.heap[D + 1 + 1]? = some (.cells #[.int .i64 2, .int .i64 3, .int .i64 5] 27) ∧ wk.heap[D + 1]? = some (.cells #[.int .i64 x2, .int .i64 ((Iv.vp 3 a1 : Int) - (k : Int)), .int .i64 0, .int .i64 1] 29)) (fun n _ => (intOf n).toNat)
          case atStart => exact ⟨b1, 0, pb, by simp, rfl, HW.out, HZ.out, HP.out, by rw [E2.out]; simpa using HE.out⟩
          case round =>
            obtain ⟨x, k2, hx, hxk, rfl, hw, h0, h2, h1⟩ := hrel
            have hk2 := Iv.cnt_lt (p := 3) (by decide) hxk hx
            have hxa2 : x ≤ b1 := by rw [← hxk]; exact Nat.le_mul_of_pos_right _ (Nat.pow_pos (by decide))
            have m1 := tmod_nat x 3
            have q1 := tdiv_nat' x 3
            have hq := Nat.div_lt_self hx (show 1 < 3 by decide)
            have H1 := Lib.hid h1
            rw [E2.out] at h1
            by_cases hd : x % 3 = 0
            · skip
              have hs := Iv.strip_step hxk hd
              have hp := Iv.step_pos hx (show 0 < 3 by decide) hd
              rw [hd] at m1
              obtain ⟨q, eq⟩ : ∃ q, x / 3 = q := ⟨_, rfl⟩
              rw [eq] at hs hp q1 hq
              have r0 := cell4_1 h1
              have f0 := free4_1 h1
              have pc := cell3_1 h2
              have HS := Lib.hid hs
              have m1 : (x : Int).tmod 3 = 0 := m1
              have q1 : (x : Int).tdiv 3 = (q : Int) := q1
              have HW := Lib.hid (below_drew (hw.setCell (p := ⟨D + 1, 1, none⟩) (show D ≤ D + 1 by omega) (.int .i64 ((k : Int) - (k2 : Int) - 1))))
              have HE := Lib.hid (set4_1 (x := .int .i64 ((k : Int) - (k2 : Int) - 1)) h1)
              have H0 := Lib.hid ((set_other (b := D + 1) (o := 1) (x := .int .i64 ((k : Int) - (k2 : Int) - 1)) (show D ≠ D + 1 by omega)).trans h0)
              have H2 := Lib.hid ((set_other (b := D + 1) (o := 1) (x := .int .i64 ((k : Int) - (k2 : Int) - 1)) (show D + 1 + 1 ≠ D + 1 by omega)).trans h2)
              clear hs eq hd hxk h0 h1 h2 hw
              go_wp2
              go_region
              go_wp2
              refine ⟨⟨q, k2 + 1, hp, HS.out, rfl, HW.out, H0.out, H2.out, ?_⟩, ?_⟩
              · rw [show ((Iv.vp 3 a1 : Int) - ((k2 + 1 : Nat) : Int)) = (k : Int) - (k2 : Int) - 1 by rw [E2.out]; push_cast; omega]; exact HE.out
              · simp [intOf]; omega
            · obtain ⟨e1, e3⟩ := Iv.strip_is (p := 3) (by decide) hxk hd
              rw [V1.out.2.1] at e1
              have hd' : ¬ (((x % 3 : Nat) : Int) = 0) := by omega
              obtain ⟨y0, hy0⟩ : ∃ y0, x % 3 = y0 := ⟨_, rfl⟩
              have m1 : (x : Int).tmod 3 = ((x % 3 : Nat) : Int) := m1
              rw [hy0] at m1 hd'
              subst e1
              have EX : x3 = (Iv.vp 3 a1 : Int) - (k2 : Int) := by rw [V1.out.2.2, e3]
              have EXH := Lib.hid EX
              have pc := cell3_1 h2
              have HW := Lib.hid hw
              have HZ := Lib.hid h0
              have HP := Lib.hid h2
              clear e3 EX hy0 hd hxk h0 h1 h2 hw q1 hq
              go_wp2_with fail
              go_roundw
              case rel => exact ⟨.inr (.inr (.inl ⟨rfl, rfl, rfl, by rw [EXH.out]; exact H1.out⟩)), HW.out, HZ.out, HP.out⟩
              case measure => simp [intOf]
    · obtain ⟨pa, la⟩ := A2.out
      obtain ⟨pb, lb⟩ := B2.out
      have HW0 := Lib.hid hw
      have HZ0 := Lib.hid h0
      have HE0 := Lib.hid h1
      have HP0 := Lib.hid h2
      clear hw h0 h1 h2
      go_wp2_with fail
      go_loopw [0] (fun n wk => ∃ x k : Nat, 0 < x ∧ x * 5 ^ k = a2 ∧ n = .int .i64 (x : Int) ∧ Below D w wk ∧ wk.heap[D]? = some (.cells #[.int .i64 0, .int .i64 0, .int .i64 0, .int .i64 0] 29) ∧ wk.heap[D + 1 + 1]? = some (.cells #[.int .i64 2, .int .i64 3, .int .i64 5] 27) ∧ wk.heap[D + 1]? = some (.cells #[.int .i64 x2, .int .i64 x3, .int .i64 (k : Int), .int .i64 1] 29)) (fun n _ => (intOf n).toNat)
      case atStart => exact ⟨a2, 0, pa, by simp, rfl, HW0.out, HZ0.out, HP0.out, HE0.out⟩
      case round =>
        obtain ⟨x, k, hx, hxk, rfl, hw, h0, h2, h1⟩ := hrel
        have hk := Iv.cnt_lt (p := 5) (by decide) hxk hx
        have hxa : x ≤ a2 := by rw [← hxk]; exact Nat.le_mul_of_pos_right _ (Nat.pow_pos (by decide))
        have m1 := tmod_nat x 5
        have q1 := tdiv_nat' x 5
        have hq := Nat.div_lt_self hx (show 1 < 5 by decide)
        by_cases hd : x % 5 = 0
        · skip
          have hs := Iv.strip_step hxk hd
          have hp := Iv.step_pos hx (show 0 < 5 by decide) hd
          rw [hd] at m1
          obtain ⟨q, eq⟩ : ∃ q, x / 5 = q := ⟨_, rfl⟩
          rw [eq] at hs hp q1 hq
          have r0 := cell4_2 h1
          have f0 := free4_2 h1
          have pc := cell3_2 h2
          have HS := Lib.hid hs
          have m1 : (x : Int).tmod 5 = 0 := m1
          have q1 : (x : Int).tdiv 5 = (q : Int) := q1
          have HW := Lib.hid (below_drew (hw.setCell (p := ⟨D + 1, 2, none⟩) (show D ≤ D + 1 by omega) (.int .i64 ((k : Int) + 1))))
          have HE := Lib.hid (set4_2 (x := .int .i64 ((k : Int) + 1)) h1)
          have H0 := Lib.hid ((set_other (b := D + 1) (o := 2) (x := .int .i64 ((k : Int) + 1)) (show D ≠ D + 1 by omega)).trans h0)
          have H2 := Lib.hid ((set_other (b := D + 1) (o := 2) (x := .int .i64 ((k : Int) + 1)) (show D + 1 + 1 ≠ D + 1 by omega)).trans h2)
          clear hs eq hd hxk h0 h1 h2 hw
          go_wp2
          go_region
          go_wp2
          refine ⟨⟨q, k + 1, hp, HS.out, rfl, HW.out, H0.out, H2.out, ?_⟩, ?_⟩
          · rw [show ((k + 1 : Nat) : Int) = (k : Int) + 1 by push_cast; omega]; exact HE.out
          · simp [intOf]; omega
        · obtain ⟨e1, e2⟩ := Iv.strip_is (p := 5) (by decide) hxk hd
          rw [V2.out.1] at e1
          have hd' : ¬ (((x % 5 : Nat) : Int) = 0) := by omega
          obtain ⟨y0, hy0⟩ : ∃ y0, x % 5 = y0 := ⟨_, rfl⟩
          have m1 : (x : Int).tmod 5 = ((x % 5 : Nat) : Int) := m1
          rw [hy0] at m1 hd'
          subst e1
          have E2 := Lib.hid e2
          have pc := cell3_2 h2
          have HW := Lib.hid hw
          have HZ := Lib.hid h0
          have HE := Lib.hid h1
          have HP := Lib.hid h2
          clear e2 hy0 hd hxk h0 h1 h2 hw q1 hq
          go_wp2_with fail
          clear pc
          go_loopw [1] (fun n wk => ∃ x k : Nat, 0 < x ∧ x * 5 ^ k = b2 ∧ n = .int .i64 (x : Int) ∧ Below D w wk ∧ wk.heap[D]? = some (.cells #[.int .i64 0, .int .i64 0, .int .i64 0, .int .i64 0] 29) ∧ wk.heap[D + 1 + 1]? = some (.cells #[.int .i64 2, .int .i64 3, .int .i64 5] 27) ∧ wk.heap[D + 1]? = some (.cells #[.int .i64 x2, .int .i64 x3, .int .i64 ((Iv.vp 5 a2 : Int) - (k : Int)), .int .i64 1] 29)) (fun n _ => (intOf n).toNat)
          case atStart => exact ⟨b2, 0, pb, by simp, rfl, HW.out, HZ.out, HP.out, by rw [E2.out]; simpa using HE.out⟩
          case round =>
            obtain ⟨x, k2, hx, hxk, rfl, hw, h0, h2, h1⟩ := hrel
            have hk2 := Iv.cnt_lt (p := 5) (by decide) hxk hx
            have hxa2 : x ≤ b2 := by rw [← hxk]; exact Nat.le_mul_of_pos_right _ (Nat.pow_pos (by decide))
            have m1 := tmod_nat x 5
            have q1 := tdiv_nat' x 5
            have hq := Nat.div_lt_self hx (show 1 < 5 by decide)
            have H1 := Lib.hid h1
            rw [E2.out] at h1
            by_cases hd : x % 5 = 0
            · skip
              have hs := Iv.strip_step hxk hd
              have hp := Iv.step_pos hx (show 0 < 5 by decide) hd
              rw [hd] at m1
              obtain ⟨q, eq⟩ : ∃ q, x / 5 = q := ⟨_, rfl⟩
              rw [eq] at hs hp q1 hq
              have r0 := cell4_2 h1
              have f0 := free4_2 h1
              have pc := cell3_2 h2
              have HS := Lib.hid hs
              have m1 : (x : Int).tmod 5 = 0 := m1
              have q1 : (x : Int).tdiv 5 = (q : Int) := q1
              have HW := Lib.hid (below_drew (hw.setCell (p := ⟨D + 1, 2, none⟩) (show D ≤ D + 1 by omega) (.int .i64 ((k : Int) - (k2 : Int) - 1))))
              have HE := Lib.hid (set4_2 (x := .int .i64 ((k : Int) - (k2 : Int) - 1)) h1)
              have H0 := Lib.hid ((set_other (b := D + 1) (o := 2) (x := .int .i64 ((k : Int) - (k2 : Int) - 1)) (show D ≠ D + 1 by omega)).trans h0)
              have H2 := Lib.hid ((set_other (b := D + 1) (o := 2) (x := .int .i64 ((k : Int) - (k2 : Int) - 1)) (show D + 1 + 1 ≠ D + 1 by omega)).trans h2)
              clear hs eq hd hxk h0 h1 h2 hw
              go_wp2
              go_region
              go_wp2
              refine ⟨⟨q, k2 + 1, hp, HS.out, rfl, HW.out, H0.out, H2.out, ?_⟩, ?_⟩
              · rw [show ((Iv.vp 5 a2 : Int) - ((k2 + 1 : Nat) : Int)) = (k : Int) - (k2 : Int) - 1 by rw [E2.out]; push_cast; omega]; exact HE.out
              · simp [intOf]; omega
            · obtain ⟨e1, e3⟩ := Iv.strip_is (p := 5) (by decide) hxk hd
              rw [V2.out.2.1] at e1
              have hd' : ¬ (((x % 5 : Nat) : Int) = 0) := by omega
              obtain ⟨y0, hy0⟩ : ∃ y0, x % 5 = y0 := ⟨_, rfl⟩
              have m1 : (x : Int).tmod 5 = ((x % 5 : Nat) : Int) := m1
              rw [hy0] at m1 hd'
              subst e1
              have EX : x5 = (Iv.vp 5 a2 : Int) - (k2 : Int) := by rw [V2.out.2.2, e3]
              have EXH := Lib.hid EX
              have pc := cell3_2 h2
              have HW := Lib.hid hw
              have HZ := Lib.hid h0
              have HP := Lib.hid h2
              clear e3 EX hy0 hd hxk h0 h1 h2 hw q1 hq
              go_wp2_with fail
              go_roundw
              case rel => exact ⟨.inr (.inr (.inr (⟨rfl, rfl, rfl, by rw [EXH.out]; exact H1.out⟩))), HW.out, HZ.out, HP.out⟩
              case measure => simp [intOf]
    · by_cases g1 : a3 = 1
      · have i1 : (a3 : Int) = 1 := by omega
        by_cases g2 : b3 = 1
        · have i2 : (b3 : Int) = 1 := by omega
          have hr : r3 = true := by rw [← HR3.out]; simp [g1, g2]
          subst hr
          clear HR3
          have cc0 := cell4_0 h1
          have cc1 := cell4_1 h1
          have cc2 := cell4_2 h1
          have cc3 := cell4_3 h1
          have r0 := cell4_0 h0
          have f0 := free4_0 h0
          have r1 := cell4_1 h0
          have f1 := free4_1 h0
          have r2 := cell4_2 h0
          have f2 := free4_2 h0
          have r3 := cell4_3 h0
          have f3 := free4_3 h0
          obtain ⟨U, hU⟩ : ∃ U, ((((wo.setCell ⟨D, 0, none⟩ (.int .i64 x2)).setCell ⟨D, 1, none⟩ (.int .i64 x3)).setCell ⟨D, 2, none⟩ (.int .i64 x5)).setCell ⟨D, 3, none⟩ (.int .i64 1)) = U := ⟨_, rfl⟩
          have HW := Lib.hid (show Below D w U by rw [← hU]; exact ((((hw.setCell (p := ⟨D, 0, none⟩) (show D ≤ D by omega) (.int .i64 x2)).setCell (p := ⟨D, 1, none⟩) (show D ≤ D by omega) (.int .i64 x3)).setCell (p := ⟨D, 2, none⟩) (show D ≤ D by omega) (.int .i64 x5)).setCell (p := ⟨D, 3, none⟩) (show D ≤ D by omega) (.int .i64 1)))
          have hE : U.heap[D]? = some (.cells #[.int .i64 x2, .int .i64 x3, .int .i64 x5, .int .i64 1] 29) := by rw [← hU]; exact (set4_3 (x := .int .i64 1) (set4_2 (x := .int .i64 x5) (set4_1 (x := .int .i64 x3) (set4_0 (x := .int .i64 x2) h0))))
          have HU := Lib.hid hU
          have z0 := cell4_0 hE
          have z1 := cell4_1 hE
          have z2 := cell4_2 hE
          have z3 := cell4_3 hE
          clear hE hU h0 h1 h2 hw
          go_wp2
          rw [HU.out]
          refine bodyPost_ret (v := .tuple #[.agg #[.int .i64 x2, .int .i64 x3, .int .i64 x5, .int .i64 1], .bool true]) (by simp [results, Tryz.results28, go_sem, z0, z1, z2, z3]) rfl ⟨rfl, by first | exact HW.out | (rw [hD]; exact HW.out)⟩
        · have i2 : ¬ (b3 : Int) = 1 := by omega
          have hr : r3 = false := by rw [← HR3.out]; simp [g1, g2]
          subst hr
          clear HR3
          have cc0 := cell4_0 h1
          have cc1 := cell4_1 h1
          have cc2 := cell4_2 h1
          have cc3 := cell4_3 h1
          have r0 := cell4_0 h0
          have f0 := free4_0 h0
          have r1 := cell4_1 h0
          have f1 := free4_1 h0
          have r2 := cell4_2 h0
          have f2 := free4_2 h0
          have r3 := cell4_3 h0
          have f3 := free4_3 h0
          obtain ⟨U, hU⟩ : ∃ U, ((((wo.setCell ⟨D, 0, none⟩ (.int .i64 x2)).setCell ⟨D, 1, none⟩ (.int .i64 x3)).setCell ⟨D, 2, none⟩ (.int .i64 x5)).setCell ⟨D, 3, none⟩ (.int .i64 1)) = U := ⟨_, rfl⟩
          have HW := Lib.hid (show Below D w U by rw [← hU]; exact ((((hw.setCell (p := ⟨D, 0, none⟩) (show D ≤ D by omega) (.int .i64 x2)).setCell (p := ⟨D, 1, none⟩) (show D ≤ D by omega) (.int .i64 x3)).setCell (p := ⟨D, 2, none⟩) (show D ≤ D by omega) (.int .i64 x5)).setCell (p := ⟨D, 3, none⟩) (show D ≤ D by omega) (.int .i64 1)))
          have hE : U.heap[D]? = some (.cells #[.int .i64 x2, .int .i64 x3, .int .i64 x5, .int .i64 1] 29) := by rw [← hU]; exact (set4_3 (x := .int .i64 1) (set4_2 (x := .int .i64 x5) (set4_1 (x := .int .i64 x3) (set4_0 (x := .int .i64 x2) h0))))
          have HU := Lib.hid hU
          have z0 := cell4_0 hE
          have z1 := cell4_1 hE
          have z2 := cell4_2 hE
          have z3 := cell4_3 hE
          clear hE hU h0 h1 h2 hw
          go_wp2
          rw [HU.out]
          refine bodyPost_ret (v := .tuple #[.agg #[.int .i64 x2, .int .i64 x3, .int .i64 x5, .int .i64 1], .bool false]) (by simp [results, i2, Tryz.results28, go_sem, z0, z1, z2, z3]) rfl ⟨rfl, by first | exact HW.out | (rw [hD]; exact HW.out)⟩
      · have i1 : ¬ (a3 : Int) = 1 := by omega
        have hr : r3 = false := by rw [← HR3.out]; simp [g1]
        subst hr
        clear HR3
        have cc0 := cell4_0 h1
        have cc1 := cell4_1 h1
        have cc2 := cell4_2 h1
        have cc3 := cell4_3 h1
        have r0 := cell4_0 h0
        have f0 := free4_0 h0
        have r1 := cell4_1 h0
        have f1 := free4_1 h0
        have r2 := cell4_2 h0
        have f2 := free4_2 h0
        have r3 := cell4_3 h0
        have f3 := free4_3 h0
        obtain ⟨U, hU⟩ : ∃ U, ((((wo.setCell ⟨D, 0, none⟩ (.int .i64 x2)).setCell ⟨D, 1, none⟩ (.int .i64 x3)).setCell ⟨D, 2, none⟩ (.int .i64 x5)).setCell ⟨D, 3, none⟩ (.int .i64 1)) = U := ⟨_, rfl⟩
        have HW := Lib.hid (show Below D w U by rw [← hU]; exact ((((hw.setCell (p := ⟨D, 0, none⟩) (show D ≤ D by omega) (.int .i64 x2)).setCell (p := ⟨D, 1, none⟩) (show D ≤ D by omega) (.int .i64 x3)).setCell (p := ⟨D, 2, none⟩) (show D ≤ D by omega) (.int .i64 x5)).setCell (p := ⟨D, 3, none⟩) (show D ≤ D by omega) (.int .i64 1)))
        have hE : U.heap[D]? = some (.cells #[.int .i64 x2, .int .i64 x3, .int .i64 x5, .int .i64 1] 29) := by rw [← hU]; exact (set4_3 (x := .int .i64 1) (set4_2 (x := .int .i64 x5) (set4_1 (x := .int .i64 x3) (set4_0 (x := .int .i64 x2) h0))))
        have HU := Lib.hid hU
        have z0 := cell4_0 hE
        have z1 := cell4_1 hE
        have z2 := cell4_2 hE
        have z3 := cell4_3 hE
        clear hE hU h0 h1 h2 hw
        go_wp2
        rw [HU.out]
        refine bodyPost_ret (v := .tuple #[.agg #[.int .i64 x2, .int .i64 x3, .int .i64 x5, .int .i64 1], .bool false]) (by simp [results, Tryz.results28, go_sem, z0, z1, z2, z3]) rfl ⟨rfl, by first | exact HW.out | (rw [hD]; exact HW.out)⟩
theorem rratio_any (n m : Nat) (w : World) (hn : 0 < n) (hm : 0 < m) (hn2 : n ≤ 1000000000) (hm2 : m ≤ 1000000000) :
    Calls Tryz.prog 28 #[.int .i64 (n : Int), .int .i64 (m : Int)] w fun e w' => e = .returned (.tuple #[.agg #[.int .i64 (Iv.e2 n m), .int .i64 (Iv.e3 n m), .int .i64 (Iv.e5 n m), .int .i64 1], .bool (decide (Iv.rest n = Iv.rest m))]) ∧ Below w.heap.size w w' := by
  obtain ⟨g, hg⟩ : ∃ g, Nat.gcd n m = g := ⟨_, rfl⟩
  have hg0 : 0 < g := by rw [← hg]; exact Nat.gcd_pos_of_pos_left _ hn
  have h := Iv.ratio_low hn hm
  rw [hg] at h
  have ha : 0 < n / g := Nat.div_pos (Nat.le_of_dvd hn (hg ▸ Nat.gcd_dvd_left n m)) hg0
  have hb : 0 < m / g := Nat.div_pos (Nat.le_of_dvd hm (hg ▸ Nat.gcd_dvd_right n m)) hg0
  have k := rratio_low n m g (n / g) (m / g) w hg0 rfl rfl (by rw [← hg]; rfl) hn2 hm2 ha hb
  rw [← h.1, ← h.2.1, ← h.2.2.1] at k
  have e : decide (Iv.rest n = Iv.rest m) = (decide (Iv.rest (n / g) = 1) && decide (Iv.rest (m / g) = 1)) := by
    rw [← Bool.decide_and]
    exact decide_eq_decide.2 h.2.2.2
  rw [e]
  exact k
end Go.Proofs.YthdoadkdofgenaaGreatDoor
