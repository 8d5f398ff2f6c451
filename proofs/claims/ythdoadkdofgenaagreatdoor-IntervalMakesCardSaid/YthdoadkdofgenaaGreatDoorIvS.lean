/- Contract of Ratio: the exponents of a quotient of two ints. -/
import Derived.Test.YthdoadkdofgenaaGreatDoorIvF
import Derived.Test.YthdoadkdofgenaaGreatDoorIvMathC
import Derived.Lib.Hide
import Derived.Test.YthdoadkdofgenaaGreatDoorIvK
namespace Go.Proofs.YthdoadkdofgenaaGreatDoor
open Go Go.RowKit Go.Shelf

theorem cell3_0 {W : World} {b : Nat} {c0 c1 c2 : Value} {T : TypeId} (h : W.heap[b]? = some (.cells #[c0, c1, c2] T)) : W.cell? ⟨b, 0, none⟩ = some c0 := by simp [World.cell?, h]
theorem free3_0 {W : World} {b : Nat} {c0 c1 c2 : Value} {T : TypeId} (h : W.heap[b]? = some (.cells #[c0, c1, c2] T)) : W.frozen? ⟨b, 0, none⟩ = false := by simp [World.frozen?, h]
theorem set3_0 {W : World} {b : Nat} {c0 c1 c2 x : Value} {T : TypeId} (h : W.heap[b]? = some (.cells #[c0, c1, c2] T)) : (W.setCell ⟨b, 0, none⟩ x).heap[b]? = some (.cells #[x, c1, c2] T) := by
  simp only [World.setCell, Array.getElem?_modify, if_true, h, Option.map_some]
  rfl
theorem cell3_1 {W : World} {b : Nat} {c0 c1 c2 : Value} {T : TypeId} (h : W.heap[b]? = some (.cells #[c0, c1, c2] T)) : W.cell? ⟨b, 1, none⟩ = some c1 := by simp [World.cell?, h]
theorem free3_1 {W : World} {b : Nat} {c0 c1 c2 : Value} {T : TypeId} (h : W.heap[b]? = some (.cells #[c0, c1, c2] T)) : W.frozen? ⟨b, 1, none⟩ = false := by simp [World.frozen?, h]
theorem set3_1 {W : World} {b : Nat} {c0 c1 c2 x : Value} {T : TypeId} (h : W.heap[b]? = some (.cells #[c0, c1, c2] T)) : (W.setCell ⟨b, 1, none⟩ x).heap[b]? = some (.cells #[c0, x, c2] T) := by
  simp only [World.setCell, Array.getElem?_modify, if_true, h, Option.map_some]
  rfl
theorem cell3_2 {W : World} {b : Nat} {c0 c1 c2 : Value} {T : TypeId} (h : W.heap[b]? = some (.cells #[c0, c1, c2] T)) : W.cell? ⟨b, 2, none⟩ = some c2 := by simp [World.cell?, h]
theorem free3_2 {W : World} {b : Nat} {c0 c1 c2 : Value} {T : TypeId} (h : W.heap[b]? = some (.cells #[c0, c1, c2] T)) : W.frozen? ⟨b, 2, none⟩ = false := by simp [World.frozen?, h]
theorem set3_2 {W : World} {b : Nat} {c0 c1 c2 x : Value} {T : TypeId} (h : W.heap[b]? = some (.cells #[c0, c1, c2] T)) : (W.setCell ⟨b, 2, none⟩ x).heap[b]? = some (.cells #[c0, c1, x] T) := by
  simp only [World.setCell, Array.getElem?_modify, if_true, h, Option.map_some]
  rfl

theorem tmod_nat (x p : Nat) : (x : Int).tmod (p : Int) = ((x % p : Nat) : Int) := (Int.ofNat_tmod x p).symm
theorem tdiv_nat' (x p : Nat) : (x : Int).tdiv (p : Int) = ((x / p : Nat) : Int) := (Int.ofNat_tdiv x p).symm

set_option maxHeartbeats 2000000 in
theorem ivratio_err (a b : Int) (w : World) (h : a < 1 ∨ b < 1) :
    Calls Tryz.prog 27 #[.int .i64 a, .int .i64 b] w fun e w' => e = .returned (.tuple #[.agg #[.int .i64 0, .int .i64 0, .int .i64 0, .int .i64 0, .int .i64 0, .int .i64 0], .int .i64 3]) ∧ Below w.heap.size w w' := by
  obtain ⟨D, hD⟩ : ∃ D, w.heap.size = D := ⟨_, rfl⟩
  have h1 : (w.alloc (.cells #[.int .i64 0, .int .i64 0, .int .i64 0, .int .i64 0, .int .i64 0, .int .i64 0] 25)).heap[D]? = some (.cells #[.int .i64 0, .int .i64 0, .int .i64 0, .int .i64 0, .int .i64 0, .int .i64 0] 25) := heap_new hD.symm
  have hw1 : Below D w (w.alloc (.cells #[.int .i64 0, .int .i64 0, .int .i64 0, .int .i64 0, .int .i64 0, .int .i64 0] 25)) := (Below.refl _ w).alloc (by omega) _
  by_cases ha : a < 1
  · go_enter Tryz.func27, Tryz.ntmps27
    have z0 := cell6_0 h1
    have z1 := cell6_1 h1
    have z2 := cell6_2 h1
    have z3 := cell6_3 h1
    have z4 := cell6_4 h1
    have z5 := cell6_5 h1
    go_wp2
    refine bodyPost_ret (v := .tuple #[.agg #[.int .i64 0, .int .i64 0, .int .i64 0, .int .i64 0, .int .i64 0, .int .i64 0], .int .i64 3]) (by simp [results, Tryz.results27, go_sem, z0, z1, z2, z3, z4, z5]) rfl ⟨rfl, by first | exact hw1 | (rw [hD]; exact hw1)⟩
  · have hb : b < 1 := by omega
    go_enter Tryz.func27, Tryz.ntmps27
    have z0 := cell6_0 h1
    have z1 := cell6_1 h1
    have z2 := cell6_2 h1
    have z3 := cell6_3 h1
    have z4 := cell6_4 h1
    have z5 := cell6_5 h1
    go_wp2
    refine bodyPost_ret (v := .tuple #[.agg #[.int .i64 0, .int .i64 0, .int .i64 0, .int .i64 0, .int .i64 0, .int .i64 0], .int .i64 3]) (by simp [results, Tryz.results27, go_sem, z0, z1, z2, z3, z4, z5]) rfl ⟨rfl, by first | exact hw1 | (rw [hD]; exact hw1)⟩
/-- What Ratio does with two numbers that are greater than 0. -/
def raN (x : Int) (a b : Nat) : Int := if Iv.rest a = Iv.rest b then szN x (Iv.e2 a b) (Iv.e3 a b) (Iv.e5 a b) 1 else 0
def raD (x : Int) (a b : Nat) : Int := if Iv.rest a = Iv.rest b then szD x (Iv.e2 a b) (Iv.e3 a b) (Iv.e5 a b) 1 else 0
def raE (a b : Nat) : Int := if Iv.rest a = Iv.rest b then szE (Iv.e2 a b) (Iv.e3 a b) (Iv.e5 a b) 1 else 7
set_option maxRecDepth 10000 in
set_option maxHeartbeats 8000000 in
theorem ivratio_any (a b : Nat) (w : World) (ha : 0 < a) (hb : 0 < b) (ha2 : a ≤ 9223372036854775807) (hb2 : b ≤ 9223372036854775807) :
    Calls Tryz.prog 27 #[.int .i64 (a : Int), .int .i64 (b : Int)] w fun e w' => e = .returned (.tuple #[.agg #[.int .i64 (raN (Iv.e2 a b) a b), .int .i64 (raD (Iv.e2 a b) a b), .int .i64 (raN (Iv.e3 a b) a b), .int .i64 (raD (Iv.e3 a b) a b), .int .i64 (raN (Iv.e5 a b) a b), .int .i64 (raD (Iv.e5 a b) a b)], .int .i64 (raE a b)]) ∧ Below w.heap.size w w' := by
  obtain ⟨a1, ea1⟩ : ∃ x, Iv.rp 2 a = x := ⟨_, rfl⟩
  obtain ⟨b1, eb1⟩ : ∃ x, Iv.rp 2 b = x := ⟨_, rfl⟩
  have ha1 : 0 < a1 := ea1 ▸ Iv.rp_pos (by decide) ha
  have hb1 : 0 < b1 := eb1 ▸ Iv.rp_pos (by decide) hb
  have la1 : a1 ≤ 9223372036854775807 := Nat.le_trans (ea1 ▸ Iv.rp_le (by decide) ha) ha2
  have lb1 : b1 ≤ 9223372036854775807 := Nat.le_trans (eb1 ▸ Iv.rp_le (by decide) hb) hb2
  obtain ⟨a2, ea2⟩ : ∃ x, Iv.rp 3 a1 = x := ⟨_, rfl⟩
  obtain ⟨b2, eb2⟩ : ∃ x, Iv.rp 3 b1 = x := ⟨_, rfl⟩
  have ha2' : 0 < a2 := ea2 ▸ Iv.rp_pos (by decide) ha1
  have hb2' : 0 < b2 := eb2 ▸ Iv.rp_pos (by decide) hb1
  have la2 : a2 ≤ 9223372036854775807 := Nat.le_trans (ea2 ▸ Iv.rp_le (by decide) ha1) la1
  have lb2 : b2 ≤ 9223372036854775807 := Nat.le_trans (eb2 ▸ Iv.rp_le (by decide) hb1) lb1
  obtain ⟨a3, ea3⟩ : ∃ x, Iv.rp 5 a2 = x := ⟨_, rfl⟩
  obtain ⟨b3, eb3⟩ : ∃ x, Iv.rp 5 b2 = x := ⟨_, rfl⟩
  have ha3 : 0 < a3 := ea3 ▸ Iv.rp_pos (by decide) ha2'
  have hb3 : 0 < b3 := eb3 ▸ Iv.rp_pos (by decide) hb2'
  have hx2 : Iv.e2 a b = (Iv.vp 2 a : Int) - (Iv.vp 2 b : Int) := rfl
  have hx3 : Iv.e3 a b = (Iv.vp 3 a1 : Int) - (Iv.vp 3 b1 : Int) := by rw [← ea1, ← eb1]; rfl
  have hx5 : Iv.e5 a b = (Iv.vp 5 a2 : Int) - (Iv.vp 5 b2 : Int) := by rw [← ea2, ← eb2, ← ea1, ← eb1]; rfl
  have hra : Iv.rest a = a3 := by rw [← ea3, ← ea2, ← ea1]; rfl
  have hrb : Iv.rest b = b3 := by rw [← eb3, ← eb2, ← eb1]; rfl
  unfold raN raD raE
  rw [hra, hrb]
  clear hra hrb
  generalize Iv.e2 a b = x2 at *
  generalize Iv.e3 a b = x3 at *
  generalize Iv.e5 a b = x5 at *
  obtain ⟨p0, ep0⟩ : ∃ p, (if a3 = b3 then szN x2 x2 x3 x5 1 else 0) = p := ⟨_, rfl⟩
  rw [ep0]
  have EP0 := Lib.hid ep0
  clear ep0
  obtain ⟨p1, ep1⟩ : ∃ p, (if a3 = b3 then szD x2 x2 x3 x5 1 else 0) = p := ⟨_, rfl⟩
  rw [ep1]
  have EP1 := Lib.hid ep1
  clear ep1
  obtain ⟨p2, ep2⟩ : ∃ p, (if a3 = b3 then szN x3 x2 x3 x5 1 else 0) = p := ⟨_, rfl⟩
  rw [ep2]
  have EP2 := Lib.hid ep2
  clear ep2
  obtain ⟨p3, ep3⟩ : ∃ p, (if a3 = b3 then szD x3 x2 x3 x5 1 else 0) = p := ⟨_, rfl⟩
  rw [ep3]
  have EP3 := Lib.hid ep3
  clear ep3
  obtain ⟨p4, ep4⟩ : ∃ p, (if a3 = b3 then szN x5 x2 x3 x5 1 else 0) = p := ⟨_, rfl⟩
  rw [ep4]
  have EP4 := Lib.hid ep4
  clear ep4
  obtain ⟨p5, ep5⟩ : ∃ p, (if a3 = b3 then szD x5 x2 x3 x5 1 else 0) = p := ⟨_, rfl⟩
  rw [ep5]
  have EP5 := Lib.hid ep5
  clear ep5
  obtain ⟨p6, ep6⟩ : ∃ p, (if a3 = b3 then szE x2 x3 x5 1 else 7) = p := ⟨_, rfl⟩
  rw [ep6]
  have EP6 := Lib.hid ep6
  clear ep6
  have vl0 := Iv.vp_lt (p := 2) (by decide) ha
  have wl0 := Iv.vp_lt (p := 2) (by decide) hb
  have vl1 := Iv.vp_lt (p := 3) (by decide) ha1
  have wl1 := Iv.vp_lt (p := 3) (by decide) hb1
  have vl2 := Iv.vp_lt (p := 5) (by decide) ha2'
  have wl2 := Iv.vp_lt (p := 5) (by decide) hb2'
  have WH := Lib.hid (fun W => ivwhole_any x2 x3 x5 W (by omega) (by omega) (by omega) (by omega) (by omega) (by omega))
  have A0 := Lib.hid (And.intro ha ha2)
  have A1 := Lib.hid (And.intro ha1 la1)
  have A2 := Lib.hid (And.intro ha2' la2)
  have B0 := Lib.hid (And.intro hb hb2)
  have B1 := Lib.hid (And.intro hb1 lb1)
  have B2 := Lib.hid (And.intro hb2' lb2)
  have V0 := Lib.hid (And.intro ea1 (And.intro eb1 hx2))
  have V1 := Lib.hid (And.intro ea2 (And.intro eb2 hx3))
  have V2 := Lib.hid (And.intro ea3 (And.intro eb3 hx5))
  have n1 : ¬ ((a : Int) < 1) := by omega
  have n2 : ¬ ((b : Int) < 1) := by omega
  clear ea1 eb1 ea2 eb2 ea3 eb3 hx2 hx3 hx5 vl0 wl0 vl1 wl1 vl2 wl2 la1 lb1 la2 lb2 ha1 hb1 ha2' hb2' ha3 hb3 ha hb ha2 hb2
  obtain ⟨D, hD⟩ : ∃ D, w.heap.size = D := ⟨_, rfl⟩
  go_enter Tryz.func27, Tryz.ntmps27
  go_wp2_with fail
  obtain ⟨V, hV⟩ : ∃ V, ((w.alloc (.cells #[.int .i64 0, .int .i64 0, .int .i64 0, .int .i64 0, .int .i64 0, .int .i64 0] 25)).alloc (.cells #[.int .i64 0, .int .i64 0, .int .i64 0] 27)) = V := ⟨_, rfl⟩
  have hwV : Below D w V := by rw [← hV]; exact ((Below.refl _ w).alloc (by omega) _).alloc (by simp; omega) _
  have h0V : V.heap[D]? = some (.cells #[.int .i64 0, .int .i64 0, .int .i64 0, .int .i64 0, .int .i64 0, .int .i64 0] 25) := by rw [← hV]; exact heap_old (heap_new hD.symm)
  have h1V : V.heap[D + 1]? = some (.cells #[.int .i64 0, .int .i64 0, .int .i64 0] 27) := by rw [← hV]; exact heap_new (by simp [hD])
  try rw [hV]
  clear hV n1 n2
  go_loopw [0, 1, 17] (fun n d i wr => ((i = .int .i64 0 ∧ n = .int .i64 (a : Nat) ∧ d = .int .i64 (b : Nat) ∧ wr.heap[D + 1]? = some (.cells #[.int .i64 0, .int .i64 0, .int .i64 0] 27)) ∨ (i = .int .i64 1 ∧ n = .int .i64 (a1 : Nat) ∧ d = .int .i64 (b1 : Nat) ∧ wr.heap[D + 1]? = some (.cells #[.int .i64 x2, .int .i64 0, .int .i64 0] 27)) ∨ (i = .int .i64 2 ∧ n = .int .i64 (a2 : Nat) ∧ d = .int .i64 (b2 : Nat) ∧ wr.heap[D + 1]? = some (.cells #[.int .i64 x2, .int .i64 x3, .int .i64 0] 27)) ∨ (i = .int .i64 3 ∧ n = .int .i64 (a3 : Nat) ∧ d = .int .i64 (b3 : Nat) ∧ wr.heap[D + 1]? = some (.cells #[.int .i64 x2, .int .i64 x3, .int .i64 x5] 27))) ∧ Below D w wr ∧ wr.heap[D]? = some (.cells #[.int .i64 0, .int .i64 0, .int .i64 0, .int .i64 0, .int .i64 0, .int .i64 0] 25)) (fun _ _ i _ => 3 - (intOf i).toNat)
  case atStart => exact ⟨.inl ⟨rfl, rfl, rfl, h1V⟩, hwV, h0V⟩
  case round =>
    obtain ⟨hk, hw, h0⟩ := hrel
    clear hwV h0V h1V
    obtain ⟨wo, hwo⟩ : ∃ wo, wo = wr := ⟨_, rfl⟩
    subst hwo
    rcases hk with ⟨rfl, rfl, rfl, h1⟩ | ⟨rfl, rfl, rfl, h1⟩ | ⟨rfl, rfl, rfl, h1⟩ | ⟨rfl, rfl, rfl, h1⟩
    · obtain ⟨pa, la⟩ := A0.out
      obtain ⟨pb, lb⟩ := B0.out
      have HW0 := Lib.hid hw
      have HZ0 := Lib.hid h0
      have HE0 := Lib.hid h1
      clear hw h0 h1
      have IX := ix_int0 2 3 5
      go_wp2_with fail
      go_loopw [0] (fun n wk => ∃ x k : Nat, 0 < x ∧ x * 2 ^ k = a ∧ n = .int .i64 (x : Int) ∧ Below D w wk ∧ wk.heap[D]? = some (.cells #[.int .i64 0, .int .i64 0, .int .i64 0, .int .i64 0, .int .i64 0, .int .i64 0] 25) ∧ wk.heap[D + 1]? = some (.cells #[.int .i64 (k : Int), .int .i64 0, .int .i64 0] 27)) (fun n _ => (intOf n).toNat)
      case atStart => exact ⟨a, 0, pa, by simp, rfl, HW0.out, HZ0.out, HE0.out⟩
      case round =>
        obtain ⟨x, k, hx, hxk, rfl, hw, h0, h1⟩ := hrel
        have hk := Iv.cnt_lt (p := 2) (by decide) hxk hx
        have hxa : x ≤ a := by rw [← hxk]; exact Nat.le_mul_of_pos_right _ (Nat.pow_pos (by decide))
        have m1 := tmod_nat x 2
        have q1 := tdiv_nat' x 2
        have hq := Nat.div_lt_self hx (show 1 < 2 by decide)
        have HW := Lib.hid hw
        have HZ := Lib.hid h0
        have HE := Lib.hid h1
        have hDn := (Array.getElem?_eq_some_iff.1 h1).1
        by_cases hd : x % 2 = 0
        · have hs := Iv.strip_step hxk hd
          have hp := Iv.step_pos hx (show 0 < 2 by decide) hd
          rw [hd] at m1
          obtain ⟨q, eq⟩ : ∃ q, x / 2 = q := ⟨_, rfl⟩
          rw [eq] at hs hp q1 hq
          have r0 := cell3_0 h1
          have f0 := free3_0 h1
          have HS := Lib.hid hs
          have m1 : (x : Int).tmod 2 = 0 := m1
          have q1 : (x : Int).tdiv 2 = (q : Int) := q1
          clear hs eq hd hxk h0 h1 hw
          go_wp2
          refine ⟨⟨q, k + 1, hp, HS.out, rfl, HW.out.setCell (p := ⟨D + 1, 0, none⟩) (show D ≤ D + 1 by omega) _, (set_other (by omega)).trans HZ.out, ?_⟩, ?_⟩
          · push_cast; exact set3_0 HE.out
          · simp [intOf]; omega
        · obtain ⟨e1, e2⟩ := Iv.strip_is (p := 2) (by decide) hxk hd
          rw [V0.out.1] at e1
          have hd' : ¬ (((x % 2 : Nat) : Int) = 0) := by omega
          obtain ⟨y0, hy0⟩ : ∃ y0, x % 2 = y0 := ⟨_, rfl⟩
          have m1 : (x : Int).tmod 2 = ((x % 2 : Nat) : Int) := m1
          rw [hy0] at m1 hd'
          subst e1
          have E2 := Lib.hid e2
          clear e2 hy0 hd hxk h0 h1 hw q1 hq
          go_wp2_with fail
          go_loopw [1] (fun n wk => ∃ x k : Nat, 0 < x ∧ x * 2 ^ k = b ∧ n = .int .i64 (x : Int) ∧ Below D w wk ∧ wk.heap[D]? = some (.cells #[.int .i64 0, .int .i64 0, .int .i64 0, .int .i64 0, .int .i64 0, .int .i64 0] 25) ∧ wk.heap[D + 1]? = some (.cells #[.int .i64 ((Iv.vp 2 a : Int) - (k : Int)), .int .i64 0, .int .i64 0] 27)) (fun n _ => (intOf n).toNat)
          case atStart => exact ⟨b, 0, pb, by simp, rfl, HW.out, HZ.out, by rw [E2.out]; simpa using HE.out⟩
          case round =>
            obtain ⟨x, k2, hx, hxk, rfl, hw, h0, h1⟩ := hrel
            have hk2 := Iv.cnt_lt (p := 2) (by decide) hxk hx
            have hxa2 : x ≤ b := by rw [← hxk]; exact Nat.le_mul_of_pos_right _ (Nat.pow_pos (by decide))
            have m1 := tmod_nat x 2
            have q1 := tdiv_nat' x 2
            have hq := Nat.div_lt_self hx (show 1 < 2 by decide)
            have HW := Lib.hid hw
            have HZ := Lib.hid h0
            have HE := Lib.hid h1
            have hDn := (Array.getElem?_eq_some_iff.1 h1).1
            rw [E2.out] at h1
            by_cases hd : x % 2 = 0
            · have hs := Iv.strip_step hxk hd
              have hp := Iv.step_pos hx (show 0 < 2 by decide) hd
              rw [hd] at m1
              obtain ⟨q, eq⟩ : ∃ q, x / 2 = q := ⟨_, rfl⟩
              rw [eq] at hs hp q1 hq
              have r0 := cell3_0 h1
              have f0 := free3_0 h1
              have HS := Lib.hid hs
              have m1 : (x : Int).tmod 2 = 0 := m1
              have q1 : (x : Int).tdiv 2 = (q : Int) := q1
              clear hs eq hd hxk h0 h1 hw
              go_wp2
              refine ⟨⟨q, k2 + 1, hp, HS.out, rfl, HW.out.setCell (p := ⟨D + 1, 0, none⟩) (show D ≤ D + 1 by omega) _, (set_other (by omega)).trans HZ.out, ?_⟩, ?_⟩
              · rw [show ((Iv.vp 2 a : Int) - ((k2 + 1 : Nat) : Int)) = (k : Int) - (k2 : Int) - 1 by rw [E2.out]; push_cast; omega]
                exact set3_0 HE.out
              · simp [intOf]; omega
            · obtain ⟨e1, e3⟩ := Iv.strip_is (p := 2) (by decide) hxk hd
              rw [V0.out.2.1] at e1
              have hd' : ¬ (((x % 2 : Nat) : Int) = 0) := by omega
              obtain ⟨y0, hy0⟩ : ∃ y0, x % 2 = y0 := ⟨_, rfl⟩
              have m1 : (x : Int).tmod 2 = ((x % 2 : Nat) : Int) := m1
              rw [hy0] at m1 hd'
              subst e1
              have EX : x2 = (Iv.vp 2 a : Int) - (k2 : Int) := by rw [V0.out.2.2, e3]
              have EXH := Lib.hid EX
              clear e3 EX hy0 hd hxk h0 h1 hw q1 hq
              go_wp2_with fail
              go_roundw
              case rel => exact ⟨.inr (.inl ⟨rfl, rfl, rfl, by rw [EXH.out]; exact HE.out⟩), HW.out, HZ.out⟩
              case measure => simp [intOf]
    · obtain ⟨pa, la⟩ := A1.out
      obtain ⟨pb, lb⟩ := B1.out
      have HW0 := Lib.hid hw
      have HZ0 := Lib.hid h0
      have HE0 := Lib.hid h1
      clear hw h0 h1
      have IX := ix_int1 2 3 5
      go_wp2_with fail
      go_loopw [0] (fun n wk => ∃ x k : Nat, 0 < x ∧ x * 3 ^ k = a1 ∧ n = .int .i64 (x : Int) ∧ Below D w wk ∧ wk.heap[D]? = some (.cells #[.int .i64 0, .int .i64 0, .int .i64 0, .int .i64 0, .int .i64 0, .int .i64 0] 25) ∧ wk.heap[D + 1]? = some (.cells #[.int .i64 x2, .int .i64 (k : Int), .int .i64 0] 27)) (fun n _ => (intOf n).toNat)
      case atStart => exact ⟨a1, 0, pa, by simp, rfl, HW0.out, HZ0.out, HE0.out⟩
      case round =>
        obtain ⟨x, k, hx, hxk, rfl, hw, h0, h1⟩ := hrel
        have hk := Iv.cnt_lt (p := 3) (by decide) hxk hx
        have hxa : x ≤ a1 := by rw [← hxk]; exact Nat.le_mul_of_pos_right _ (Nat.pow_pos (by decide))
        have m1 := tmod_nat x 3
        have q1 := tdiv_nat' x 3
        have hq := Nat.div_lt_self hx (show 1 < 3 by decide)
        have HW := Lib.hid hw
        have HZ := Lib.hid h0
        have HE := Lib.hid h1
        have hDn := (Array.getElem?_eq_some_iff.1 h1).1
        by_cases hd : x % 3 = 0
        · have hs := Iv.strip_step hxk hd
          have hp := Iv.step_pos hx (show 0 < 3 by decide) hd
          rw [hd] at m1
          obtain ⟨q, eq⟩ : ∃ q, x / 3 = q := ⟨_, rfl⟩
          rw [eq] at hs hp q1 hq
          have r0 := cell3_1 h1
          have f0 := free3_1 h1
          have HS := Lib.hid hs
          have m1 : (x : Int).tmod 3 = 0 := m1
          have q1 : (x : Int).tdiv 3 = (q : Int) := q1
          clear hs eq hd hxk h0 h1 hw
          go_wp2
          refine ⟨⟨q, k + 1, hp, HS.out, rfl, HW.out.setCell (p := ⟨D + 1, 1, none⟩) (show D ≤ D + 1 by omega) _, (set_other (by omega)).trans HZ.out, ?_⟩, ?_⟩
          · push_cast; exact set3_1 HE.out
          · simp [intOf]; omega
        · obtain ⟨e1, e2⟩ := Iv.strip_is (p := 3) (by decide) hxk hd
          rw [V1.out.1] at e1
          have hd' : ¬ (((x % 3 : Nat) : Int) = 0) := by omega
          obtain ⟨y0, hy0⟩ : ∃ y0, x % 3 = y0 := ⟨_, rfl⟩
          have m1 : (x : Int).tmod 3 = ((x % 3 : Nat) : Int) := m1
          rw [hy0] at m1 hd'
          subst e1
          have E2 := Lib.hid e2
          clear e2 hy0 hd hxk h0 h1 hw q1 hq
          go_wp2_with fail
          go_loopw [1] (fun n wk => ∃ x k : Nat, 0 < x ∧ x * 3 ^ k = b1 ∧ n = .int .i64 (x : Int) ∧ Below D w wk ∧ wk.heap[D]? = some (.cells #[.int .i64 0, .int .i64 0, .int .i64 0, .int .i64 0, .int .i64 0, .int .i64 0] 25) ∧ wk.heap[D + 1]? = some (.cells #[.int .i64 x2, .int .i64 ((Iv.vp 3 a1 : Int) - (k : Int)), .int .i64 0] 27)) (fun n _ => (intOf n).toNat)
          case atStart => exact ⟨b1, 0, pb, by simp, rfl, HW.out, HZ.out, by rw [E2.out]; simpa using HE.out⟩
          case round =>
            obtain ⟨x, k2, hx, hxk, rfl, hw, h0, h1⟩ := hrel
            have hk2 := Iv.cnt_lt (p := 3) (by decide) hxk hx
            have hxa2 : x ≤ b1 := by rw [← hxk]; exact Nat.le_mul_of_pos_right _ (Nat.pow_pos (by decide))
            have m1 := tmod_nat x 3
            have q1 := tdiv_nat' x 3
            have hq := Nat.div_lt_self hx (show 1 < 3 by decide)
            have HW := Lib.hid hw
            have HZ := Lib.hid h0
            have HE := Lib.hid h1
            have hDn := (Array.getElem?_eq_some_iff.1 h1).1
            rw [E2.out] at h1
            by_cases hd : x % 3 = 0
            · have hs := Iv.strip_step hxk hd
              have hp := Iv.step_pos hx (show 0 < 3 by decide) hd
              rw [hd] at m1
              obtain ⟨q, eq⟩ : ∃ q, x / 3 = q := ⟨_, rfl⟩
              rw [eq] at hs hp q1 hq
              have r0 := cell3_1 h1
              have f0 := free3_1 h1
              have HS := Lib.hid hs
              have m1 : (x : Int).tmod 3 = 0 := m1
              have q1 : (x : Int).tdiv 3 = (q : Int) := q1
              clear hs eq hd hxk h0 h1 hw
              go_wp2
              refine ⟨⟨q, k2 + 1, hp, HS.out, rfl, HW.out.setCell (p := ⟨D + 1, 1, none⟩) (show D ≤ D + 1 by omega) _, (set_other (by omega)).trans HZ.out, ?_⟩, ?_⟩
              · rw [show ((Iv.vp 3 a1 : Int) - ((k2 + 1 : Nat) : Int)) = (k : Int) - (k2 : Int) - 1 by rw [E2.out]; push_cast; omega]
                exact set3_1 HE.out
              · simp [intOf]; omega
            · obtain ⟨e1, e3⟩ := Iv.strip_is (p := 3) (by decide) hxk hd
              rw [V1.out.2.1] at e1
              have hd' : ¬ (((x % 3 : Nat) : Int) = 0) := by omega
              obtain ⟨y0, hy0⟩ : ∃ y0, x % 3 = y0 := ⟨_, rfl⟩
              have m1 : (x : Int).tmod 3 = ((x % 3 : Nat) : Int) := m1
              rw [hy0] at m1 hd'
              subst e1
              have EX : x3 = (Iv.vp 3 a1 : Int) - (k2 : Int) := by rw [V1.out.2.2, e3]
              have EXH := Lib.hid EX
              clear e3 EX hy0 hd hxk h0 h1 hw q1 hq
              go_wp2_with fail
              go_roundw
              case rel => exact ⟨.inr (.inr (.inl ⟨rfl, rfl, rfl, by rw [EXH.out]; exact HE.out⟩)), HW.out, HZ.out⟩
              case measure => simp [intOf]
    · obtain ⟨pa, la⟩ := A2.out
      obtain ⟨pb, lb⟩ := B2.out
      have HW0 := Lib.hid hw
      have HZ0 := Lib.hid h0
      have HE0 := Lib.hid h1
      clear hw h0 h1
      have IX := ix_int2 2 3 5
      go_wp2_with fail
      go_loopw [0] (fun n wk => ∃ x k : Nat, 0 < x ∧ x * 5 ^ k = a2 ∧ n = .int .i64 (x : Int) ∧ Below D w wk ∧ wk.heap[D]? = some (.cells #[.int .i64 0, .int .i64 0, .int .i64 0, .int .i64 0, .int .i64 0, .int .i64 0] 25) ∧ wk.heap[D + 1]? = some (.cells #[.int .i64 x2, .int .i64 x3, .int .i64 (k : Int)] 27)) (fun n _ => (intOf n).toNat)
      case atStart => exact ⟨a2, 0, pa, by simp, rfl, HW0.out, HZ0.out, HE0.out⟩
      case round =>
        obtain ⟨x, k, hx, hxk, rfl, hw, h0, h1⟩ := hrel
        have hk := Iv.cnt_lt (p := 5) (by decide) hxk hx
        have hxa : x ≤ a2 := by rw [← hxk]; exact Nat.le_mul_of_pos_right _ (Nat.pow_pos (by decide))
        have m1 := tmod_nat x 5
        have q1 := tdiv_nat' x 5
        have hq := Nat.div_lt_self hx (show 1 < 5 by decide)
        have HW := Lib.hid hw
        have HZ := Lib.hid h0
        have HE := Lib.hid h1
        have hDn := (Array.getElem?_eq_some_iff.1 h1).1
        by_cases hd : x % 5 = 0
        · have hs := Iv.strip_step hxk hd
          have hp := Iv.step_pos hx (show 0 < 5 by decide) hd
          rw [hd] at m1
          obtain ⟨q, eq⟩ : ∃ q, x / 5 = q := ⟨_, rfl⟩
          rw [eq] at hs hp q1 hq
          have r0 := cell3_2 h1
          have f0 := free3_2 h1
          have HS := Lib.hid hs
          have m1 : (x : Int).tmod 5 = 0 := m1
          have q1 : (x : Int).tdiv 5 = (q : Int) := q1
          clear hs eq hd hxk h0 h1 hw
          go_wp2
          refine ⟨⟨q, k + 1, hp, HS.out, rfl, HW.out.setCell (p := ⟨D + 1, 2, none⟩) (show D ≤ D + 1 by omega) _, (set_other (by omega)).trans HZ.out, ?_⟩, ?_⟩
          · push_cast; exact set3_2 HE.out
          · simp [intOf]; omega
        · obtain ⟨e1, e2⟩ := Iv.strip_is (p := 5) (by decide) hxk hd
          rw [V2.out.1] at e1
          have hd' : ¬ (((x % 5 : Nat) : Int) = 0) := by omega
          obtain ⟨y0, hy0⟩ : ∃ y0, x % 5 = y0 := ⟨_, rfl⟩
          have m1 : (x : Int).tmod 5 = ((x % 5 : Nat) : Int) := m1
          rw [hy0] at m1 hd'
          subst e1
          have E2 := Lib.hid e2
          clear e2 hy0 hd hxk h0 h1 hw q1 hq
          go_wp2_with fail
          go_loopw [1] (fun n wk => ∃ x k : Nat, 0 < x ∧ x * 5 ^ k = b2 ∧ n = .int .i64 (x : Int) ∧ Below D w wk ∧ wk.heap[D]? = some (.cells #[.int .i64 0, .int .i64 0, .int .i64 0, .int .i64 0, .int .i64 0, .int .i64 0] 25) ∧ wk.heap[D + 1]? = some (.cells #[.int .i64 x2, .int .i64 x3, .int .i64 ((Iv.vp 5 a2 : Int) - (k : Int))] 27)) (fun n _ => (intOf n).toNat)
          case atStart => exact ⟨b2, 0, pb, by simp, rfl, HW.out, HZ.out, by rw [E2.out]; simpa using HE.out⟩
          case round =>
            obtain ⟨x, k2, hx, hxk, rfl, hw, h0, h1⟩ := hrel
            have hk2 := Iv.cnt_lt (p := 5) (by decide) hxk hx
            have hxa2 : x ≤ b2 := by rw [← hxk]; exact Nat.le_mul_of_pos_right _ (Nat.pow_pos (by decide))
            have m1 := tmod_nat x 5
            have q1 := tdiv_nat' x 5
            have hq := Nat.div_lt_self hx (show 1 < 5 by decide)
            have HW := Lib.hid hw
            have HZ := Lib.hid h0
            have HE := Lib.hid h1
            have hDn := (Array.getElem?_eq_some_iff.1 h1).1
            rw [E2.out] at h1
            by_cases hd : x % 5 = 0
            · have hs := Iv.strip_step hxk hd
              have hp := Iv.step_pos hx (show 0 < 5 by decide) hd
              rw [hd] at m1
              obtain ⟨q, eq⟩ : ∃ q, x / 5 = q := ⟨_, rfl⟩
              rw [eq] at hs hp q1 hq
              have r0 := cell3_2 h1
              have f0 := free3_2 h1
              have HS := Lib.hid hs
              have m1 : (x : Int).tmod 5 = 0 := m1
              have q1 : (x : Int).tdiv 5 = (q : Int) := q1
              clear hs eq hd hxk h0 h1 hw
              go_wp2
              refine ⟨⟨q, k2 + 1, hp, HS.out, rfl, HW.out.setCell (p := ⟨D + 1, 2, none⟩) (show D ≤ D + 1 by omega) _, (set_other (by omega)).trans HZ.out, ?_⟩, ?_⟩
              · rw [show ((Iv.vp 5 a2 : Int) - ((k2 + 1 : Nat) : Int)) = (k : Int) - (k2 : Int) - 1 by rw [E2.out]; push_cast; omega]
                exact set3_2 HE.out
              · simp [intOf]; omega
            · obtain ⟨e1, e3⟩ := Iv.strip_is (p := 5) (by decide) hxk hd
              rw [V2.out.2.1] at e1
              have hd' : ¬ (((x % 5 : Nat) : Int) = 0) := by omega
              obtain ⟨y0, hy0⟩ : ∃ y0, x % 5 = y0 := ⟨_, rfl⟩
              have m1 : (x : Int).tmod 5 = ((x % 5 : Nat) : Int) := m1
              rw [hy0] at m1 hd'
              subst e1
              have EX : x5 = (Iv.vp 5 a2 : Int) - (k2 : Int) := by rw [V2.out.2.2, e3]
              have EXH := Lib.hid EX
              clear e3 EX hy0 hd hxk h0 h1 hw q1 hq
              go_wp2_with fail
              go_roundw
              case rel => exact ⟨.inr (.inr (.inr (⟨rfl, rfl, rfl, by rw [EXH.out]; exact HE.out⟩))), HW.out, HZ.out⟩
              case measure => simp [intOf]
    · by_cases hr : a3 = b3
      · skip
        have e0 := EP0.out
        rw [if_pos hr] at e0
        have e1 := EP1.out
        rw [if_pos hr] at e1
        have e2 := EP2.out
        rw [if_pos hr] at e2
        have e3 := EP3.out
        rw [if_pos hr] at e3
        have e4 := EP4.out
        rw [if_pos hr] at e4
        have e5 := EP5.out
        rw [if_pos hr] at e5
        have e6 := EP6.out
        rw [if_pos hr] at e6
        rw [e0, e1, e2, e3, e4, e5, e6] at WH
        clear EP0 EP1 EP2 EP3 EP4 EP5 EP6 e0 e1 e2 e3 e4 e5 e6
        subst hr
        have r0 := cell3_0 h1
        have r1 := cell3_1 h1
        have r2 := cell3_2 h1
        go_wp2_with fail
        refine (WH.out _).mono ?_
        rintro e w1 ⟨rfl, hb1⟩
        have hl := (Array.getElem?_eq_some_iff.1 h0).1
        have h2 := (hb1.block D hl).trans h0
        have hw1 := hw.trans (hb1.mono (by have := hw.size; omega))
        have r0_ := cell6_0 h2
        have g0_ := free6_0 h2
        have r1_ := cell6_1 h2
        have g1_ := free6_1 h2
        have r2_ := cell6_2 h2
        have g2_ := free6_2 h2
        have r3_ := cell6_3 h2
        have g3_ := free6_3 h2
        have r4_ := cell6_4 h2
        have g4_ := free6_4 h2
        have r5_ := cell6_5 h2
        have g5_ := free6_5 h2
        obtain ⟨U, hU⟩ : ∃ U, ((((((w1.setCell ⟨D, 0, none⟩ (.int .i64 p0)).setCell ⟨D, 1, none⟩ (.int .i64 p1)).setCell ⟨D, 2, none⟩ (.int .i64 p2)).setCell ⟨D, 3, none⟩ (.int .i64 p3)).setCell ⟨D, 4, none⟩ (.int .i64 p4)).setCell ⟨D, 5, none⟩ (.int .i64 p5)) = U := ⟨_, rfl⟩
        have HW := Lib.hid (show Below D w U by rw [← hU]; exact ((((((hw1.setCell (p := ⟨D, 0, none⟩) (show D ≤ D by omega) (.int .i64 p0)).setCell (p := ⟨D, 1, none⟩) (show D ≤ D by omega) (.int .i64 p1)).setCell (p := ⟨D, 2, none⟩) (show D ≤ D by omega) (.int .i64 p2)).setCell (p := ⟨D, 3, none⟩) (show D ≤ D by omega) (.int .i64 p3)).setCell (p := ⟨D, 4, none⟩) (show D ≤ D by omega) (.int .i64 p4)).setCell (p := ⟨D, 5, none⟩) (show D ≤ D by omega) (.int .i64 p5)))
        have hE : U.heap[D]? = some (.cells #[.int .i64 p0, .int .i64 p1, .int .i64 p2, .int .i64 p3, .int .i64 p4, .int .i64 p5] 25) := by rw [← hU]; exact (set6_5 (x := .int .i64 p5) (set6_4 (x := .int .i64 p4) (set6_3 (x := .int .i64 p3) (set6_2 (x := .int .i64 p2) (set6_1 (x := .int .i64 p1) (set6_0 (x := .int .i64 p0) h2))))))
        have HU := Lib.hid hU
        have z0 := cell6_0 hE
        have z1 := cell6_1 hE
        have z2 := cell6_2 hE
        have z3 := cell6_3 hE
        have z4 := cell6_4 hE
        have z5 := cell6_5 hE
        clear hE hU h1 h0 hw h2 hw1 hb1 r0 r1 r2
        go_wp2
        rw [HU.out]
        refine bodyPost_ret (v := .tuple #[.agg #[.int .i64 p0, .int .i64 p1, .int .i64 p2, .int .i64 p3, .int .i64 p4, .int .i64 p5], .int .i64 p6]) (by simp [results, Tryz.results27, go_sem, z0, z1, z2, z3, z4, z5]) rfl ⟨rfl, by first | exact HW.out | (rw [hD]; exact HW.out)⟩
      · have hne : ¬ ((a3 : Int) = (b3 : Int)) := by omega
        have e0 := EP0.out
        rw [if_neg hr] at e0
        subst e0
        have e1 := EP1.out
        rw [if_neg hr] at e1
        subst e1
        have e2 := EP2.out
        rw [if_neg hr] at e2
        subst e2
        have e3 := EP3.out
        rw [if_neg hr] at e3
        subst e3
        have e4 := EP4.out
        rw [if_neg hr] at e4
        subst e4
        have e5 := EP5.out
        rw [if_neg hr] at e5
        subst e5
        have e6 := EP6.out
        rw [if_neg hr] at e6
        subst e6
        clear EP0 EP1 EP2 EP3 EP4 EP5 EP6
        have hw1 := hw
        have r0_ := cell6_0 h0
        have g0_ := free6_0 h0
        have r1_ := cell6_1 h0
        have g1_ := free6_1 h0
        have r2_ := cell6_2 h0
        have g2_ := free6_2 h0
        have r3_ := cell6_3 h0
        have g3_ := free6_3 h0
        have r4_ := cell6_4 h0
        have g4_ := free6_4 h0
        have r5_ := cell6_5 h0
        have g5_ := free6_5 h0
        obtain ⟨U, hU⟩ : ∃ U, ((((((wo.setCell ⟨D, 0, none⟩ (.int .i64 0)).setCell ⟨D, 1, none⟩ (.int .i64 0)).setCell ⟨D, 2, none⟩ (.int .i64 0)).setCell ⟨D, 3, none⟩ (.int .i64 0)).setCell ⟨D, 4, none⟩ (.int .i64 0)).setCell ⟨D, 5, none⟩ (.int .i64 0)) = U := ⟨_, rfl⟩
        have HW := Lib.hid (show Below D w U by rw [← hU]; exact ((((((hw1.setCell (p := ⟨D, 0, none⟩) (show D ≤ D by omega) (.int .i64 0)).setCell (p := ⟨D, 1, none⟩) (show D ≤ D by omega) (.int .i64 0)).setCell (p := ⟨D, 2, none⟩) (show D ≤ D by omega) (.int .i64 0)).setCell (p := ⟨D, 3, none⟩) (show D ≤ D by omega) (.int .i64 0)).setCell (p := ⟨D, 4, none⟩) (show D ≤ D by omega) (.int .i64 0)).setCell (p := ⟨D, 5, none⟩) (show D ≤ D by omega) (.int .i64 0)))
        have hE : U.heap[D]? = some (.cells #[.int .i64 0, .int .i64 0, .int .i64 0, .int .i64 0, .int .i64 0, .int .i64 0] 25) := by rw [← hU]; exact (set6_5 (x := .int .i64 0) (set6_4 (x := .int .i64 0) (set6_3 (x := .int .i64 0) (set6_2 (x := .int .i64 0) (set6_1 (x := .int .i64 0) (set6_0 (x := .int .i64 0) h0))))))
        have HU := Lib.hid hU
        have z0 := cell6_0 hE
        have z1 := cell6_1 hE
        have z2 := cell6_2 hE
        have z3 := cell6_3 hE
        have z4 := cell6_4 hE
        have z5 := cell6_5 hE
        clear hE hU h1 h0 hw hw1
        go_wp2
        rw [HU.out]
        refine bodyPost_ret (v := .tuple #[.agg #[.int .i64 0, .int .i64 0, .int .i64 0, .int .i64 0, .int .i64 0, .int .i64 0], .int .i64 7]) (by simp [results, Tryz.results27, go_sem, z0, z1, z2, z3, z4, z5]) rfl ⟨rfl, by first | exact HW.out | (rw [hD]; exact HW.out)⟩
end Go.Proofs.YthdoadkdofgenaaGreatDoor
/- Contract of Named: the listed table of names. -/
namespace Go.Proofs.YthdoadkdofgenaaGreatDoor
open Go Go.RowKit Go.Shelf

/-- The names with their exponents. -/
def NL : List (ByteArray × Int × Int × Int) := [(⟨#[117, 110, 105, 115, 111, 110]⟩, 0, 0, 0), (⟨#[111, 99, 116, 97, 118, 101]⟩, 1, 0, 0), (⟨#[102, 105, 102, 116, 104]⟩, -1, 1, 0), (⟨#[102, 111, 117, 114, 116, 104]⟩, 2, -1, 0), (⟨#[116, 104, 105, 114, 100]⟩, -2, 0, 1), (⟨#[109, 105, 110, 111, 114]⟩, 1, 1, -1), (⟨#[116, 111, 110, 101]⟩, -3, 2, 0), (⟨#[115, 121, 110, 116, 111, 110, 105, 99]⟩, -4, 4, -1), (⟨#[112, 121, 116, 104, 97, 103, 111, 114, 101, 97, 110]⟩, -19, 12, 0), (⟨#[115, 99, 104, 105, 115, 109, 97]⟩, -15, 8, 1), (⟨#[100, 105, 101, 115, 105, 115]⟩, 7, 0, -3)]
def namesC : Array Value := #[.string ⟨#[117, 110, 105, 115, 111, 110]⟩, .int .i64 0, .int .i64 0, .int .i64 0, .string ⟨#[111, 99, 116, 97, 118, 101]⟩, .int .i64 1, .int .i64 0, .int .i64 0, .string ⟨#[102, 105, 102, 116, 104]⟩, .int .i64 (-1), .int .i64 1, .int .i64 0, .string ⟨#[102, 111, 117, 114, 116, 104]⟩, .int .i64 2, .int .i64 (-1), .int .i64 0, .string ⟨#[116, 104, 105, 114, 100]⟩, .int .i64 (-2), .int .i64 0, .int .i64 1, .string ⟨#[109, 105, 110, 111, 114]⟩, .int .i64 1, .int .i64 1, .int .i64 (-1), .string ⟨#[116, 111, 110, 101]⟩, .int .i64 (-3), .int .i64 2, .int .i64 0, .string ⟨#[115, 121, 110, 116, 111, 110, 105, 99]⟩, .int .i64 (-4), .int .i64 4, .int .i64 (-1), .string ⟨#[112, 121, 116, 104, 97, 103, 111, 114, 101, 97, 110]⟩, .int .i64 (-19), .int .i64 12, .int .i64 0, .string ⟨#[115, 99, 104, 105, 115, 109, 97]⟩, .int .i64 (-15), .int .i64 8, .int .i64 1, .string ⟨#[100, 105, 101, 115, 105, 115]⟩, .int .i64 7, .int .i64 0, .int .i64 (-3)]
/-- The table of names lies as it was laid. -/
def Nm (W : World) : Prop := ∃ T fr, W.heap[0]? = some (.cells namesC T fr)
theorem Nm.below {w w' : World} (h : Nm w) (hb : Below w.heap.size w w') : Nm w' := by
  obtain ⟨T, fr, h⟩ := h
  exact ⟨T, fr, (hb.block _ (Array.getElem?_eq_some_iff.1 h).1).trans h⟩
theorem nidx : ∀ (k : Nat), k < 11 → ∃ (s : ByteArray) (x y z : Int), NL.drop k = (s, x, y, z) :: NL.drop (k + 1) ∧ (-100 ≤ x ∧ x ≤ 100 ∧ -100 ≤ y ∧ y ≤ 100 ∧ -100 ≤ z ∧ z ≤ 100) ∧ ∀ W, Sem.run Tryz.prog (Instr.index 91 (.agg namesC) (.int .i64 (k : Int))) W = .ok (.agg #[.string s, .int .i64 x, .int .i64 y, .int .i64 z]) W
  | 0, _ => ⟨⟨#[117, 110, 105, 115, 111, 110]⟩, 0, 0, 0, rfl, by decide, fun W => by kernel_rfl⟩
  | 1, _ => ⟨⟨#[111, 99, 116, 97, 118, 101]⟩, 1, 0, 0, rfl, by decide, fun W => by kernel_rfl⟩
  | 2, _ => ⟨⟨#[102, 105, 102, 116, 104]⟩, -1, 1, 0, rfl, by decide, fun W => by kernel_rfl⟩
  | 3, _ => ⟨⟨#[102, 111, 117, 114, 116, 104]⟩, 2, -1, 0, rfl, by decide, fun W => by kernel_rfl⟩
  | 4, _ => ⟨⟨#[116, 104, 105, 114, 100]⟩, -2, 0, 1, rfl, by decide, fun W => by kernel_rfl⟩
  | 5, _ => ⟨⟨#[109, 105, 110, 111, 114]⟩, 1, 1, -1, rfl, by decide, fun W => by kernel_rfl⟩
  | 6, _ => ⟨⟨#[116, 111, 110, 101]⟩, -3, 2, 0, rfl, by decide, fun W => by kernel_rfl⟩
  | 7, _ => ⟨⟨#[115, 121, 110, 116, 111, 110, 105, 99]⟩, -4, 4, -1, rfl, by decide, fun W => by kernel_rfl⟩
  | 8, _ => ⟨⟨#[112, 121, 116, 104, 97, 103, 111, 114, 101, 97, 110]⟩, -19, 12, 0, rfl, by decide, fun W => by kernel_rfl⟩
  | 9, _ => ⟨⟨#[115, 99, 104, 105, 115, 109, 97]⟩, -15, 8, 1, rfl, by decide, fun W => by kernel_rfl⟩
  | 10, _ => ⟨⟨#[100, 105, 101, 115, 105, 115]⟩, 7, 0, -3, rfl, by decide, fun W => by kernel_rfl⟩
  | k + 11, h => by omega

/-- The first size with a name. -/
def nmF (s : ByteArray) : Option (ByteArray × Int × Int × Int) := NL.find? (fun r => decide (r.1.data.toList = s.data.toList))
def nmN (i : Nat) (s : ByteArray) : Int := match nmF s with | some (_, x, y, z) => szN (if i = 0 then x else if i = 1 then y else z) x y z 1 | none => 0
def nmD (i : Nat) (s : ByteArray) : Int := match nmF s with | some (_, x, y, z) => szD (if i = 0 then x else if i = 1 then y else z) x y z 1 | none => 0
def nmE (s : ByteArray) : Int := match nmF s with | some (_, x, y, z) => szE x y z 1 | none => 10
theorem nmV_some {s : ByteArray} {t : ByteArray} {x y z : Int} (h : nmF s = some (t, x, y, z)) : nmN 0 s = szN x x y z 1 ∧ nmD 0 s = szD x x y z 1 ∧ nmN 1 s = szN y x y z 1 ∧ nmD 1 s = szD y x y z 1 ∧ nmN 2 s = szN z x y z 1 ∧ nmD 2 s = szD z x y z 1 ∧ nmE s = szE x y z 1 := by
  unfold nmN nmD nmE
  rw [h]
  exact ⟨rfl, rfl, rfl, rfl, rfl, rfl, rfl⟩
theorem nmV_none {s : ByteArray} (h : nmF s = none) : nmN 0 s = 0 ∧ nmD 0 s = 0 ∧ nmN 1 s = 0 ∧ nmD 1 s = 0 ∧ nmN 2 s = 0 ∧ nmD 2 s = 0 ∧ nmE s = 10 := by
  unfold nmN nmD nmE
  rw [h]
  exact ⟨rfl, rfl, rfl, rfl, rfl, rfl, rfl⟩
set_option maxRecDepth 10000 in
set_option maxHeartbeats 4000000 in
theorem ivnamed_any (s : ByteArray) (w : World) (N : Nm w) :
    Calls Tryz.prog 24 #[.string s] w fun e w' => e = .returned (.tuple #[.agg #[.int .i64 (nmN 0 s), .int .i64 (nmD 0 s), .int .i64 (nmN 1 s), .int .i64 (nmD 1 s), .int .i64 (nmN 2 s), .int .i64 (nmD 2 s)], .int .i64 (nmE s)]) ∧ Below w.heap.size w w' := by
  obtain ⟨D, hD⟩ : ∃ D, w.heap.size = D := ⟨_, rfl⟩
  have VS := Lib.hid (fun t x y z h => nmV_some (s := s) (t := t) (x := x) (y := y) (z := z) h)
  have VN := Lib.hid (fun h => nmV_none (s := s) h)
  have hF0 : (NL.drop 0).find? (fun r => decide (r.1.data.toList = s.data.toList)) = nmF s := rfl
  generalize nmN 0 s = p0 at *
  generalize nmD 0 s = q0 at *
  generalize nmN 1 s = p1 at *
  generalize nmD 1 s = q1 at *
  generalize nmN 2 s = p2 at *
  generalize nmD 2 s = q2 at *
  generalize nmE s = re at *
  generalize nmF s = RF at *
  have HF0 := Lib.hid hF0
  obtain ⟨TN, fr, hN1⟩ := N.below ((Below.refl _ w).alloc (Nat.le_refl _) (.cells #[.int .i64 0, .int .i64 0, .int .i64 0, .int .i64 0, .int .i64 0, .int .i64 0] 25))
  clear hF0
  go_enter Tryz.func24, Tryz.ntmps24
  go_wp2_with (refine wpList_load_row rfl 91 _ rfl 0 rfl TN _ fr _ hN1 Tryz.underlying91 rfl (by kernel_rfl) ?_)
  obtain ⟨V, hV⟩ : ∃ V, (w.alloc (.cells #[.int .i64 0, .int .i64 0, .int .i64 0, .int .i64 0, .int .i64 0, .int .i64 0] 25)) = V := ⟨_, rfl⟩
  have hwV : Below D w V := by rw [← hV]; exact (Below.refl _ w).alloc (by omega) _
  have h0V : V.heap[D]? = some (.cells #[.int .i64 0, .int .i64 0, .int .i64 0, .int .i64 0, .int .i64 0, .int .i64 0] 25) := by rw [← hV]; exact heap_new hD.symm
  rw [hV]
  clear hV hN1
  go_loopw [7] (fun i wr => ∃ k : Nat, k ≤ 11 ∧ i = .int .i64 (k : Int) ∧ (NL.drop k).find? (fun r => decide (r.1.data.toList = s.data.toList)) = RF ∧ Below D w wr ∧ wr.heap[D]? = some (.cells #[.int .i64 0, .int .i64 0, .int .i64 0, .int .i64 0, .int .i64 0, .int .i64 0] 25)) (fun i _ => 11 - (intOf i).toNat)
  case atStart => exact ⟨0, by omega, rfl, HF0.out, hwV, h0V⟩
  case round =>
    obtain ⟨k, hk, rfl, hf, hw, h0⟩ := hrel
    clear hwV h0V HF0
    by_cases h11 : k < 11
    · have hki : (k : Int) < 11 := by omega
      obtain ⟨t, x, y, zz, hd, hbd, hix⟩ := nidx k h11
      rw [hd, List.find?_cons] at hf
      have hxk := hix wr
      obtain ⟨E, hE0⟩ : ∃ E, wr.heap.size = E := ⟨_, rfl⟩
      have hDn := (Array.getElem?_eq_some_iff.1 h0).1
      by_cases hts : t.data.toList = s.data.toList
      · have hb : (t.toList == s.toList) = true := by rw [Lib.toList_data, Lib.toList_data, beq_iff_eq]; exact hts
        simp only [hts, decide_true] at hf
        obtain ⟨e0, e1, e2, e3, e4, e5, e6⟩ := VS.out _ _ _ _ hf.symm
        have WH := Lib.hid (fun W => ivwhole_any x y zz W (by omega) (by omega) (by omega) (by omega) (by omega) (by omega))
        rw [← e0, ← e1, ← e2, ← e3, ← e4, ← e5, ← e6] at WH
        clear e0 e1 e2 e3 e4 e5 e6
        clear hf hd hbd
        go_wp2_with fail
        refine (WH.out _).mono ?_
        rintro e w1 ⟨rfl, hb1⟩
        have h1a := heap_old (o := .cells #[.string t, .int .i64 x, .int .i64 y, .int .i64 zz] 90) h0
        have hw1a := hw.alloc (by have := hw.size; omega) (.cells #[.string t, .int .i64 x, .int .i64 y, .int .i64 zz] 90)
        have h1 := (hb1.block D (Array.getElem?_eq_some_iff.1 h1a).1).trans h1a
        have hw1 := hw1a.trans (hb1.mono (by have := hw1a.size; omega))
        have r0 := cell6_0 h1
        have f0 := free6_0 h1
        have r1 := cell6_1 h1
        have f1 := free6_1 h1
        have r2 := cell6_2 h1
        have f2 := free6_2 h1
        have r3 := cell6_3 h1
        have f3 := free6_3 h1
        have r4 := cell6_4 h1
        have f4 := free6_4 h1
        have r5 := cell6_5 h1
        have f5 := free6_5 h1
        obtain ⟨U, hU⟩ : ∃ U, ((((((w1.setCell ⟨D, 0, none⟩ (.int .i64 p0)).setCell ⟨D, 1, none⟩ (.int .i64 q0)).setCell ⟨D, 2, none⟩ (.int .i64 p1)).setCell ⟨D, 3, none⟩ (.int .i64 q1)).setCell ⟨D, 4, none⟩ (.int .i64 p2)).setCell ⟨D, 5, none⟩ (.int .i64 q2)) = U := ⟨_, rfl⟩
        have HW := Lib.hid (show Below D w U by rw [← hU]; exact ((((((hw1.setCell (p := ⟨D, 0, none⟩) (show D ≤ D by omega) (.int .i64 p0)).setCell (p := ⟨D, 1, none⟩) (show D ≤ D by omega) (.int .i64 q0)).setCell (p := ⟨D, 2, none⟩) (show D ≤ D by omega) (.int .i64 p1)).setCell (p := ⟨D, 3, none⟩) (show D ≤ D by omega) (.int .i64 q1)).setCell (p := ⟨D, 4, none⟩) (show D ≤ D by omega) (.int .i64 p2)).setCell (p := ⟨D, 5, none⟩) (show D ≤ D by omega) (.int .i64 q2)))
        have hE : U.heap[D]? = some (.cells #[.int .i64 p0, .int .i64 q0, .int .i64 p1, .int .i64 q1, .int .i64 p2, .int .i64 q2] 25) := by rw [← hU]; exact (set6_5 (x := .int .i64 q2) (set6_4 (x := .int .i64 p2) (set6_3 (x := .int .i64 q1) (set6_2 (x := .int .i64 p1) (set6_1 (x := .int .i64 q0) (set6_0 (x := .int .i64 p0) h1))))))
        have HU := Lib.hid hU
        have z0 := cell6_0 hE
        have z1 := cell6_1 hE
        have z2 := cell6_2 hE
        have z3 := cell6_3 hE
        have z4 := cell6_4 hE
        have z5 := cell6_5 hE
        clear hE hU h1 h1a hw1 hw1a hb1 h0 hw hxk hix
        go_wp2
        rw [HU.out]
        refine bodyPost_ret (v := .tuple #[.agg #[.int .i64 p0, .int .i64 q0, .int .i64 p1, .int .i64 q1, .int .i64 p2, .int .i64 q2], .int .i64 re]) (by simp [results, Tryz.results24, go_sem, z0, z1, z2, z3, z4, z5]) rfl ⟨rfl, by first | exact HW.out | (rw [hD]; exact HW.out)⟩
      · have hb : (t.toList == s.toList) = false := by rw [Lib.toList_data, Lib.toList_data, beq_eq_false_iff_ne]; exact hts
        simp only [hts, decide_false] at hf
        have HF := Lib.hid hf
        have HW := Lib.hid (hw.alloc (by have := hw.size; omega) (.cells #[.string t, .int .i64 x, .int .i64 y, .int .i64 zz] 90))
        have H0 := Lib.hid (heap_old (o := .cells #[.string t, .int .i64 x, .int .i64 y, .int .i64 zz] 90) h0)
        clear hf hd h0 hw
        go_wp2
        exact ⟨⟨k + 1, by omega, by go_num, HF.out, HW.out, H0.out⟩, by simp [intOf]; omega⟩
    · have hki : ¬ ((k : Int) < 11) := by omega
      have hk11 : k = 11 := by omega
      have hf0 : RF = none := by rw [← hf, hk11]; rfl
      obtain ⟨e0, e1, e2, e3, e4, e5, e6⟩ := VN.out hf0
      subst e0 e1 e2 e3 e4 e5 e6
      clear hf hf0
      have hw1 := hw
      have r0 := cell6_0 h0
      have f0 := free6_0 h0
      have r1 := cell6_1 h0
      have f1 := free6_1 h0
      have r2 := cell6_2 h0
      have f2 := free6_2 h0
      have r3 := cell6_3 h0
      have f3 := free6_3 h0
      have r4 := cell6_4 h0
      have f4 := free6_4 h0
      have r5 := cell6_5 h0
      have f5 := free6_5 h0
      obtain ⟨U, hU⟩ : ∃ U, ((((((wr.setCell ⟨D, 0, none⟩ (.int .i64 0)).setCell ⟨D, 1, none⟩ (.int .i64 0)).setCell ⟨D, 2, none⟩ (.int .i64 0)).setCell ⟨D, 3, none⟩ (.int .i64 0)).setCell ⟨D, 4, none⟩ (.int .i64 0)).setCell ⟨D, 5, none⟩ (.int .i64 0)) = U := ⟨_, rfl⟩
      have HW := Lib.hid (show Below D w U by rw [← hU]; exact ((((((hw1.setCell (p := ⟨D, 0, none⟩) (show D ≤ D by omega) (.int .i64 0)).setCell (p := ⟨D, 1, none⟩) (show D ≤ D by omega) (.int .i64 0)).setCell (p := ⟨D, 2, none⟩) (show D ≤ D by omega) (.int .i64 0)).setCell (p := ⟨D, 3, none⟩) (show D ≤ D by omega) (.int .i64 0)).setCell (p := ⟨D, 4, none⟩) (show D ≤ D by omega) (.int .i64 0)).setCell (p := ⟨D, 5, none⟩) (show D ≤ D by omega) (.int .i64 0)))
      have hE : U.heap[D]? = some (.cells #[.int .i64 0, .int .i64 0, .int .i64 0, .int .i64 0, .int .i64 0, .int .i64 0] 25) := by rw [← hU]; exact (set6_5 (x := .int .i64 0) (set6_4 (x := .int .i64 0) (set6_3 (x := .int .i64 0) (set6_2 (x := .int .i64 0) (set6_1 (x := .int .i64 0) (set6_0 (x := .int .i64 0) h0))))))
      have HU := Lib.hid hU
      have z0 := cell6_0 hE
      have z1 := cell6_1 hE
      have z2 := cell6_2 hE
      have z3 := cell6_3 hE
      have z4 := cell6_4 hE
      have z5 := cell6_5 hE
      clear hE hU h0 hw hw1
      go_wp2
      rw [HU.out]
      refine bodyPost_ret (v := .tuple #[.agg #[.int .i64 0, .int .i64 0, .int .i64 0, .int .i64 0, .int .i64 0, .int .i64 0], .int .i64 10]) (by simp [results, Tryz.results24, go_sem, z0, z1, z2, z3, z4, z5]) rfl ⟨rfl, by first | exact HW.out | (rw [hD]; exact HW.out)⟩
end Go.Proofs.YthdoadkdofgenaaGreatDoor
/- Contract of the law's known: the examples of the chapter. -/
namespace Go.Proofs.YthdoadkdofgenaaGreatDoor
open Go Go.RowKit Go.Shelf

theorem kn_ratio (W : World) : Calls Tryz.prog 27 #[.int .i64 81, .int .i64 80] W fun e w' => e = .returned (.tuple #[.agg #[.int .i64 (-4), .int .i64 1, .int .i64 4, .int .i64 1, .int .i64 (-1), .int .i64 1], .int .i64 0]) ∧ Below W.heap.size W w' := by
  have h := ivratio_any 81 80 W (by decide) (by decide) (by decide) (by decide)
  rw [show raN (Iv.e2 81 80) 81 80 = -4 by kernel_rfl, show raD (Iv.e2 81 80) 81 80 = 1 by kernel_rfl, show raN (Iv.e3 81 80) 81 80 = 4 by kernel_rfl, show raD (Iv.e3 81 80) 81 80 = 1 by kernel_rfl, show raN (Iv.e5 81 80) 81 80 = -1 by kernel_rfl, show raD (Iv.e5 81 80) 81 80 = 1 by kernel_rfl, show raE 81 80 = 0 by kernel_rfl] at h
  exact h
theorem kn_of (W : World) : Calls Tryz.prog 15 #[.int .i64 (-4), .int .i64 4, .int .i64 (-1)] W fun e w' => e = .returned (.tuple #[.agg #[.int .i64 (-4), .int .i64 1, .int .i64 4, .int .i64 1, .int .i64 (-1), .int .i64 1], .int .i64 0]) ∧ Below W.heap.size W w' := by
  have h := ivof_any (-4) 4 (-1) W (by decide) (by decide) (by decide) (by decide) (by decide) (by decide)
  rw [show szN (-4) (-4) 4 (-1) 1 = -4 by kernel_rfl, show szD (-4) (-4) 4 (-1) 1 = 1 by kernel_rfl, show szN 4 (-4) 4 (-1) 1 = 4 by kernel_rfl, show szD 4 (-4) 4 (-1) 1 = 1 by kernel_rfl, show szN (-1) (-4) 4 (-1) 1 = -1 by kernel_rfl, show szD (-1) (-4) 4 (-1) 1 = 1 by kernel_rfl, show szE (-4) 4 (-1) 1 = 0 by kernel_rfl] at h
  exact h
theorem kn_named (W : World) (N : Nm W) : Calls Tryz.prog 24 #[.string ⟨#[102, 105, 102, 116, 104]⟩] W fun e w' => e = .returned (.tuple #[.agg #[.int .i64 (-1), .int .i64 1, .int .i64 1, .int .i64 1, .int .i64 0, .int .i64 1], .int .i64 0]) ∧ Below W.heap.size W w' := by
  have h := ivnamed_any ⟨#[102, 105, 102, 116, 104]⟩ W N
  rw [show nmN 0 ⟨#[102, 105, 102, 116, 104]⟩ = -1 by kernel_rfl, show nmD 0 ⟨#[102, 105, 102, 116, 104]⟩ = 1 by kernel_rfl, show nmN 1 ⟨#[102, 105, 102, 116, 104]⟩ = 1 by kernel_rfl, show nmD 1 ⟨#[102, 105, 102, 116, 104]⟩ = 1 by kernel_rfl, show nmN 2 ⟨#[102, 105, 102, 116, 104]⟩ = 0 by kernel_rfl, show nmD 2 ⟨#[102, 105, 102, 116, 104]⟩ = 1 by kernel_rfl, show nmE ⟨#[102, 105, 102, 116, 104]⟩ = 0 by kernel_rfl] at h
  exact h
theorem kn_cents (W : World) (G : Gi W) : Calls Tryz.prog 22 #[.agg #[.int .i64 (-1), .int .i64 1, .int .i64 1, .int .i64 1, .int .i64 0, .int .i64 1]] W fun e w' => e = .returned (.tuple #[.int .i64 70196, .int .i64 0]) ∧ Below W.heap.size W w' := by
  have h := ivcents_ok (-1) 1 1 1 0 1 1 W G (by kernel_rfl) (by kernel_rfl) (by decide) (by decide)
  rw [show Iv.cn (Iv.lg (rdA (-1) 1 1 1 0 1) (rdB (-1) 1 1 1 0 1) (rdC (-1) 1 1 1 0 1)) 1 = 70196 by kernel_rfl] at h
  exact h
theorem kn_compare (W : World) (G : Gi W) : Calls Tryz.prog 20 #[.agg #[.int .i64 (-1), .int .i64 1, .int .i64 1, .int .i64 1, .int .i64 0, .int .i64 1], .agg #[.int .i64 (-4), .int .i64 1, .int .i64 4, .int .i64 1, .int .i64 (-1), .int .i64 1]] W fun e w' => e = .returned (.tuple #[.int .i64 1, .int .i64 0]) ∧ Below W.heap.size W w' := by
  have h := ivcompare_ok (-1) 1 1 1 0 1 (-4) 1 4 1 (-1) 1 1 1 W G (by kernel_rfl) (by kernel_rfl) (by kernel_rfl) (by decide) (by decide) (by kernel_rfl) (by decide) (by decide)
  rw [show sgn (Iv.lg (Iv.cb (rdA (-1) 1 1 1 0 1) (rdA (-4) 1 4 1 (-1) 1) 1 1 (-1)) (Iv.cb (rdB (-1) 1 1 1 0 1) (rdB (-4) 1 4 1 (-1) 1) 1 1 (-1)) (Iv.cb (rdC (-1) 1 1 1 0 1) (rdC (-4) 1 4 1 (-1) 1) 1 1 (-1))) = 1 by kernel_rfl] at h
  exact h
set_option maxRecDepth 10000 in
set_option maxHeartbeats 4000000 in
theorem lknown_any (w : World) (G : Gi w) (N : Nm w) : Calls Tryz.prog 12 #[] w fun e w' => e = .returned (.bool true) ∧ Below w.heap.size w w' := by
  have he : ∀ W : World, (binOp .eql 25 (.agg #[.int .i64 (-4), .int .i64 1, .int .i64 4, .int .i64 1, .int .i64 (-1), .int .i64 1]) (.agg #[.int .i64 (-4), .int .i64 1, .int .i64 4, .int .i64 1, .int .i64 (-1), .int .i64 1])).run Tryz.prog W = .ok (.bool true) W := fun _ => by kernel_rfl
  obtain ⟨D, hD⟩ : ∃ D, w.heap.size = D := ⟨_, rfl⟩
  go_enter Tryz.func12, Tryz.ntmps12
  go_wp2_with fail
  refine (kn_ratio _).mono ?_
  rintro e v1 ⟨rfl, hb_v1⟩
  have hw_v1 : Below D w v1 := ((Below.refl _ w)).trans (hb_v1.mono (by first | omega | (simp; omega)))
  clear hb_v1
  obtain ⟨EA, hEA⟩ : ∃ E, v1.heap.size = E := ⟨_, rfl⟩
  go_wp2_with fail
  refine (kn_of _).mono ?_
  rintro e v2 ⟨rfl, hb_v2⟩
  have hs_v2 := hw_v1.size
  have cA_v2 : v2.heap[EA]? = some (.cells #[.int .i64 (-4), .int .i64 1, .int .i64 4, .int .i64 1, .int .i64 (-1), .int .i64 1] 25) := (hb_v2.block EA (Array.getElem?_eq_some_iff.1 (show (v1.alloc (.cells #[.int .i64 (-4), .int .i64 1, .int .i64 4, .int .i64 1, .int .i64 (-1), .int .i64 1] 25)).heap[EA]? = some (.cells #[.int .i64 (-4), .int .i64 1, .int .i64 4, .int .i64 1, .int .i64 (-1), .int .i64 1] 25) from (heap_new (by first | omega | (simp; omega))))).1).trans (heap_new (by first | omega | (simp; omega)))
  have hw_v2 : Below D w v2 := ((hw_v1.alloc (by have := hw_v1.size; first | omega | (simp; omega)) (.cells #[.int .i64 (-4), .int .i64 1, .int .i64 4, .int .i64 1, .int .i64 (-1), .int .i64 1] 25))).trans (hb_v2.mono (by first | omega | (simp; omega)))
  clear hb_v2 hw_v1 hs_v2
  obtain ⟨EB, hEB⟩ : ∃ E, v2.heap.size = E := ⟨_, rfl⟩
  have N1 : Nm (v2.alloc (.cells #[.int .i64 (-4), .int .i64 1, .int .i64 4, .int .i64 1, .int .i64 (-1), .int .i64 1] 25)) := N.below (by rw [hD]; exact (hw_v2.alloc (by have := hw_v2.size; first | omega | (simp; omega)) (.cells #[.int .i64 (-4), .int .i64 1, .int .i64 4, .int .i64 1, .int .i64 (-1), .int .i64 1] 25)))
  go_wp2_with fail
  refine (kn_named _ N1).mono ?_
  rintro e v3 ⟨rfl, hb_v3⟩
  have hs_v3 := hw_v2.size
  have cA_v3 : v3.heap[EA]? = some (.cells #[.int .i64 (-4), .int .i64 1, .int .i64 4, .int .i64 1, .int .i64 (-1), .int .i64 1] 25) := (hb_v3.block EA (Array.getElem?_eq_some_iff.1 (show (v2.alloc (.cells #[.int .i64 (-4), .int .i64 1, .int .i64 4, .int .i64 1, .int .i64 (-1), .int .i64 1] 25)).heap[EA]? = some (.cells #[.int .i64 (-4), .int .i64 1, .int .i64 4, .int .i64 1, .int .i64 (-1), .int .i64 1] 25) from (heap_old (o := .cells #[.int .i64 (-4), .int .i64 1, .int .i64 4, .int .i64 1, .int .i64 (-1), .int .i64 1] 25) cA_v2))).1).trans (heap_old (o := .cells #[.int .i64 (-4), .int .i64 1, .int .i64 4, .int .i64 1, .int .i64 (-1), .int .i64 1] 25) cA_v2)
  have cB_v3 : v3.heap[EB]? = some (.cells #[.int .i64 (-4), .int .i64 1, .int .i64 4, .int .i64 1, .int .i64 (-1), .int .i64 1] 25) := (hb_v3.block EB (Array.getElem?_eq_some_iff.1 (show (v2.alloc (.cells #[.int .i64 (-4), .int .i64 1, .int .i64 4, .int .i64 1, .int .i64 (-1), .int .i64 1] 25)).heap[EB]? = some (.cells #[.int .i64 (-4), .int .i64 1, .int .i64 4, .int .i64 1, .int .i64 (-1), .int .i64 1] 25) from (heap_new (by first | omega | (simp; omega))))).1).trans (heap_new (by first | omega | (simp; omega)))
  have hw_v3 : Below D w v3 := ((hw_v2.alloc (by have := hw_v2.size; first | omega | (simp; omega)) (.cells #[.int .i64 (-4), .int .i64 1, .int .i64 4, .int .i64 1, .int .i64 (-1), .int .i64 1] 25))).trans (hb_v3.mono (by first | omega | (simp; omega)))
  clear cA_v2 hb_v3 hw_v2 hs_v3
  obtain ⟨EF, hEF⟩ : ∃ E, v3.heap.size = E := ⟨_, rfl⟩
  have G1 : Gi (v3.alloc (.cells #[.int .i64 (-1), .int .i64 1, .int .i64 1, .int .i64 1, .int .i64 0, .int .i64 1] 25)) := G.below (by rw [hD]; exact (hw_v3.alloc (by have := hw_v3.size; first | omega | (simp; omega)) (.cells #[.int .i64 (-1), .int .i64 1, .int .i64 1, .int .i64 1, .int .i64 0, .int .i64 1] 25)))
  have ld4 : (v3.alloc (.cells #[.int .i64 (-1), .int .i64 1, .int .i64 1, .int .i64 1, .int .i64 0, .int .i64 1] 25)).heap[EF]? = some (.cells #[.int .i64 (-1), .int .i64 1, .int .i64 1, .int .i64 1, .int .i64 0, .int .i64 1] 25) := (heap_new (by first | omega | (simp; omega)))
  have y4_0 := cell6_0 ld4
  have y4_1 := cell6_1 ld4
  have y4_2 := cell6_2 ld4
  have y4_3 := cell6_3 ld4
  have y4_4 := cell6_4 ld4
  have y4_5 := cell6_5 ld4
  clear ld4
  go_wp2_with fail
  refine (kn_cents _ G1).mono ?_
  rintro e v5 ⟨rfl, hb_v5⟩
  have hs_v5 := hw_v3.size
  have cA_v5 : v5.heap[EA]? = some (.cells #[.int .i64 (-4), .int .i64 1, .int .i64 4, .int .i64 1, .int .i64 (-1), .int .i64 1] 25) := (hb_v5.block EA (Array.getElem?_eq_some_iff.1 (show (v3.alloc (.cells #[.int .i64 (-1), .int .i64 1, .int .i64 1, .int .i64 1, .int .i64 0, .int .i64 1] 25)).heap[EA]? = some (.cells #[.int .i64 (-4), .int .i64 1, .int .i64 4, .int .i64 1, .int .i64 (-1), .int .i64 1] 25) from (heap_old (o := .cells #[.int .i64 (-1), .int .i64 1, .int .i64 1, .int .i64 1, .int .i64 0, .int .i64 1] 25) cA_v3))).1).trans (heap_old (o := .cells #[.int .i64 (-1), .int .i64 1, .int .i64 1, .int .i64 1, .int .i64 0, .int .i64 1] 25) cA_v3)
  have cB_v5 : v5.heap[EB]? = some (.cells #[.int .i64 (-4), .int .i64 1, .int .i64 4, .int .i64 1, .int .i64 (-1), .int .i64 1] 25) := (hb_v5.block EB (Array.getElem?_eq_some_iff.1 (show (v3.alloc (.cells #[.int .i64 (-1), .int .i64 1, .int .i64 1, .int .i64 1, .int .i64 0, .int .i64 1] 25)).heap[EB]? = some (.cells #[.int .i64 (-4), .int .i64 1, .int .i64 4, .int .i64 1, .int .i64 (-1), .int .i64 1] 25) from (heap_old (o := .cells #[.int .i64 (-1), .int .i64 1, .int .i64 1, .int .i64 1, .int .i64 0, .int .i64 1] 25) cB_v3))).1).trans (heap_old (o := .cells #[.int .i64 (-1), .int .i64 1, .int .i64 1, .int .i64 1, .int .i64 0, .int .i64 1] 25) cB_v3)
  have cF_v5 : v5.heap[EF]? = some (.cells #[.int .i64 (-1), .int .i64 1, .int .i64 1, .int .i64 1, .int .i64 0, .int .i64 1] 25) := (hb_v5.block EF (Array.getElem?_eq_some_iff.1 (show (v3.alloc (.cells #[.int .i64 (-1), .int .i64 1, .int .i64 1, .int .i64 1, .int .i64 0, .int .i64 1] 25)).heap[EF]? = some (.cells #[.int .i64 (-1), .int .i64 1, .int .i64 1, .int .i64 1, .int .i64 0, .int .i64 1] 25) from (heap_new (by first | omega | (simp; omega))))).1).trans (heap_new (by first | omega | (simp; omega)))
  have hw_v5 : Below D w v5 := ((hw_v3.alloc (by have := hw_v3.size; first | omega | (simp; omega)) (.cells #[.int .i64 (-1), .int .i64 1, .int .i64 1, .int .i64 1, .int .i64 0, .int .i64 1] 25))).trans (hb_v5.mono (by first | omega | (simp; omega)))
  clear cA_v3 cB_v3 hb_v5 y4_0 y4_1 y4_2 y4_3 y4_4 y4_5 hw_v3 hs_v5
  have G2 : Gi v5 := G.below (by rw [hD]; exact hw_v5)
  have ld6 : v5.heap[EF]? = some (.cells #[.int .i64 (-1), .int .i64 1, .int .i64 1, .int .i64 1, .int .i64 0, .int .i64 1] 25) := cF_v5
  have y6_0 := cell6_0 ld6
  have y6_1 := cell6_1 ld6
  have y6_2 := cell6_2 ld6
  have y6_3 := cell6_3 ld6
  have y6_4 := cell6_4 ld6
  have y6_5 := cell6_5 ld6
  clear ld6
  have ld7 : v5.heap[EA]? = some (.cells #[.int .i64 (-4), .int .i64 1, .int .i64 4, .int .i64 1, .int .i64 (-1), .int .i64 1] 25) := cA_v5
  have y7_0 := cell6_0 ld7
  have y7_1 := cell6_1 ld7
  have y7_2 := cell6_2 ld7
  have y7_3 := cell6_3 ld7
  have y7_4 := cell6_4 ld7
  have y7_5 := cell6_5 ld7
  clear ld7
  go_wp2_with fail
  refine (kn_compare _ G2).mono ?_
  rintro e v8 ⟨rfl, hb_v8⟩
  have hs_v8 := hw_v5.size
  have cA_v8 : v8.heap[EA]? = some (.cells #[.int .i64 (-4), .int .i64 1, .int .i64 4, .int .i64 1, .int .i64 (-1), .int .i64 1] 25) := (hb_v8.block EA (Array.getElem?_eq_some_iff.1 (show v5.heap[EA]? = some (.cells #[.int .i64 (-4), .int .i64 1, .int .i64 4, .int .i64 1, .int .i64 (-1), .int .i64 1] 25) from cA_v5)).1).trans cA_v5
  have cB_v8 : v8.heap[EB]? = some (.cells #[.int .i64 (-4), .int .i64 1, .int .i64 4, .int .i64 1, .int .i64 (-1), .int .i64 1] 25) := (hb_v8.block EB (Array.getElem?_eq_some_iff.1 (show v5.heap[EB]? = some (.cells #[.int .i64 (-4), .int .i64 1, .int .i64 4, .int .i64 1, .int .i64 (-1), .int .i64 1] 25) from cB_v5)).1).trans cB_v5
  have cF_v8 : v8.heap[EF]? = some (.cells #[.int .i64 (-1), .int .i64 1, .int .i64 1, .int .i64 1, .int .i64 0, .int .i64 1] 25) := (hb_v8.block EF (Array.getElem?_eq_some_iff.1 (show v5.heap[EF]? = some (.cells #[.int .i64 (-1), .int .i64 1, .int .i64 1, .int .i64 1, .int .i64 0, .int .i64 1] 25) from cF_v5)).1).trans cF_v5
  have hw_v8 : Below D w v8 := (hw_v5).trans (hb_v8.mono (by first | omega | (simp; omega)))
  clear cA_v5 cB_v5 cF_v5 hb_v8 y6_0 y6_1 y6_2 y6_3 y6_4 y6_5 y7_0 y7_1 y7_2 y7_3 y7_4 y7_5 hw_v5 hs_v8
  have HW := Lib.hid hw_v8
  have ld9 : v8.heap[EA]? = some (.cells #[.int .i64 (-4), .int .i64 1, .int .i64 4, .int .i64 1, .int .i64 (-1), .int .i64 1] 25) := cA_v8
  have y9_0 := cell6_0 ld9
  have y9_1 := cell6_1 ld9
  have y9_2 := cell6_2 ld9
  have y9_3 := cell6_3 ld9
  have y9_4 := cell6_4 ld9
  have y9_5 := cell6_5 ld9
  clear ld9
  have ld10 : v8.heap[EB]? = some (.cells #[.int .i64 (-4), .int .i64 1, .int .i64 4, .int .i64 1, .int .i64 (-1), .int .i64 1] 25) := cB_v8
  have y10_0 := cell6_0 ld10
  have y10_1 := cell6_1 ld10
  have y10_2 := cell6_2 ld10
  have y10_3 := cell6_3 ld10
  have y10_4 := cell6_4 ld10
  have y10_5 := cell6_5 ld10
  clear ld10
  go_wp2
  go_ret
  exact ⟨rfl, by first | exact HW.out | (rw [hD]; exact HW.out)⟩
end Go.Proofs.YthdoadkdofgenaaGreatDoor
