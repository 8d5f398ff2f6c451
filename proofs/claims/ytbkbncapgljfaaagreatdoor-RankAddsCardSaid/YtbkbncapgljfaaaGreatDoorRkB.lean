/- Contracts of pitch's octaves and shift. -/
import Derived.Test.YtbkbncapgljfaaaGreatDoorPtC
import Derived.Test.YtbkbncapgljfaaaGreatDoorRows
import Derived.Lib.LaidTab
import Derived.LaidLaws
import Derived.LaidMore
import Derived.OpenShut
import Derived.Stop.LaidErr
import Derived.Shelf.Vars
import Derived.Stop.Joined
import Derived.Handed
import Derived.Lib.SmallJoins
import Derived.ChangeSlices
import Derived.Carry
import Derived.ProofKit
namespace Go.Proofs.YtbkbncapgljfaaaGreatDoor
open Go Go.RowKit Go.Shelf

set_option maxRecDepth 100000 in
set_option maxHeartbeats 4000000 in
theorem octaves_c (n d i j : Nat) (hn : 0 < n) (hd : 0 < d) (hn2 : n ≤ 2097152) (hd2 : d ≤ 2097152) (ho : Pt.Oct n d i j) (w : World) :
    Calls Tryz.prog 50 #[.agg #[.int .i64 n, .int .i64 d]] w fun e w' => e = .returned (.tuple #[.int .i64 ((j : Int) - i), .agg #[.int .i64 ((n * 2 ^ i : Nat) : Int), .int .i64 ((d * 2 ^ j : Nat) : Int)]]) ∧ Below w.heap.size w w' := by
  obtain ⟨bi, bj⟩ := Pt.oct_le ho hn hd hn2 hd2
  obtain ⟨ba, bb⟩ := Pt.oct_bd ho hn2 hd2
  have NL := Lib.hid (fun t (h : t < i) => Pt.oct_num_lt ho h)
  have DL := Lib.hid (fun t (h : t < j) => Pt.oct_den_le ho h)
  have NX := Lib.hid (Nat.le_trans (Pt.le_pow d j) ho.2.1)
  have DX := Lib.hid ho.2.2
  have OZ := Lib.hid ho.1
  have NI := Lib.hid (Nat.pow_zero 2)
  obtain ⟨A, hA⟩ : ∃ f : Nat → Nat, ∀ t, n * 2 ^ t = f t := ⟨_, fun _ => rfl⟩
  obtain ⟨B, hB⟩ : ∃ f : Nat → Nat, ∀ t, d * 2 ^ t = f t := ⟨_, fun _ => rfl⟩
  have A0 := Lib.hid (show A 0 = n by rw [← hA, Nat.pow_zero, Nat.mul_one])
  have B0 := Lib.hid (show B 0 = d by rw [← hB, Nat.pow_zero, Nat.mul_one])
  have AS := Lib.hid (fun t => show A (t + 1) = A t * 2 by rw [← hA, ← hA, Nat.pow_succ, Nat.mul_assoc])
  have BS := Lib.hid (fun t => show B (t + 1) = B t * 2 by rw [← hB, ← hB, Nat.pow_succ, Nat.mul_assoc])
  simp only [hA, hB] at NL DL NX DX ba bb ⊢
  have DL2 := Lib.hid (fun t (h : t < j) => show 2 * B t ≤ A i by
    have h1 := DL.out t h
    have : i = 0 := by have := OZ.out; omega
    rw [this, A0.out]; exact h1)
  clear hA hB ho DL
  obtain ⟨D, hD⟩ : ∃ D, w.heap.size = D := ⟨_, rfl⟩
  obtain ⟨W0, hW0⟩ : ∃ W0, (w.alloc (.cells #[.int .i64 n, .int .i64 d] 69)).alloc (.cells #[.int .i64 0, .int .i64 0] 69) = W0 := ⟨_, rfl⟩
  have hb0 : Below D w W0 := by rw [← hW0]; exact ((Below.refl _ w).alloc (by omega) _).alloc (by simp; omega) _
  have p0 : W0.heap[D]? = some (.cells #[.int .i64 n, .int .i64 d] 69) := by rw [← hW0]; exact heap_old (heap_new hD.symm)
  have p1 : W0.heap[D + 1]? = some (.cells #[.int .i64 0, .int .i64 0] 69) := by rw [← hW0]; exact heap_new (by simp [hD])
  have c0 := cell2_0 p0
  have c1 := cell2_1 p0
  have k0 := cell2_0 p1
  have k1 := cell2_1 p1
  have g0 := free2_0 p1
  have g1 := free2_1 p1
  have hp := set2_1 (x := .int .i64 d) (set2_0 (x := .int .i64 n) p1)
  have hw1 : Below D w ((W0.setCell ⟨D + 1, 0, none⟩ (.int .i64 n)).setCell ⟨D + 1, 1, none⟩ (.int .i64 d)) := (hb0.setCell (by simp) _).setCell (by simp) _
  have HP := Lib.hid hp
  have HW := Lib.hid hw1
  clear p0 p1 hp hw1 hb0
  go_enter Tryz.func50, Tryz.ntmps50
  go_upto_region 1 with fail
  try rw [hW0]
  go_wp2_with fail
  go_loopw [2] (fun c wr => ∃ t : Nat, t ≤ i ∧ c = .int .i64 (-(t : Int)) ∧ Below D w wr ∧ wr.heap[D + 1]? = some (.cells #[.int .i64 (A t : Int), .int .i64 d] 69)) (fun c _ => (i + intOf c).toNat)
  case atStart => exact ⟨0, Nat.zero_le _, rfl, HW.out, by rw [A0.out]; exact HP.out⟩
  case round =>
    obtain ⟨t, ht, rfl, hw, hc⟩ := hrel
    clear HW HP c0 c1 g0 g1 k0 k1
    have r0 := cell2_0 hc
    have r1 := cell2_1 hc
    have f0 := free2_0 hc
    have f1 := free2_1 hc
    by_cases hlt : t < i
    · have h1 := NL.out t hlt
      have hnx := set2_0 (x := .int .i64 (A (t + 1) : Int)) hc
      have hbx := hw.setCell (p := ⟨D + 1, 0, none⟩) (by simp) (.int .i64 (A (t + 1) : Int))
      have wk := wrap_in (q := (A t : Int) * 2) (by omega) (by omega)
      have wj := wrap_in (q := -(t : Int) - 1) (by omega) (by omega)
      have e1 : ((A (t + 1) : Nat) : Int) = (A t : Int) * 2 := by rw [AS.out]; omega
      rw [e1] at hnx hbx
      have HN := Lib.hid hnx
      have HB := Lib.hid hbx
      have E1 := Lib.hid e1
      clear hnx hbx e1 hc hw
      have hlt2 : (A t : Int) < (d : Int) := by omega
      go_wp2_with fail
      go_roundw
      case rel => exact ⟨t + 1, hlt, by rw [show (-(t : Int) - 1) = -((t + 1 : Nat) : Int) by omega], HB.out, by rw [E1.out]; exact HN.out⟩
      case measure => simp [intOf]; omega
    · obtain rfl : t = i := by omega
      have h1 : ¬ (A t : Int) < (d : Int) := by have := NX.out; omega
      obtain ⟨wo, hwo⟩ : ∃ wo, wo = wr := ⟨_, rfl⟩
      subst hwo
      have HWo := Lib.hid hw
      have HCo := Lib.hid hc
      clear hw hc
      go_wp2_with fail
      go_loopw [2] (fun c wr => ∃ s : Nat, s ≤ j ∧ c = .int .i64 ((s : Int) - t) ∧ Below D w wr ∧ wr.heap[D + 1]? = some (.cells #[.int .i64 (A t : Int), .int .i64 (B s : Int)] 69)) (fun c _ => ((j : Int) - t - intOf c).toNat)
      case atStart => exact ⟨0, Nat.zero_le _, by rw [show ((0 : Nat) : Int) - t = -(t : Int) by omega], HWo.out, by rw [B0.out]; exact HCo.out⟩
      case round =>
        obtain ⟨s, hs, rfl, hw, hc⟩ := hrel
        clear HWo HCo r0 r1 f0 f1 h1 hlt
        have r0 := cell2_0 hc
        have r1 := cell2_1 hc
        have f0 := free2_0 hc
        have f1 := free2_1 hc
        by_cases hlt : s < j
        · have h1 := DL2.out s hlt
          have hnx := set2_1 (x := .int .i64 (B (s + 1) : Int)) hc
          have hbx := hw.setCell (p := ⟨D + 1, 1, none⟩) (by simp) (.int .i64 (B (s + 1) : Int))
          have wk := wrap_in (q := (B s : Int) * 2) (by omega) (by omega)
          have wk2 := wrap_in (q := 2 * (B s : Int)) (by omega) (by omega)
          have wj := wrap_in (q := (s : Int) - t + 1) (by omega) (by omega)
          have e1 : ((B (s + 1) : Nat) : Int) = (B s : Int) * 2 := by rw [BS.out]; omega
          rw [e1] at hnx hbx
          have HN := Lib.hid hnx
          have HB := Lib.hid hbx
          have E1 := Lib.hid e1
          clear hnx hbx e1 hc hw
          have hlt2 : 2 * (B s : Int) ≤ (A t : Int) := by omega
          go_wp2_with fail
          go_roundw
          case rel => exact ⟨s + 1, hlt, by rw [show (s : Int) - t + 1 = ((s + 1 : Nat) : Int) - t by omega], HB.out, by rw [E1.out]; exact HN.out⟩
          case measure => simp [intOf]; omega
        · obtain rfl : s = j := by omega
          have wk2 := wrap_in (q := 2 * (B s : Int)) (by omega) (by omega)
          have h1 : ¬ 2 * (B s : Int) ≤ (A t : Int) := by have := DX.out; omega
          have hE := set2_1 (x := .int .i64 (B s : Int)) (set2_0 (x := .int .i64 (A t : Int)) hc)
          have z0 := cell2_0 hE
          have z1 := cell2_1 hE
          have HBx := Lib.hid ((hw.setCell (p := ⟨D + 1, 0, none⟩) (by simp) (.int .i64 (A t : Int))).setCell (p := ⟨D + 1, 1, none⟩) (by simp) (.int .i64 (B s : Int)))
          have HBd := Lib.hid (show Below w.heap.size w (((wr.setCell ⟨D + 1, 0, none⟩ (.int .i64 (A t : Int))).setCell ⟨D + 1, 1, none⟩ (.int .i64 (B s : Int))).drew) by rw [hD]; exact HBx.out.trans ⟨rfl, rfl, rfl, Nat.le_refl _, fun _ _ => rfl⟩)
          clear hE hc hw
          go_wp2_with fail
          go_region
          all_goals go_wp2
          all_goals exact bodyPost_ret (v := .tuple #[.int .i64 ((s : Int) - t), .agg #[.int .i64 (A t : Int), .int .i64 (B s : Int)]]) (by simp [results, Tryz.results50, go_sem, z0, z1]) rfl ⟨rfl, HBd.out⟩


/-- The rest's cells, while shift calculates. -/
structure ShR (w : World) (E : Nat) (a b : Nat) (A : World) : Prop where
  bel : Below w.heap.size w A
  pl : A.heap[E]? = some (.cells #[.int .i64 a, .int .i64 b] 69)
theorem ShR.up {w : World} {E a b : Nat} {A B : World} (h : ShR w E a b A) (hb : Below A.heap.size A B) : ShR w E a b B :=
  ⟨h.bel.trans (hb.mono h.bel.size), (hb.block E (Array.getElem?_eq_some_iff.1 h.pl).1).trans h.pl⟩

def shI (E a b k : Nat) (W0 : Int) (x y : ByteArray) : Nat → Value → World → Prop
  | 0, v, _ => v = .int .i64 W0
  | 1, v, _ => v = .int .i64 (12 * W0)
  | 2, v, _ => v = .pointer (some ⟨E, 0, none⟩)
  | 3, v, _ => v = .int .i64 (a : Int)
  | 4, v, _ => v = .string x
  | 5, v, _ => v = .pointer (some ⟨E, 1, none⟩)
  | 6, v, _ => v = .int .i64 (b : Int)
  | 7, v, _ => v = .string y
  | 8, v, _ => v = .int .i64 (k : Int)
  | 9, v, _ => v = .int .i64 (12 * W0 + (k : Int))
  | 10, v, _ => v = .int .i64 (12 * W0 + (k : Int))
  | _, _, _ => True

theorem shI_up (E a b k : Nat) (W0 : Int) (x y : ByteArray) : ∀ (j : Nat) (v : Value) (A B : World), Below A.heap.size A B → shI E a b k W0 x y j v A → shI E a b k W0 x y j v B
  | 0, _, _, _, _, h => h
  | 1, _, _, _, _, h => h
  | 2, _, _, _, _, h => h
  | 3, _, _, _, _, h => h
  | 4, _, _, _, _, h => h
  | 5, _, _, _, _, h => h
  | 6, _, _, _, _, h => h
  | 7, _, _, _, _, h => h
  | 8, _, _, _, _, h => h
  | 9, _, _, _, _, h => h
  | 10, _, _, _, _, h => h
  | _ + 11, _, _, _, _, _ => trivial


set_option maxRecDepth 100000 in
set_option maxHeartbeats 4000000 in
theorem shift_c (n d : Nat) (s : Int) (hn : 0 < n) (hd : 0 < d) (hn2 : n ≤ 2097152) (hd2 : d ≤ 2097152) (hs : Pt.IsSh n d s) (w : World) (G : Gi w) :
    Calls Tryz.prog 47 #[.agg #[.int .i64 n, .int .i64 d]] w fun e w' => e = .returned (.int .i64 s) ∧ Below w.heap.size w w' := by
  obtain ⟨i, j, ho⟩ := Pt.oct_ex hn hd
  obtain ⟨bi, bj⟩ := Pt.oct_le ho hn hd hn2 hd2
  obtain ⟨ba, bb⟩ := Pt.oct_bd ho hn2 hd2
  obtain ⟨k, hk⟩ := Pt.st_ex (n * 2 ^ i) (d * 2 ^ j)
  have es := Pt.sh_is hs hd ho hk
  have hk12 := hk.1
  have OC := Lib.hid (fun W => octaves_c n d i j hn hd hn2 hd2 ho W)
  obtain ⟨a, ha⟩ : ∃ a, n * 2 ^ i = a := ⟨_, rfl⟩
  obtain ⟨b, hb⟩ : ∃ b, d * 2 ^ j = b := ⟨_, rfl⟩
  rw [ha, hb] at OC hk
  rw [ha] at ba
  rw [hb] at bb
  have a7 : a < 10 ^ 7 := by omega
  have b7 : b < 10 ^ 7 := by omega
  have RA := Lib.hid (fun W G => raised_c a 24 a7 (by decide) W G)
  have RB := Lib.hid (fun W G => raised_c b 24 b7 (by decide) W G)
  have SE := Lib.hid (fun W G => semi_c a b k a7 b7 hk W G)
  rw [show ((24 : Nat) : Int) = 24 from rfl] at RA RB
  obtain ⟨x, hx⟩ : ∃ x, tz ((a : Int) ^ 24) = x := ⟨_, rfl⟩
  obtain ⟨y, hy⟩ : ∃ y, tz ((b : Int) ^ 24) = y := ⟨_, rfl⟩
  rw [hx] at RA SE
  rw [hy] at RB SE
  obtain ⟨W0, hW0⟩ : ∃ z : Int, (j : Int) - i = z := ⟨_, rfl⟩
  rw [hW0] at OC es
  have bW : -21 ≤ W0 ∧ W0 ≤ 21 := by omega
  have ES := Lib.hid es
  clear hs hn hd hn2 hd2 ho hk es ha hb hx hy hW0 a7 b7 bi bj ba bb
  obtain ⟨D, hD⟩ : ∃ D, w.heap.size = D := ⟨_, rfl⟩
  go_enter Tryz.func47, Tryz.ntmps47
  go_wp2_with fail
  refine (OC.out _).mono ?_
  rintro e w1 ⟨rfl, hb1⟩
  have hw1 : Below w.heap.size w w1 := ((Below.refl _ w).alloc (Nat.le_refl _) _).trans (hb1.mono (by simp))
  obtain ⟨E, hE⟩ : ∃ E, w1.heap.size = E := ⟨_, rfl⟩
  obtain ⟨V, hV⟩ : ∃ V, w1.alloc (.cells #[.int .i64 a, .int .i64 b] 69) = V := ⟨_, rfl⟩
  have hR0 : ShR w E a b V := by rw [← hV]; exact ⟨hw1.alloc (by have := hw1.size; omega) _, heap_new hE.symm⟩
  have HR := Lib.hid hR0
  have GG := Lib.hid (fun (W : World) (h : ShR w E a b W) => G.below h.bel)
  clear hb1 hw1 hR0
  go_upto_region 2 with fail
  try rw [hV]
  refine wp_region_slots_at rfl rfl (fun base ys => ((((((((((base.set 10 (ys 0)).set 11 (ys 1)).set 12 (ys 2)).set 13 (ys 3)).set 14 (ys 4)).set 15 (ys 5)).set 16 (ys 6)).set 17 (ys 7)).set 18 (ys 8)).set 19 (ys 9)).set 2 (ys 10)) (BelowI _ (ShR w E a b) (shI E a b k W0 x y)) (fun | 10 => .int .i64 0 | _ => undef) (by kernel_rfl) (below_start (HR.out.up ⟨rfl, rfl, rfl, Nat.le_refl _, fun _ _ => rfl⟩)) ?h
  case h =>
    intro FF hFF
    simp only [List.set_cons_succ, List.set_cons_zero] at hFF
    subst hFF
    refine ⟨rfl, ?_, ?_⟩
    refine ⟨?_, ?_⟩
    · refine SlotStep.below (fun A B hb h => h.up hb) (shI_up E a b k W0 x y) ?_
      intro ys W hR hd K hK
      go_simp
      have hK2 := hK (.int .i64 W0) _ (Below.refl _ _) rfl
      simp (config := { decide := true }) only [upd, if_true, if_false] at hK2
      exact hK2
    refine ⟨?_, ?_⟩
    · refine SlotStep.below (fun A B hb h => h.up hb) (shI_up E a b k W0 x y) ?_
      intro ys W hR hd K hK
      have dd0 : ys 0 = (.int .i64 W0) := hd 0 (by kernel_rfl) (by decide)
      have wq := wrap_in (q := 12 * W0) (by omega) (by omega)
      go_simp
      have hK2 := hK (.int .i64 (12 * W0)) _ (Below.refl _ _) rfl
      simp (config := { decide := true }) only [upd, if_true, if_false, dd0] at hK2
      exact hK2
    refine ⟨?_, ?_⟩
    · refine SlotStep.below (fun A B hb h => h.up hb) (shI_up E a b k W0 x y) ?_
      intro ys W hR hd K hK
      go_simp
      have hK2 := hK (.pointer (some ⟨E, 0, none⟩)) _ (Below.refl _ _) rfl
      simp (config := { decide := true }) only [upd, if_true, if_false] at hK2
      exact hK2
    refine ⟨?_, ?_⟩
    · refine SlotStep.below (fun A B hb h => h.up hb) (shI_up E a b k W0 x y) ?_
      intro ys W hR hd K hK
      have dd2 : ys 2 = (.pointer (some ⟨E, 0, none⟩)) := hd 2 (by kernel_rfl) (by decide)
      have c0 := cell2_0 hR.pl
      go_simp
      have hK2 := hK (.int .i64 (a : Int)) _ (Below.refl _ _) rfl
      simp (config := { decide := true }) only [upd, if_true, if_false, dd2] at hK2
      exact hK2
    refine ⟨?_, ?_⟩
    · refine SlotStep.below (fun A B hb h => h.up hb) (shI_up E a b k W0 x y) ?_
      intro ys W hR hd K hK
      have dd3 : ys 3 = (.int .i64 (a : Int)) := hd 3 (by kernel_rfl) (by decide)
      go_simp
      refine (RA.out _ (GG.out W hR)).mono ?_
      rintro e w5 ⟨rfl, hb5⟩
      have hK2 := hK (.string x) _ hb5 rfl
      simp (config := { decide := true }) only [upd, if_true, if_false, dd3] at hK2
      exact hK2
    refine ⟨?_, ?_⟩
    · refine SlotStep.below (fun A B hb h => h.up hb) (shI_up E a b k W0 x y) ?_
      intro ys W hR hd K hK
      go_simp
      have hK2 := hK (.pointer (some ⟨E, 1, none⟩)) _ (Below.refl _ _) rfl
      simp (config := { decide := true }) only [upd, if_true, if_false] at hK2
      exact hK2
    refine ⟨?_, ?_⟩
    · refine SlotStep.below (fun A B hb h => h.up hb) (shI_up E a b k W0 x y) ?_
      intro ys W hR hd K hK
      have dd5 : ys 5 = (.pointer (some ⟨E, 1, none⟩)) := hd 5 (by kernel_rfl) (by decide)
      have c0 := cell2_1 hR.pl
      go_simp
      have hK2 := hK (.int .i64 (b : Int)) _ (Below.refl _ _) rfl
      simp (config := { decide := true }) only [upd, if_true, if_false, dd5] at hK2
      exact hK2
    refine ⟨?_, ?_⟩
    · refine SlotStep.below (fun A B hb h => h.up hb) (shI_up E a b k W0 x y) ?_
      intro ys W hR hd K hK
      have dd6 : ys 6 = (.int .i64 (b : Int)) := hd 6 (by kernel_rfl) (by decide)
      go_simp
      refine (RB.out _ (GG.out W hR)).mono ?_
      rintro e w5 ⟨rfl, hb5⟩
      have hK2 := hK (.string y) _ hb5 rfl
      simp (config := { decide := true }) only [upd, if_true, if_false, dd6] at hK2
      exact hK2
    refine ⟨?_, ?_⟩
    · refine SlotStep.below (fun A B hb h => h.up hb) (shI_up E a b k W0 x y) ?_
      intro ys W hR hd K hK
      have dd4 : ys 4 = (.string x) := hd 4 (by kernel_rfl) (by decide)
      have dd7 : ys 7 = (.string y) := hd 7 (by kernel_rfl) (by decide)
      go_simp
      refine (SE.out _ (GG.out W hR)).mono ?_
      rintro e w5 ⟨rfl, hb5⟩
      have hK2 := hK (.int .i64 (k : Int)) _ hb5 rfl
      simp (config := { decide := true }) only [upd, if_true, if_false, dd4, dd7] at hK2
      exact hK2
    refine ⟨?_, ?_⟩
    · refine SlotStep.below (fun A B hb h => h.up hb) (shI_up E a b k W0 x y) ?_
      intro ys W hR hd K hK
      have dd1 : ys 1 = (.int .i64 (12 * W0)) := hd 1 (by kernel_rfl) (by decide)
      have dd8 : ys 8 = (.int .i64 (k : Int)) := hd 8 (by kernel_rfl) (by decide)
      have wq := wrap_in (q := 12 * W0 + (k : Int)) (by omega) (by omega)
      go_simp
      have hK2 := hK (.int .i64 (12 * W0 + (k : Int))) _ (Below.refl _ _) rfl
      simp (config := { decide := true }) only [upd, if_true, if_false, dd1, dd8] at hK2
      exact hK2
    refine ⟨?_, ?_⟩
    · refine SlotStep.below (fun A B hb h => h.up hb) (shI_up E a b k W0 x y) ?_
      intro ys W hR hd K hK
      have dd9 : ys 9 = (.int .i64 (12 * W0 + (k : Int))) := hd 9 (by kernel_rfl) (by decide)
      go_simp
      have hK2 := hK (.int .i64 (12 * W0 + (k : Int))) _ (Below.refl _ _) rfl
      simp (config := { decide := true }) only [upd, if_true, if_false, dd9] at hK2
      exact hK2
    trivial
    · intro L5 ys5 W5 hL5 hI5
      obtain ⟨hR5, hj5⟩ := hI5
      have d9 : ys5 10 = .int .i64 (12 * W0 + (k : Int)) := hj5 10 (by decide) (hL5 10 (by decide))
      rw [← ES.out] at d9
      simp only [d9]
      have hw5 := hR5.bel
      clear hR5 hj5 hL5
      go_wp2
      go_ret
      exact ⟨rfl, hw5⟩
end Go.Proofs.YtbkbncapgljfaaaGreatDoor
/- Contracts of pitch's Shift, Exact, Compare, Sounding, Harmonic. -/
namespace Go.Proofs.YtbkbncapgljfaaaGreatDoor
open Go Go.RowKit Go.Shelf

theorem pr_bd {a b c d : Int} (h1 : pk a b = 0) (h2 : pk c d = 0) : 0 < c * b ∧ c * b ≤ 2097152 := by
  obtain ⟨_, k1, k2, k3, k4, _⟩ := pk_ok h1
  obtain ⟨_, l1, l2, l3, l4, _⟩ := pk_ok h2
  refine ⟨Int.mul_pos l1 (by omega), ?_⟩
  calc c * b ≤ 16384 * b := Int.mul_le_mul_of_nonneg_right (by omega) (by omega)
    _ ≤ 16384 * 128 := Int.mul_le_mul_of_nonneg_left k4 (by decide)
theorem ret_tb {v : Value} {a b : Bool} (h : a = b) : Ending.returned (.tuple #[.bool a, v]) = .returned (.tuple #[.bool b, v]) := by rw [h]
def ShI (x y s : Int) : Prop := Pt.IsSh x.toNat y.toNat s
theorem shift_i (x y s : Int) (h1 : 0 < x) (h2 : x ≤ 2097152) (h3 : 0 < y) (h4 : y ≤ 2097152) (hs : ShI x y s) (w : World) (G : Gi w) :
    Calls Tryz.prog 47 #[.agg #[.int .i64 x, .int .i64 y]] w fun e w' => e = .returned (.int .i64 s) ∧ Below w.heap.size w w' := by
  have h := shift_c x.toNat y.toNat s (by omega) (by omega) (by omega) (by omega) hs w G
  rw [Int.toNat_of_nonneg (by omega), Int.toNat_of_nonneg (by omega)] at h
  exact h
theorem oct_i (x y : Int) (i j : Nat) (h1 : 0 < x) (h2 : x ≤ 2097152) (h3 : 0 < y) (h4 : y ≤ 2097152) (hs : Pt.Oct x.toNat y.toNat i j) (w : World) :
    Calls Tryz.prog 50 #[.agg #[.int .i64 x, .int .i64 y]] w fun e w' => e = .returned (.tuple #[.int .i64 ((j : Int) - i), .agg #[.int .i64 ((x.toNat * 2 ^ i : Nat) : Int), .int .i64 ((y.toNat * 2 ^ j : Nat) : Int)]]) ∧ Below w.heap.size w w' := by
  have h := octaves_c x.toNat y.toNat i j (by omega) (by omega) (by omega) (by omega) hs w
  rw [Int.toNat_of_nonneg (by omega), Int.toNat_of_nonneg (by omega)] at h
  exact h
theorem sh_of_eq {x y s : Int} (hs : ShI x y s) (h1 : 0 < x) (h2 : x ≤ 2097152) (h3 : 0 < y) (h4 : y ≤ 2097152) : -300 ≤ s ∧ s ≤ 300 :=
  Pt.sh_bd hs (by omega) (by omega) (by omega) (by omega)
theorem shi_ex {x y : Int} (h1 : 0 < x) (h3 : 0 < y) : ∃ s, ShI x y s := Pt.sh_ex (by omega) (by omega)
theorem pk2_ok {a b c d : Int} (h1 : pk a b = 0) (h2 : pk c d = 0) : pk2 a b c d = 0 := by unfold pk2; rw [if_pos h1, h2]


theorem pshift_bad (a b c d z : Int) (hz : pk2 a b c d = z) (hn : ¬ z = 0) (w : World) :
    Calls Tryz.prog 32 #[.agg #[.int .i64 a, .int .i64 b], .agg #[.int .i64 c, .int .i64 d]] w fun e w' => e = .returned (.tuple #[.int .i64 0, .int .i64 z]) ∧ Below w.heap.size w w' := by
  have CB := Lib.hid (fun W => pcheckBoth_any a b c d W)
  rw [hz] at CB
  clear hz
  obtain ⟨D, hD⟩ : ∃ D, w.heap.size = D := ⟨_, rfl⟩
  go_enter Tryz.func32, Tryz.ntmps32
  go_wp2_with fail
  refine (CB.out _).mono ?_
  rintro e w1 ⟨rfl, hb1⟩
  have hp0 : w1.heap[D]? = some (.cells #[.int .i64 a, .int .i64 b] 23) := (hb1.block D (by simp [hD]; omega)).trans (heap_old (heap_new hD.symm))
  have hp1 : w1.heap[D + 1]? = some (.cells #[.int .i64 c, .int .i64 d] 23) := (hb1.block (D + 1) (by simp [hD])).trans (heap_new (by simp [hD]))
  have hw1 : Below w.heap.size w w1 := (((Below.refl _ w).alloc (Nat.le_refl _) _).alloc (by simp) _).trans (hb1.mono (by simp; omega))
  have hs1 := hw1.size
  have c0 := cell2_0 hp0
  have c1 := cell2_1 hp0
  have c2 := cell2_0 hp1
  have c3 := cell2_1 hp1
  clear hp0 hp1 hb1 CB
  go_wp2
  go_ret2
  exact ⟨rfl, hw1⟩


set_option maxHeartbeats 1000000 in
theorem pshift_ok (a b c d s : Int) (h1 : pk a b = 0) (h2 : pk c d = 0) (hs : ShI (c * b) (d * a) s) (w : World) (G : Gi w) :
    Calls Tryz.prog 32 #[.agg #[.int .i64 a, .int .i64 b], .agg #[.int .i64 c, .int .i64 d]] w fun e w' => e = .returned (.tuple #[.int .i64 s, .int .i64 0]) ∧ Below w.heap.size w w' := by
  obtain ⟨m1, m2⟩ := pr_bd h1 h2
  obtain ⟨m3, m4⟩ : 0 < d * a ∧ d * a ≤ 2097152 := by rw [Int.mul_comm]; exact pr_bd h2 h1
  have CB := Lib.hid (fun W => pcheckBoth_any a b c d W)
  rw [pk2_ok h1 h2] at CB
  have RO := Lib.hid (fun W => ratioOf_any a b c d W (by omega) (by omega) (by omega) (by omega))
  have SH := Lib.hid (fun W G => shift_i (c * b) (d * a) s m1 m2 m3 m4 hs W G)
  obtain ⟨x, hx⟩ : ∃ x, c * b = x := ⟨_, rfl⟩
  obtain ⟨y, hy⟩ : ∃ x, d * a = x := ⟨_, rfl⟩
  rw [hx, hy] at SH RO
  clear m1 m2 m3 m4 hs h1 h2 hx hy
  obtain ⟨D, hD⟩ : ∃ D, w.heap.size = D := ⟨_, rfl⟩
  go_enter Tryz.func32, Tryz.ntmps32
  go_wp2_with fail
  refine (CB.out _).mono ?_
  rintro e w1 ⟨rfl, hb1⟩
  have hp0 : w1.heap[D]? = some (.cells #[.int .i64 a, .int .i64 b] 23) := (hb1.block D (by simp [hD]; omega)).trans (heap_old (heap_new hD.symm))
  have hp1 : w1.heap[D + 1]? = some (.cells #[.int .i64 c, .int .i64 d] 23) := (hb1.block (D + 1) (by simp [hD])).trans (heap_new (by simp [hD]))
  have hw1 : Below w.heap.size w w1 := (((Below.refl _ w).alloc (Nat.le_refl _) _).alloc (by simp) _).trans (hb1.mono (by simp; omega))
  have hs1 := hw1.size
  have c0 := cell2_0 hp0
  have c1 := cell2_1 hp0
  have c2 := cell2_0 hp1
  have c3 := cell2_1 hp1
  clear hp0 hp1 hb1 CB
  go_wp2_with fail
  refine (RO.out _).mono ?_
  rintro e w2 ⟨rfl, hb2⟩
  have hw2 := hw1.trans (hb2.mono hs1)
  have hs2 := hw2.size
  go_wp2_with fail
  refine (SH.out _ (G.below hw2)).mono ?_
  rintro e w3 ⟨rfl, hb3⟩
  go_wp2
  go_ret2
  exact ⟨rfl, hw2.trans (hb3.mono hs2)⟩


/-- Sounding's answer for right feet. -/
def sndV (key s : Int) : Value := if 0 ≤ key ∧ key ≤ 127 then (if 0 ≤ key + s ∧ key + s ≤ 127 then .tuple #[.int .i64 (key + s), .bool true, .int .i64 0] else .tuple #[.int .i64 0, .bool false, .int .i64 0]) else .tuple #[.int .i64 0, .bool false, .int .i64 3]
end Go.Proofs.YtbkbncapgljfaaaGreatDoor
/- Names: contracts of rank's isLetter, isDigit, IsName, isFirst and of the law's IsName. -/
namespace Go.Proofs.YtbkbncapgljfaaaGreatDoor
open Go Go.RowKit Go.Shelf

def letB (b : UInt8) : Bool := decide ((65 ≤ b.toNat ∧ b.toNat ≤ 90) ∨ (97 ≤ b.toNat ∧ b.toNat ≤ 122))
def digB (b : UInt8) : Bool := decide (48 ≤ b.toNat ∧ b.toNat ≤ 57)
def nmcB (b : UInt8) : Bool := letB b || digB b || decide (b.toNat = 95)
/-- A name. -/
def nameB (l : List UInt8) : Bool := match l with
  | [] => false
  | c :: r => decide (r.length + 1 ≤ 32) && letB c && (c :: r).all nmcB

theorem isLetter_c (b : UInt8) (w : World) : Calls Tryz.prog 37 #[.int .u8 (b.toNat : Nat)] w fun e w' => e = .returned (.bool (letB b)) ∧ w' = w := by
  obtain ⟨r, hr⟩ : ∃ r, letB b = r := ⟨_, rfl⟩
  rw [hr]
  unfold letB at hr
  obtain ⟨c, hc⟩ : ∃ c : Nat, b.toNat = c := ⟨_, rfl⟩
  rw [hc] at hr ⊢
  have HR := Lib.hid hr
  clear hr hc
  go_enter Tryz.func37, Tryz.ntmps37
  by_cases h1 : (65 : Int) ≤ (c : Int)
  · by_cases h2 : (c : Int) ≤ 90
    · obtain rfl : r = true := by rw [← HR.out]; exact decide_eq_true (by omega)
      go_wp2
      go_ret
      exact ⟨rfl, rfl⟩
    · by_cases h3 : (97 : Int) ≤ (c : Int)
      · by_cases h4 : (c : Int) ≤ 122
        · obtain rfl : r = true := by rw [← HR.out]; exact decide_eq_true (by omega)
          go_wp2
          go_ret
          exact ⟨rfl, rfl⟩
        · obtain rfl : r = false := by rw [← HR.out]; exact decide_eq_false (by omega)
          go_wp2
          go_ret
          exact ⟨rfl, rfl⟩
      · obtain rfl : r = false := by rw [← HR.out]; exact decide_eq_false (by omega)
        go_wp2
        go_ret
        exact ⟨rfl, rfl⟩
  · have h3 : ¬ (97 : Int) ≤ (c : Int) := by omega
    obtain rfl : r = false := by rw [← HR.out]; exact decide_eq_false (by omega)
    go_wp2
    go_ret
    exact ⟨rfl, rfl⟩
theorem isDigit_c (b : UInt8) (w : World) : Calls Tryz.prog 38 #[.int .u8 (b.toNat : Nat)] w fun e w' => e = .returned (.bool (digB b)) ∧ w' = w := by
  obtain ⟨r, hr⟩ : ∃ r, digB b = r := ⟨_, rfl⟩
  rw [hr]
  unfold digB at hr
  obtain ⟨c, hc⟩ : ∃ c : Nat, b.toNat = c := ⟨_, rfl⟩
  rw [hc] at hr ⊢
  have HR := Lib.hid hr
  clear hr hc
  go_enter Tryz.func38, Tryz.ntmps38
  by_cases h1 : (48 : Int) ≤ (c : Int)
  · by_cases h2 : (c : Int) ≤ 57
    · obtain rfl : r = true := by rw [← HR.out]; exact decide_eq_true (by omega)
      go_wp2
      go_ret
      exact ⟨rfl, rfl⟩
    · obtain rfl : r = false := by rw [← HR.out]; exact decide_eq_false (by omega)
      go_wp2
      go_ret
      exact ⟨rfl, rfl⟩
  · obtain rfl : r = false := by rw [← HR.out]; exact decide_eq_false (by omega)
    go_wp2
    go_ret
    exact ⟨rfl, rfl⟩
theorem isFirst_c (n : Int) (w : World) : Calls Tryz.prog 35 #[.int .i64 n] w fun e w' => e = .returned (.bool (decide (-256 ≤ n ∧ n ≤ 256))) ∧ w' = w := by
  go_enter Tryz.func35, Tryz.ntmps35
  by_cases h1 : -256 ≤ n
  · by_cases h2 : n ≤ 256
    · go_wp2
      go_ret
      exact ⟨ret_bool (by simp [h2]; try omega), rfl⟩
    · go_wp2
      go_ret
      exact ⟨ret_bool (by simp [h2]; try omega), rfl⟩
  · go_wp2
    go_ret
    exact ⟨ret_bool (by simp; omega), rfl⟩
end Go.Proofs.YtbkbncapgljfaaaGreatDoor
/- What rank's walks say of winds and ranks. -/
namespace Go.Proofs.YtbkbncapgljfaaaGreatDoor
open Go Go.RowKit Go.Shelf

/-- A slice of ints. -/
def Wd (W : World) (v : Value) (n : Nat) (X : Nat → Int) : Prop :=
  (n = 0 ∧ ∃ a c, v = .slice a 0 c) ∨ ∃ g o cap, v = .slice (some ⟨g, o, none⟩) n cap ∧ n ≤ cap ∧ g < W.heap.size ∧ ∀ k, k < n → W.cell? ⟨g, o + k, none⟩ = some (.int .i64 (X k))
theorem Wd.below {A B : World} {v : Value} {n : Nat} {X : Nat → Int} (h : Wd A v n X) (hb : Below A.heap.size A B) : Wd B v n X := by
  rcases h with h | ⟨g, o, cap, h1, h0, h2, h3⟩
  · exact .inl h
  · exact .inr ⟨g, o, cap, h1, h0, Nat.lt_of_lt_of_le h2 hb.size, fun k hk => (hb.cell (p := ⟨g, o + k, none⟩) h2).trans (h3 k hk)⟩
theorem Wd.len {W : World} {v : Value} {n : Nat} {X : Nat → Int} (h : Wd W v n X) : ∃ a c, v = .slice a n c := by
  rcases h with ⟨rfl, a, c, rfl⟩ | ⟨g, o, cap, rfl, _⟩
  · exact ⟨_, _, rfl⟩
  · exact ⟨_, _, rfl⟩
theorem Wd.at {W : World} {v : Value} {n k : Nat} {X : Nat → Int} (h : Wd W v n X) (hk : k < n) : ∃ g o cap, v = .slice (some ⟨g, o, none⟩) n cap ∧ n ≤ cap ∧ g < W.heap.size ∧ W.cell? ⟨g, o + k, none⟩ = some (.int .i64 (X k)) := by
  rcases h with ⟨rfl, _⟩ | ⟨g, o, cap, h1, h0, h2, h3⟩
  · omega
  · exact ⟨g, o, cap, h1, h0, h2, h3 k hk⟩
/-- checkWind's answer. -/
def wdE (X : Nat → Int) (n : Nat) : Int := if ∀ k, k < n → 0 ≤ X k ∧ X k ≤ 1000000 then 0 else 3
/-- Check's answer over ranks. -/
def rkE (nm tn : ByteArray) (a b f : Int) (n : Nat) (X : Nat → Int) : Int :=
  if nameB nm.data.toList = true ∧ nameB tn.data.toList = true then (if pk a b = 0 then (if -256 ≤ f ∧ f ≤ 256 then (if n = 0 then 13 else if 128 < n then 4 else wdE X n) else 3) else pk a b) else 8
theorem rk_ok {nm tn : ByteArray} {a b f : Int} {n : Nat} {X : Nat → Int} (h : rkE nm tn a b f n X = 0) :
    nameB nm.data.toList = true ∧ nameB tn.data.toList = true ∧ pk a b = 0 ∧ (-256 ≤ f ∧ f ≤ 256) ∧ 0 < n ∧ n ≤ 128 ∧ ∀ k, k < n → 0 ≤ X k ∧ X k ≤ 1000000 := by
  unfold rkE at h
  split at h
  · rename_i h1
    split at h
    · rename_i h2
      split at h
      · rename_i h3
        split at h
        · cases h
        · split at h
          · cases h
          · unfold wdE at h
            split at h
            · rename_i h6
              exact ⟨h1.1, h1.2, h2, h3, by omega, by omega, h6⟩
            · cases h
      · cases h
    · exact absurd h ‹_›
  · cases h
theorem rk_of {nm tn : ByteArray} {a b f : Int} {n : Nat} {X : Nat → Int} (h1 : nameB nm.data.toList = true) (h2 : nameB tn.data.toList = true) (h3 : pk a b = 0) (h4 : -256 ≤ f ∧ f ≤ 256) (h5 : 0 < n) (h6 : n ≤ 128) (h7 : ∀ k, k < n → 0 ≤ X k ∧ X k ≤ 1000000) : rkE nm tn a b f n X = 0 := by
  unfold rkE wdE
  rw [if_pos ⟨h1, h2⟩, if_pos h3, if_pos h4, if_neg (by omega), if_neg (by omega), if_pos h7]
end Go.Proofs.YtbkbncapgljfaaaGreatDoor
/- What the walks of rank's laws ask of memory, out of the listed variables; ranks among the arguments. -/
namespace Go.Proofs.YtbkbncapgljfaaaGreatDoor
open Go Go.RowKit Go.Shelf Go.ChangeShapes Go.WideShapes Go.ChangeAt Go.WideMaps Go.WideElems Go.Joins Go.Deep

theorem gi_of5 {W : World} {d d2 : DataW Unit} {nm : String} {r : List (String × DataW Unit)} (hs : W.ShapedOpen Tryz.prog) (h : laidMet Tryz.prog ((nm, d) :: ("math/bits.deBruijn64tab", d2) :: ("internal/strconv.uint64pow10", Rows.laid_internal_strconv_uint64pow10) :: r) W) : Gi W := by
  obtain ⟨m, hm⟩ := Go.Proofs.cell_of_shapedOpen_int (P := Tryz.prog) (g := 3) (t := 3) (zero := #[.int .i64 0]) hs (of_decide_eq_true (by kernel_rfl)) (by kernel_rfl) rfl (by kernel_rfl) (by kernel_rfl) Tryz.underlying3
  refine ⟨Lib.tabIs_of_head (g := 0) (n := 20) (e := 81) (by kernel_rfl) rfl (by kernel_rfl) Tryz.underlying81 (by kernel_rfl) (by kernel_rfl) h.tail.tail, ⟨m, hm⟩, ?_⟩
  have := World.block_lt_of_cell? _ _ hm
  exact this

variable {H : Type} {enc : TypeId × Value → H}
theorem trod_struct5 {P : Program} {w : World} {base : Nat} {spare : Nat → Bool} {held : Bool} {t : TypeId} {f0 f1 f2 f3 f4 : Field} {fuel : Nat} {cs : List Value} {x : DataW H × List MemPlace} (ht : P.underlying t = some (.struct #[f0, f1, f2, f3, f4])) (h : DataW.trod enc P w base spare held fuel t cs = some x) :
    ∃ y0 y1 y2 y3 y4 n, x = (.agg [y0.1, y1.1, y2.1, y3.1, y4.1], y0.2 ++ (y1.2 ++ (y2.2 ++ (y3.2 ++ y4.2)))) ∧ cs.length = P.cellsOf t ∧ DataW.trod enc P w base spare held n f0.type ((cs.drop f0.offset).take (P.cellsOf f0.type)) = some y0 ∧
      DataW.trod enc P w base spare held n f1.type ((cs.drop f1.offset).take (P.cellsOf f1.type)) = some y1 ∧ DataW.trod enc P w base spare held n f2.type ((cs.drop f2.offset).take (P.cellsOf f2.type)) = some y2 ∧
      DataW.trod enc P w base spare held n f3.type ((cs.drop f3.offset).take (P.cellsOf f3.type)) = some y3 ∧ DataW.trod enc P w base spare held n f4.type ((cs.drop f4.offset).take (P.cellsOf f4.type)) = some y4 := by
  obtain ⟨xs, n, _, rfl, hl, hlen, hf⟩ := DataW.trod_struct ht h
  match xs, hlen with
  | [y0, y1, y2, y3, y4], _ => exact ⟨y0, y1, y2, y3, y4, n, by simp, hl, by simpa using hf 0 f0 rfl, by simpa using hf 1 f1 rfl, by simpa using hf 2 f2 rfl, by simpa using hf 3 f3 rfl, by simpa using hf 4 f4 rfl⟩
theorem open_all {W : World} {t : TypeId} {v : Value} {d : DataW H} {p : List MemPlace} (h0 : DataW.Trod enc Tryz.prog W 0 (fun _ => true) true t v d p) : ∀ x ∈ p, x.block < W.heap.size := by
  obtain ⟨fuel, hf⟩ := h0
  exact fun x hx => DataW.trod_lt _ _ _ _ hf x hx
/-- A slice of ints. -/
theorem wd_open {W : World} {fuel : Nat} {c : Value} {x : DataW H × List MemPlace} (h : DataW.trod enc Tryz.prog W 0 (fun _ => true) true fuel 24 [c] = some x) : ∃ (n : Nat) (X : Nat → Int), Wd W c n X ∧ n ≤ maxLen := by
  rcases open_ints Tryz.underlying24 Tryz.underlying3 (by kernel_rfl) h with ⟨hcs, _⟩ | ⟨a, len, cap, zs, hcs, _, hl, hm, hz, _, hcell, _⟩
  · simp only [List.cons.injEq, and_true] at hcs
    subst hcs
    exact ⟨0, fun _ => 0, .inl ⟨rfl, _, _, rfl⟩, Nat.zero_le _⟩
  · simp only [List.cons.injEq, and_true] at hcs
    subst hcs
    simp only [if_true] at hz
    by_cases h0 : len = 0
    · subst h0
      exact ⟨0, fun _ => 0, .inl ⟨rfl, _, _, rfl⟩, Nat.zero_le _⟩
    · obtain ⟨b, off, spot⟩ := a
      have hspot : spot = none := by
        have h := World.cell?_spot (hcell 0 (by omega))
        simpa [Addr.add] using h
      subst hspot
      have hc0 := hcell 0 (by omega)
      refine ⟨len, fun k => zs.getD k 0, .inr ⟨b, off, cap, rfl, hl, World.block_lt_of_cell? _ _ (by simpa [Addr.add] using hc0), fun k hk => ?_⟩, by omega⟩
      have := hcell k (by omega)
      rw [Go.WideShapes.add_plain] at this
      exact this
set_option maxRecDepth 10000 in
theorem open_rank {W : World} {r : Reach} {b0 : Nat} {v : Value} {d : DataW H} {p : List MemPlace} (hv : Value.okWide Tryz.prog W r b0 26 v) (h0 : DataW.Trod enc Tryz.prog W 0 (fun _ => true) true 26 v d p) :
    (∀ x ∈ p, x.block < W.heap.size) ∧ ∃ (nm tn : ByteArray) (a b f : Int) (va : Value) (n : Nat) (X : Nat → Int), v = .agg #[.string nm, .string tn, .int .i64 a, .int .i64 b, .int .i64 f, va] ∧ Wd W va n X ∧ n ≤ maxLen := by
  refine ⟨open_all h0, ?_⟩
  obtain ⟨cs, rfl, hsz⟩ := WideShapes.okWide_struct Tryz.underlying26 hv
  rw [show Tryz.prog.cellsOf 26 = 6 by kernel_rfl] at hsz
  obtain ⟨fuel, hf⟩ := h0
  obtain ⟨z0, z1, z2, z3, z4, m, _, _, k0, k1, k2, k3, k4⟩ := trod_struct5 Tryz.underlying26 hf
  obtain ⟨l, rfl⟩ : ∃ l : List Value, cs = l.toArray := ⟨cs.toList, by simp⟩
  have hl : l.length = 6 := by simpa using hsz
  match l, hl with
  | [c0, c1, c2, c3, c4, c5], _ =>
  have q0 : DataW.trod enc Tryz.prog W 0 (fun _ => true) true m 9 [c0] = some z0 := k0
  have q1 : DataW.trod enc Tryz.prog W 0 (fun _ => true) true m 9 [c1] = some z1 := k1
  have q2 : DataW.trod enc Tryz.prog W 0 (fun _ => true) true m 23 [c2, c3] = some z2 := k2
  have q3 : DataW.trod enc Tryz.prog W 0 (fun _ => true) true m 3 [c4] = some z3 := k3
  have q4 : DataW.trod enc Tryz.prog W 0 (fun _ => true) true m 24 [c5] = some z4 := k4
  obtain ⟨s, e0, _, _⟩ := DataW.trod_string Tryz.underlying9 q0
  obtain ⟨t, e1, _, _⟩ := DataW.trod_string Tryz.underlying9 q1
  obtain ⟨y0, y1, m2, _, _, j0, j1⟩ := trod_struct2 Tryz.underlying23 q2
  have i0 : DataW.trod enc Tryz.prog W 0 (fun _ => true) true m2 3 [c2] = some y0 := j0
  have i1 : DataW.trod enc Tryz.prog W 0 (fun _ => true) true m2 3 [c3] = some y1 := j1
  obtain ⟨a, e2, _, _⟩ := DataW.trod_int Tryz.underlying3 i0
  obtain ⟨b, e3, _, _⟩ := DataW.trod_int Tryz.underlying3 i1
  obtain ⟨f, e4, _, _⟩ := DataW.trod_int Tryz.underlying3 q3
  obtain ⟨n, X, hw, hn⟩ := wd_open q4
  simp only [List.cons.injEq, and_true] at e0 e1 e2 e3 e4
  subst e0 e1 e2 e3 e4
  exact ⟨s, t, a, b, f, c5, n, X, rfl, hw, hn⟩
/-- The door of a row with listed tables: the call is made in a world of the program's shape, in which the tables lie. -/
theorem door_shaped {C : Checked} {os : Os} {f : FuncId} {fn : Func} {s : ChangeSpec} {lays : List (String × DataW Unit)} (own : ownKnob C.prog.godebug = none) (started : os.Started) (noInit : C.prog.inits.idxOf? f = none) (hfn : C.prog.funcs[f]? = some fn)
    (wit : ∃ (w : World) (tape : Tape) (i : Input), w.os = os ∧ (w.forCall tape i).Shaped C.prog ∧ i.vars = [] ∧ Input.okWide C.prog (w.forCall tape i) .any w.heap.size f i ∧
      ((s.pre enc C.prog fn [] false (w.forCall tape i).memory i.args ∧ laidMetH C.prog lays (w.forCall tape i).memory) ∧ sizedMet enc C.prog fn (OpenSpec.ofChange s) false (w.forCall tape i).memory i.args) ∧ ({} : Assume).holds C.prog (lone (Frame.enter C.prog f i.args .normal) [] (w.forCall tape i)))
    (go : ∀ (W : World) (base : Nat) (args : Array Value) (ds gs : List (DataW H)) (before : List MemPlace), W.ShapedOpen C.prog → laidMetH C.prog lays W →
      (∀ (j : Nat) t v, fn.params[j]? = some t → args[j]? = some v → Value.okWide C.prog W .any base t v) →
      DataW.Whole enc C.prog fn.params.toList s.vars false W args.toList ds gs before →
      Calls C.prog f args W fun e W' => ∃ v, e = .returned v ∧ s.post enc C.prog fn false true false false W args v W') :
    ReturnsInHanded {} C os f .any (fun w args => (s.pre enc C.prog fn [] false w args ∧ laidMetH C.prog lays w) ∧ sizedMet enc C.prog fn (OpenSpec.ofChange s) false w args) (s.post enc C.prog fn false true false false) := by
  refine returnsInHanded_of_calls own started noInit wit ?_
  rintro w tape i - shape - ⟨_, _, _, fn', h1, _, _, _, _, good⟩ ⟨⟨⟨ds, gs, before, whole, _⟩, lay⟩, _⟩ -
  cases Option.some.inj (h1.symm.trans hfn)
  refine (go _ w.heap.size i.args ds gs before shape (laidMetH.of_heap (by rfl) lay) good (DataW.Whole.of_heap (by rfl) whole)).mono ?_
  rintro e W' ⟨v, rfl, hp⟩
  exact ChangeSpec.post_blind hp
end Go.Proofs.YtbkbncapgljfaaaGreatDoor
/- Contracts of rank's IsName, checkWind, Check, last, checkPipe, Number. -/
namespace Go.Proofs.YtbkbncapgljfaaaGreatDoor
open Go Go.RowKit Go.Shelf

theorem all_falseN {l : List UInt8} {k : Nat} (h : k < l.length) (hd : nmcB l[k] = false) : l.all nmcB = false := by
  cases hl : l.all nmcB with
  | false => rfl
  | true => rw [List.all_eq_true.1 hl _ (List.getElem_mem h)] at hd; cases hd
theorem take_allN {l : List UInt8} {k : Nat} (h : k < l.length) (ha : (l.take k).all nmcB = true) (hd : nmcB l[k] = true) : (l.take (k + 1)).all nmcB = true := by
  rw [List.take_succ_eq_append_getElem h, List.all_append, ha]; simp [hd]
theorem name_eq {l : List UInt8} (h : 0 < l.length) : nameB l = (decide (l.length ≤ 32) && letB l[0] && l.all nmcB) := by
  match l, h with
  | c :: r, _ => rfl
theorem nmc_let {b : UInt8} (h : letB b = true) : nmcB b = true := by unfold nmcB; rw [h]; rfl
theorem nmc_not {b : UInt8} (h : letB b = false) : nmcB b = (digB b || decide (b.toNat = 95)) := by unfold nmcB; rw [h, Bool.false_or]

set_option maxRecDepth 100000 in
set_option maxHeartbeats 4000000 in
theorem isName_c (s : ByteArray) (hs : s.size ≤ 1099511627776) (w : World) :
    Calls Tryz.prog 15 #[.string s] w fun e w' => e = .returned (.bool (nameB s.data.toList)) ∧ w' = w := by
  have HSL := Lib.hid (size_list s)
  have LT := Lib.hid (fun b W => isLetter_c b W)
  have DG := Lib.hid (fun b W => isDigit_c b W)
  obtain ⟨R, hR⟩ : ∃ R, nameB s.data.toList = R := ⟨_, rfl⟩
  have HR := Lib.hid hR
  rw [hR]
  clear hR
  by_cases h0 : s.size = 0
  · obtain rfl : R = false := by
      rw [← HR.out, show s.data.toList = [] from List.length_eq_zero_iff.1 (by rw [HSL.out]; exact h0)]; rfl
    obtain rfl : s = ⟨#[]⟩ := by
      apply ext_bytes
      exact List.length_eq_zero_iff.1 (by rw [HSL.out]; exact h0)
    go_enter Tryz.func15, Tryz.ntmps15
    go_wp2
    go_ret
    exact ⟨rfl, rfl⟩
  have hne : (s.toList == ([] : List UInt8)) = false := by
    rw [beq_eq_false_iff_ne, toList_eq]
    intro h
    have := HSL.out
    rw [h] at this
    exact h0 this.symm
  by_cases h32 : 32 < s.size
  · obtain rfl : R = false := by
      rw [← HR.out, name_eq (by rw [HSL.out]; omega), decide_eq_false (by rw [HSL.out]; omega)]; rfl
    have g1 : (32 : Int) < (s.size : Int) := by omega
    go_enter Tryz.func15, Tryz.ntmps15
    go_wp2
    go_ret
    exact ⟨rfl, rfl⟩
  have g1 : ¬ (32 : Int) < (s.size : Int) := by omega
  have hp : 0 < s.size := by omega
  have hp0 : (0 : Int) < (s.size : Int) := by omega
  have HG0 := Lib.hid (getElem_list s 0 hp (by rw [HSL.out]; exact hp))
  cases c0 : letB s[0] with
  | false =>
    obtain rfl : R = false := by
      rw [← HR.out, name_eq (by rw [HSL.out]; exact hp), HG0.out, c0, Bool.and_false, Bool.false_and]
    have l0 := fun W => LT.out s[0] W
    rw [c0] at l0
    have L0 := Lib.hid l0
    clear l0 c0
    go_enter Tryz.func15, Tryz.ntmps15
    go_wp2_with fail
    refine (L0.out _).mono ?_
    rintro e w' ⟨rfl, rfl⟩
    go_wp2
    go_ret
    exact ⟨rfl, rfl⟩
  | true =>
    have HR2 := Lib.hid (show s.data.toList.all nmcB = R by
      rw [← HR.out, name_eq (by rw [HSL.out]; exact hp), HG0.out, c0, decide_eq_true (by rw [HSL.out]; omega)]; rfl)
    have l0 := fun W => LT.out s[0] W
    rw [c0] at l0
    have L0 := Lib.hid l0
    clear l0 c0
    go_enter Tryz.func15, Tryz.ntmps15
    go_wp2_with fail
    refine (L0.out _).mono ?_
    rintro e w' ⟨rfl, rfl⟩
    go_wp2_with fail
    go_loop [20] (fun i => ∃ k : Nat, k ≤ s.size ∧ i = .int .i64 (k : Int) ∧ (s.data.toList.take k).all nmcB = true) (fun i => s.size - (intOf i).toNat)
    case atStart => exact ⟨0, Nat.zero_le _, rfl, rfl⟩
    case round =>
      obtain ⟨k, hk, rfl, ha⟩ := hrel
      have HA := Lib.hid ha
      clear ha
      by_cases h1 : k < s.size
      · have hkl : k < s.data.toList.length := by rw [HSL.out]; exact h1
        have HG := Lib.hid (getElem_list s k h1 hkl)
        have hki : (k : Int) < (s.size : Int) := by omega
        have la := fun W => LT.out s[k] W
        have lb := fun W => DG.out s[k] W
        have HF := Lib.hid (fun (h : nmcB s[k] = false) => show R = false by rw [← HR2.out]; exact all_falseN hkl (by rw [HG.out]; exact h))
        have HT := Lib.hid (fun (h : nmcB s[k] = true) => take_allN hkl HA.out (by rw [HG.out]; exact h))
        cases c1 : letB s[k] with
        | true =>
          have HN := Lib.hid (HT.out (nmc_let c1))
          rw [c1] at la
          have LA := Lib.hid la
          clear la lb c1
          go_wp2_with fail
          refine (LA.out _).mono ?_
          rintro e w' ⟨rfl, rfl⟩
          go_wp2
          go_round
          case rel => exact ⟨k + 1, by omega, by go_num, HN.out⟩
          case measure => simp [intOf]; omega
        | false =>
          have e1 := nmc_not c1
          rw [c1] at la
          cases c2 : digB s[k] with
          | true =>
            have HN := Lib.hid (HT.out (by rw [e1, c2]; rfl))
            rw [c2] at lb
            have LA := Lib.hid la
            have LB := Lib.hid lb
            clear la lb c1 c2 e1
            go_wp2_with fail
            refine (LA.out _).mono ?_
            rintro e w' ⟨rfl, rfl⟩
            go_wp2_with fail
            refine (LB.out _).mono ?_
            rintro e w' ⟨rfl, rfl⟩
            go_wp2
            go_round
            case rel => exact ⟨k + 1, by omega, by go_num, HN.out⟩
            case measure => simp [intOf]; omega
          | false =>
            rw [c2] at lb
            have LA := Lib.hid la
            have LB := Lib.hid lb
            by_cases c3 : s[k].toNat = 95
            · have HN := Lib.hid (HT.out (by rw [e1, c2]; simp [c3]))
              have E3 := Lib.hid (show ((s[k].toNat : Nat) : Int) = 95 by omega)
              clear la lb c1 c2 e1 c3
              go_wp2_with fail
              refine (LA.out _).mono ?_
              rintro e w' ⟨rfl, rfl⟩
              go_wp2_with fail
              refine (LB.out _).mono ?_
              rintro e w' ⟨rfl, rfl⟩
              have e3 := E3.out
              go_wp2
              go_round
              case rel => exact ⟨k + 1, by omega, by go_num, HN.out⟩
              case measure => simp [intOf]; omega
            · obtain rfl : R = false := HF.out (by rw [e1, c2]; simp [c3])
              have E3 := Lib.hid (show ((((s[k].toNat : Nat) : Int)) == 95) = false by rw [beq_eq_false_iff_ne]; omega)
              clear la lb c1 c2 e1 c3
              go_wp2_with fail
              refine (LA.out _).mono ?_
              rintro e w' ⟨rfl, rfl⟩
              go_wp2_with fail
              refine (LB.out _).mono ?_
              rintro e w' ⟨rfl, rfl⟩
              have e3 := E3.out
              go_wp2
              go_ret
              exact ⟨rfl, rfl⟩
      · obtain rfl : k = s.size := by omega
        have hr : true = R := by
          rw [← HR2.out]
          have ha := HA.out
          rw [List.take_of_length_le (by rw [HSL.out]; exact Nat.le_refl _)] at ha
          exact ha.symm
        subst hr
        go_wp2
        go_ret
        exact ⟨rfl, rfl⟩

set_option maxRecDepth 100000 in
set_option maxHeartbeats 4000000 in
theorem checkWind_c (v : Value) (n : Nat) (X : Nat → Int) (hn : n ≤ 1099511627776) (w : World) (h : Wd w v n X) :
    Calls Tryz.prog 36 #[v] w fun e w' => e = .returned (.int .i64 (wdE X n)) ∧ w' = w := by
  obtain ⟨R, hR⟩ : ∃ R, wdE X n = R := ⟨_, rfl⟩
  rw [hR]
  have HR := Lib.hid hR
  obtain ⟨sa, cp, rfl⟩ := h.len
  have HW := Lib.hid h
  clear hR h
  go_enter Tryz.func36, Tryz.ntmps36
  go_wp2_with fail
  go_loop [7] (fun i => ∃ k : Nat, k ≤ n ∧ i = .int .i64 (k : Int) ∧ Hid (∀ j, j < k → 0 ≤ X j ∧ X j ≤ 1000000)) (fun i => n - (intOf i).toNat)
  case atStart => exact ⟨0, Nat.zero_le _, rfl, Lib.hid (fun j hj => absurd hj (Nat.not_lt_zero _))⟩
  case round =>
    obtain ⟨k, hk, rfl, hA⟩ := hrel
    by_cases h1 : k < n
    · obtain ⟨g, o, c, e0, hc, hg, c0⟩ := HW.out.at h1
      cases e0
      have hki : (k : Int) < (n : Int) := by omega
      by_cases g1 : X k < 0
      · obtain rfl : R = 3 := by
          rw [← HR.out]; unfold wdE; rw [if_neg (fun h => by have := h k h1; omega)]
        go_wp2
        go_ret
        exact ⟨rfl, rfl⟩
      · by_cases g2 : 1000000 < X k
        · obtain rfl : R = 3 := by
            rw [← HR.out]; unfold wdE; rw [if_neg (fun h => by have := h k h1; omega)]
          go_wp2
          go_ret
          exact ⟨rfl, rfl⟩
        · have HN := Lib.hid (show ∀ j, j < k + 1 → 0 ≤ X j ∧ X j ≤ 1000000 from fun j hj => by
            by_cases e : j = k
            · subst e; omega
            · exact hA.out j (by omega))
          have wk := wrap_in (q := (k : Int) + 1) (by omega) (by omega)
          go_wp2
          go_round
          case rel => exact ⟨k + 1, by omega, by go_num, HN⟩
          case measure => simp [intOf]; omega
    · obtain rfl : k = n := by omega
      obtain rfl : R = 0 := by rw [← HR.out]; unfold wdE; rw [if_pos hA.out]
      go_wp2
      go_ret
      exact ⟨rfl, rfl⟩
end Go.Proofs.YtbkbncapgljfaaaGreatDoor
