/- The walk of PitchRow. -/
import Derived.Test.YtkoljddejjfbiaaGreatDoorPtS
namespace Go.Proofs.YtkoljddejjfbiaaGreatDoor
open Go Go.RowKit Go.Shelf

def rwA (g1 cap1 mj k : Nat) (x y s : Int) : Nat → Value → World → Prop
  | 0, v, _ => v = .slice (some ⟨g1, 0, none⟩) 22 cap1
  | 1, v, _ => v = .int .i64 (k : Int)
  | 2, v, _ => v = .int .i64 (mj : Int)
  | 3, v, _ => v = .pointer (some ⟨g1, mj * 2, none⟩)
  | 4, v, _ => v = .agg #[.int .i64 x, .int .i64 y]
  | 5, v, _ => v = .agg #[.int .i64 8, .int .i64 1]
  | 6, v, _ => v = .tuple #[.int .i64 s, .int .i64 0]
  | 7, v, _ => v = .tuple #[.int .i64 s, .int .i64 0]
  | 8, v, _ => v = .int .i64 s
  | 9, v, _ => v = .int .i64 0
  | 10, v, _ => v = .int .i64 s
  | 11, v, _ => v = .int .i64 0
  | _, _, _ => True

theorem rwA_up (g1 cap1 mj k : Nat) (x y s : Int) : ∀ (j : Nat) (v : Value) (A B : World), Below A.heap.size A B → rwA g1 cap1 mj k x y s j v A → rwA g1 cap1 mj k x y s j v B
  | 0, _, _, _, _, h => h
  | 1, _, _, _, _, h => h
  | 2, _, _, _, _, h => h
  | 3, _, _, _, _, h => h
  | 4, _, _, _, _, h => h
  | 5, _, _, _, _, h => h
  | 6, _, _, _, _, h => h
  | 7, _, _, _, _, h => h
  | 8, _, _, _, _, h => h
  | 9, _, _, _, _, h => h
  | 10, _, _, _, _, h => h
  | 11, _, _, _, _, h => h
  | _ + 12, _, _, _, _, _ => trivial

def rwB (g1 cap1 k : Nat) (x' y' s' : Int) : Nat → Value → World → Prop
  | 0, v, _ => v = .slice (some ⟨g1, 0, none⟩) 22 cap1
  | 1, v, _ => v = .int .i64 (k : Int)
  | 2, v, _ => v = .pointer (some ⟨g1, k * 2, none⟩)
  | 3, v, _ => v = .agg #[.int .i64 x', .int .i64 y']
  | 4, v, _ => v = .agg #[.int .i64 8, .int .i64 1]
  | 5, v, _ => v = .tuple #[.int .i64 s', .int .i64 0]
  | 6, v, _ => v = .tuple #[.int .i64 s', .int .i64 0]
  | 7, v, _ => v = .int .i64 s'
  | 8, v, _ => v = .int .i64 0
  | 9, v, _ => v = .int .i64 s'
  | 10, v, _ => v = .int .i64 0
  | _, _, _ => True

theorem rwB_up (g1 cap1 k : Nat) (x' y' s' : Int) : ∀ (j : Nat) (v : Value) (A B : World), Below A.heap.size A B → rwB g1 cap1 k x' y' s' j v A → rwB g1 cap1 k x' y' s' j v B
  | 0, _, _, _, _, h => h
  | 1, _, _, _, _, h => h
  | 2, _, _, _, _, h => h
  | 3, _, _, _, _, h => h
  | 4, _, _, _, _, h => h
  | 5, _, _, _, _, h => h
  | 6, _, _, _, _, h => h
  | 7, _, _, _, _, h => h
  | 8, _, _, _, _, h => h
  | 9, _, _, _, _, h => h
  | 10, _, _, _, _, h => h
  | _ + 11, _, _, _, _, _ => trivial

def rwC (g1 cap1 k : Nat) (x' y' : Int) : Nat → Value → World → Prop
  | 0, v, _ => v = .agg #[.int .i64 x', .int .i64 y']
  | 1, v, _ => v = .slice (some ⟨g1, 0, none⟩) 22 cap1
  | 2, v, _ => v = .int .i64 (k : Int)
  | 3, v, _ => v = .pointer (some ⟨g1, k * 2, none⟩)
  | 4, v, _ => v = .agg #[.int .i64 x', .int .i64 y']
  | 5, v, _ => v = .bool true
  | 6, v, _ => v = .bool true
  | _, _, _ => True

theorem rwC_up (g1 cap1 k : Nat) (x' y' : Int) : ∀ (j : Nat) (v : Value) (A B : World), Below A.heap.size A B → rwC g1 cap1 k x' y' j v A → rwC g1 cap1 k x' y' j v B
  | 0, _, _, _, _, h => h
  | 1, _, _, _, _, h => h
  | 2, _, _, _, _, h => h
  | 3, _, _, _, _, h => h
  | 4, _, _, _, _, h => h
  | 5, _, _, _, _, h => h
  | 6, _, _, _, _, h => h
  | _ + 7, _, _, _, _, _ => trivial

/-- Two neighbours among the usual feet. -/
theorem row_pair : ∀ (j : Nat), j < 21 → ∃ (x y s x' y' s' : Int), us.drop j = (x, y, s) :: us.drop (j + 1) ∧ us.drop (j + 1) = (x', y', s') :: us.drop (j + 1 + 1) ∧ s < s' ∧ (∀ t ∈ us.take (j + 1), t.2.2 ≠ s')
  | 0, _ => ⟨64, 1, -36, 32, 1, -24, rfl, rfl, by decide, by decide⟩
  | 1, _ => ⟨32, 1, -24, 64, 3, -17, rfl, rfl, by decide, by decide⟩
  | 2, _ => ⟨64, 3, -17, 16, 1, -12, rfl, rfl, by decide, by decide⟩
  | 3, _ => ⟨16, 1, -12, 64, 5, -8, rfl, rfl, by decide, by decide⟩
  | 4, _ => ⟨64, 5, -8, 32, 3, -5, rfl, rfl, by decide, by decide⟩
  | 5, _ => ⟨32, 3, -5, 8, 1, 0, rfl, rfl, by decide, by decide⟩
  | 6, _ => ⟨8, 1, 0, 32, 5, 4, rfl, rfl, by decide, by decide⟩
  | 7, _ => ⟨32, 5, 4, 16, 3, 7, rfl, rfl, by decide, by decide⟩
  | 8, _ => ⟨16, 3, 7, 4, 1, 12, rfl, rfl, by decide, by decide⟩
  | 9, _ => ⟨4, 1, 12, 16, 5, 16, rfl, rfl, by decide, by decide⟩
  | 10, _ => ⟨16, 5, 16, 8, 3, 19, rfl, rfl, by decide, by decide⟩
  | 11, _ => ⟨8, 3, 19, 16, 7, 22, rfl, rfl, by decide, by decide⟩
  | 12, _ => ⟨16, 7, 22, 2, 1, 24, rfl, rfl, by decide, by decide⟩
  | 13, _ => ⟨2, 1, 24, 8, 5, 28, rfl, rfl, by decide, by decide⟩
  | 14, _ => ⟨8, 5, 28, 4, 3, 31, rfl, rfl, by decide, by decide⟩
  | 15, _ => ⟨4, 3, 31, 8, 7, 34, rfl, rfl, by decide, by decide⟩
  | 16, _ => ⟨8, 7, 34, 1, 1, 36, rfl, rfl, by decide, by decide⟩
  | 17, _ => ⟨1, 1, 36, 4, 5, 40, rfl, rfl, by decide, by decide⟩
  | 18, _ => ⟨4, 5, 40, 2, 3, 43, rfl, rfl, by decide, by decide⟩
  | 19, _ => ⟨2, 3, 43, 1, 2, 48, rfl, rfl, by decide, by decide⟩
  | 20, _ => ⟨1, 2, 48, 1, 4, 60, rfl, rfl, by decide, by decide⟩
  | k + 21, h => by omega
theorem ft_hit2 {n x y : Int} {k : Nat} (hk : k < 22) (hd : us.drop k = (x, y, n) :: us.drop (k + 1)) (hp : ∀ t ∈ us.take k, t.2.2 ≠ n) : ftV n = .tuple #[.agg #[.int .i64 x, .int .i64 y], .int .i64 0] := by
  unfold ftV; rw [find_hit (us_split hd hk).1 hp rfl]
structure UsW (W : World) (g : Nat) : Prop where
  lt : g < W.heap.size
  row : UsAt W g
  fr : ∀ j, j < 44 → W.frozen? ⟨g, j, none⟩ = false
theorem UsW.below {A B : World} {g C : Nat} (h : UsW A g) (hg : g < C) (hb : Below C A B) : UsW B g :=
  ⟨Nat.lt_of_lt_of_le h.1 hb.size, h.row.below hg hb, fun j hj => by rw [← h.fr j hj]; exact hb.frozen (p := ⟨g, j, none⟩) hg⟩
theorem UsW.at {W : World} {g k : Nat} {x y s : Int} (h : UsW W g) (hk : k < 22) (hd : us.drop k = (x, y, s) :: us.drop (k + 1)) : W.cell? ⟨g, k * 2, none⟩ = some (.int .i64 x) ∧ W.cell? ⟨g, k * 2 + 1, none⟩ = some (.int .i64 y) := h.row.at hk hd
theorem UsW.of {W : World} {g : Nat} {cur : Array Value} {T : TypeId} (hp : W.heap[g]? = some (.cells cur T (0, 0))) (hu : UsAt W g) : UsW W g :=
  ⟨hu.1, hu, fun j _ => by simp [World.frozen?, hp]⟩
theorem fr_eq3 (x y : Int) : ∀ W : World, (binOp .eql 23 (.agg #[.int .i64 x, .int .i64 y]) (.agg #[.int .i64 x, .int .i64 y])).run Tryz.prog W = .ok (.bool true) W := by
  intro W; simp [go_sem]

set_option maxRecDepth 100000 in
set_option maxHeartbeats 8000000 in
theorem row_law (i : Int) (h0 : 0 ≤ i) (h1 : i ≤ 255) (w : World) (P : Pg w) (U : Us w) : Calls Tryz.prog 9 #[.int .u8 i] w fun e w' => e = .returned (.bool true) ∧ Below w.heap.size w w' := by
  have KN := Lib.hid (fun W P => pknown_c W P)
  have US := Lib.hid (fun W U => usual_c W U)
  have F81 := Lib.hid (fun W => f_lit 8 1 W (by decide +kernel))
  have F31 := Lib.hid (fun W => f_lit 3 1 W (by decide +kernel))
  obtain ⟨mj, hj⟩ : ∃ mj : Nat, i.tmod 21 = mj := by
    have := Int.tmod_nonneg 21 h0
    exact ⟨(i.tmod 21).toNat, by omega⟩
  have hj21 : mj < 21 := by
    have := Int.tmod_lt_of_pos i (show (0 : Int) < 21 by decide)
    omega
  obtain ⟨x, y, s, x', y', s', hd, hd', hss, hp⟩ := row_pair mj hj21
  obtain ⟨k, hk⟩ : ∃ k : Nat, mj + 1 = k := ⟨_, rfl⟩
  have hk22 : k < 22 := by omega
  rw [hk] at hd' hp
  have HK := Lib.hid hk
  have ok := us_ok (mem_us hd)
  have ok' := us_ok (mem_us hd')
  have SA := Lib.hid (fun W G => pshift_ok x y 8 1 s ok.pk pk_81 ok.sh W G)
  have SB := Lib.hid (fun W G => pshift_ok x' y' 8 1 s' ok'.pk pk_81 ok'.sh W G)
  have FE := Lib.hid (fun W P U => feet_c s' W P U)
  rw [ft_hit2 hk22 hd' hp] at FE
  have HEQ := Lib.hid (fr_eq3 x' y')
  have HD := Lib.hid hd
  have HD' := Lib.hid hd'
  have hki : (k : Int) < 22 := by omega
  have hk0 : (0 : Int) ≤ (k : Int) := by omega
  have hjj : (mj : Int) < 22 := by omega
  have e21 : 1 + (mj : Int) = (k : Int) := by omega
  have e20 : (k : Int) - 1 = (mj : Int) := by omega
  have wi := wrap_in (q := i) (by omega) (by omega)
  have wk := wrap_in (q := (k : Int)) (by omega) (by omega)
  have wj := wrap_in (q := (mj : Int)) (by omega) (by omega)
  have hj22 : mj < 22 := by omega
  clear hd hd' hp ok ok' hk
  obtain ⟨D, hD⟩ : ∃ D, w.heap.size = D := ⟨_, rfl⟩
  go_enter Tryz.func9, Tryz.ntmps9
  have P1 : Pg w := P.below (by first | exact (Below.refl _ w) | (rw [hD]; exact (Below.refl _ w)))
  go_wp2_with fail
  refine (KN.out _ P1).mono ?_
  rintro e v1 ⟨rfl, hb_v1⟩
  have hw_v1 : Below D w v1 := ((Below.refl _ w)).trans (hb_v1.mono (by first | omega | (simp; omega)))
  clear hb_v1
  have U2 : Us v1 := U.below (by first | exact hw_v1 | (rw [hD]; exact hw_v1))
  go_wp2_with fail
  refine (US.out _ U2).mono ?_
  rintro e v2 ⟨⟨g1, cap1, cur1, rfl, hg1, hc1, hp1, hu0⟩, hb_v2⟩
  have hs_v2 := hw_v1.size
  have hw_v2 : Below D w v2 := (hw_v1).trans (hb_v2.mono (by first | omega | (simp; omega)))
  have hu1 := UsW.of hp1 hu0
  have hDg : D ≤ g1 := by have := hw_v1.size; omega
  clear hb_v2 hw_v1 hs_v2
  obtain ⟨V1, hV1⟩ : ∃ V, v2 = V := ⟨_, rfl⟩
  have hw_V1 : Below D w V1 := by rw [← hV1]; exact hw_v2
  have Hhu1_V1 := Lib.hid (show UsW V1 g1 by rw [← hV1]; exact hu1.below hu1.1 (Below.refl _ v2))
  clear hu1
  have PV_V1 : Pg V1 := P.below (by first | exact hw_V1 | (rw [hD]; exact hw_V1))
  have GG_V1 := Lib.hid (fun (W : World) (h : Below V1.heap.size V1 W) => PV_V1.below h)
  clear hw_v2
  go_upto_region 7 with fail
  try rw [hV1]
  refine wp_region_slots_at rfl rfl (fun base ys => (((((((((((base.set 27 (ys 0)).set 28 (ys 1)).set 29 (ys 2)).set 30 (ys 3)).set 31 (ys 4)).set 32 (ys 5)).set 33 (ys 6)).set 26 (ys 7)).set 34 (ys 8)).set 35 (ys 9)).set 5 (ys 10)).set 6 (ys 11)) (BelowI _ (fun A => Below V1.heap.size V1 A) (rwA g1 cap1 mj k x y s)) (fun _ => undef) (by kernel_rfl) (below_start (R := fun A => Below V1.heap.size V1 A) ⟨rfl, rfl, rfl, Nat.le_refl _, fun _ _ => rfl⟩) ?h
  case h =>
    intro FF hFF
    simp only [List.set_cons_succ, List.set_cons_zero] at hFF
    subst hFF
    refine ⟨rfl, ?_, ?_⟩
    refine ⟨?_, ?_⟩
    · refine SlotStep.below (fun A B hb h => h.trans (hb.mono h.size)) (rwA_up g1 cap1 mj k x y s) ?_
      intro ys W hR hd K hK
      go_simp
      have hK2 := hK (.slice (some ⟨g1, 0, none⟩) 22 cap1) _ (Below.refl _ _) rfl
      simp (config := { decide := true }) only [upd, if_true, if_false] at hK2
      exact hK2
    refine ⟨?_, ?_⟩
    · refine SlotStep.below (fun A B hb h => h.trans (hb.mono h.size)) (rwA_up g1 cap1 mj k x y s) ?_
      intro ys W hR hd K hK
      go_simp
      have hK2 := hK (.int .i64 (k : Int)) _ (Below.refl _ _) rfl
      simp (config := { decide := true }) only [upd, if_true, if_false] at hK2
      exact hK2
    refine ⟨?_, ?_⟩
    · refine SlotStep.below (fun A B hb h => h.trans (hb.mono h.size)) (rwA_up g1 cap1 mj k x y s) ?_
      intro ys W hR hd K hK
      have dd1 : ys 1 = (.int .i64 (k : Int)) := hd 1 (by kernel_rfl) (by decide)
      go_simp
      have hK2 := hK (.int .i64 (mj : Int)) _ (Below.refl _ _) rfl
      simp (config := { decide := true }) only [upd, if_true, if_false, dd1] at hK2
      exact hK2
    refine ⟨?_, ?_⟩
    · refine SlotStep.below (fun A B hb h => h.trans (hb.mono h.size)) (rwA_up g1 cap1 mj k x y s) ?_
      intro ys W hR hd K hK
      have dd0 : ys 0 = (.slice (some ⟨g1, 0, none⟩) 22 cap1) := hd 0 (by kernel_rfl) (by decide)
      have dd2 : ys 2 = (.int .i64 (mj : Int)) := hd 2 (by kernel_rfl) (by decide)
      go_simp
      have hK2 := hK (.pointer (some ⟨g1, mj * 2, none⟩)) _ (Below.refl _ _) rfl
      simp (config := { decide := true }) only [upd, if_true, if_false, dd0, dd2] at hK2
      exact hK2
    refine ⟨?_, ?_⟩
    · refine SlotStep.below (fun A B hb h => h.trans (hb.mono h.size)) (rwA_up g1 cap1 mj k x y s) ?_
      intro ys W hR hd K hK
      have dd3 : ys 3 = (.pointer (some ⟨g1, mj * 2, none⟩)) := hd 3 (by kernel_rfl) (by decide)
      obtain ⟨c0, c1⟩ := (Hhu1_V1.out.below Hhu1_V1.out.1 hR).at hj22 HD.out
      go_simp
      have hK2 := hK (.agg #[.int .i64 x, .int .i64 y]) _ (Below.refl _ _) rfl
      simp (config := { decide := true }) only [upd, if_true, if_false, dd3] at hK2
      exact hK2
    refine ⟨?_, ?_⟩
    · refine SlotStep.below (fun A B hb h => h.trans (hb.mono h.size)) (rwA_up g1 cap1 mj k x y s) ?_
      intro ys W hR hd K hK
      go_simp
      refine (F81.out _).mono ?_
      rintro e w5 ⟨rfl, hb5⟩
      have hK2 := hK (.agg #[.int .i64 8, .int .i64 1]) _ hb5 rfl
      simp (config := { decide := true }) only [upd, if_true, if_false] at hK2
      exact hK2
    refine ⟨?_, ?_⟩
    · refine SlotStep.below (fun A B hb h => h.trans (hb.mono h.size)) (rwA_up g1 cap1 mj k x y s) ?_
      intro ys W hR hd K hK
      have dd4 : ys 4 = (.agg #[.int .i64 x, .int .i64 y]) := hd 4 (by kernel_rfl) (by decide)
      have dd5 : ys 5 = (.agg #[.int .i64 8, .int .i64 1]) := hd 5 (by kernel_rfl) (by decide)
      go_simp
      refine (SA.out _ (GG_V1.out W hR).gi).mono ?_
      rintro e w5 ⟨rfl, hb5⟩
      have hK2 := hK (.tuple #[.int .i64 s, .int .i64 0]) _ hb5 rfl
      simp (config := { decide := true }) only [upd, if_true, if_false, dd4, dd5] at hK2
      exact hK2
    refine ⟨?_, ?_⟩
    · refine SlotStep.below (fun A B hb h => h.trans (hb.mono h.size)) (rwA_up g1 cap1 mj k x y s) ?_
      intro ys W hR hd K hK
      have dd6 : ys 6 = (.tuple #[.int .i64 s, .int .i64 0]) := hd 6 (by kernel_rfl) (by decide)
      go_simp
      have hK2 := hK (.tuple #[.int .i64 s, .int .i64 0]) _ (Below.refl _ _) rfl
      simp (config := { decide := true }) only [upd, if_true, if_false, dd6] at hK2
      exact hK2
    refine ⟨?_, ?_⟩
    · refine SlotStep.below (fun A B hb h => h.trans (hb.mono h.size)) (rwA_up g1 cap1 mj k x y s) ?_
      intro ys W hR hd K hK
      have dd7 : ys 7 = (.tuple #[.int .i64 s, .int .i64 0]) := hd 7 (by kernel_rfl) (by decide)
      go_simp
      have hK2 := hK (.int .i64 s) _ (Below.refl _ _) rfl
      simp (config := { decide := true }) only [upd, if_true, if_false, dd7] at hK2
      exact hK2
    refine ⟨?_, ?_⟩
    · refine SlotStep.below (fun A B hb h => h.trans (hb.mono h.size)) (rwA_up g1 cap1 mj k x y s) ?_
      intro ys W hR hd K hK
      have dd7 : ys 7 = (.tuple #[.int .i64 s, .int .i64 0]) := hd 7 (by kernel_rfl) (by decide)
      go_simp
      have hK2 := hK (.int .i64 0) _ (Below.refl _ _) rfl
      simp (config := { decide := true }) only [upd, if_true, if_false, dd7] at hK2
      exact hK2
    refine ⟨?_, ?_⟩
    · refine SlotStep.below (fun A B hb h => h.trans (hb.mono h.size)) (rwA_up g1 cap1 mj k x y s) ?_
      intro ys W hR hd K hK
      have dd8 : ys 8 = (.int .i64 s) := hd 8 (by kernel_rfl) (by decide)
      go_simp
      have hK2 := hK (.int .i64 s) _ (Below.refl _ _) rfl
      simp (config := { decide := true }) only [upd, if_true, if_false, dd8] at hK2
      exact hK2
    refine ⟨?_, ?_⟩
    · refine SlotStep.below (fun A B hb h => h.trans (hb.mono h.size)) (rwA_up g1 cap1 mj k x y s) ?_
      intro ys W hR hd K hK
      have dd9 : ys 9 = (.int .i64 0) := hd 9 (by kernel_rfl) (by decide)
      go_simp
      have hK2 := hK (.int .i64 0) _ (Below.refl _ _) rfl
      simp (config := { decide := true }) only [upd, if_true, if_false, dd9] at hK2
      exact hK2
    trivial
    · intro L5 ys5 U1 hL5 hI5
      obtain ⟨hR5, hj5⟩ := hI5
      have d10_U1 : ys5 10 = (.int .i64 s) := hj5 10 (by decide) (hL5 10 (by decide))
      have d11_U1 : ys5 11 = (.int .i64 0) := hj5 11 (by decide) (hL5 11 (by decide))
      simp only [d10_U1, d11_U1]
      have hu1 : UsW U1 g1 := Hhu1_V1.out.below Hhu1_V1.out.1 hR5
      clear Hhu1_V1
      have hw_U1 : Below D w U1 := hw_V1.trans (hR5.mono (by have := hw_V1.size; first | omega | (simp; omega)))
      clear hj5 hL5 hR5 hw_V1 d10_U1 d11_U1 hV1 GG_V1 PV_V1 
      obtain ⟨V2, hV2⟩ : ∃ V, U1 = V := ⟨_, rfl⟩
      have hw_V2 : Below D w V2 := by rw [← hV2]; exact hw_U1
      have Hhu1_V2 := Lib.hid (show UsW V2 g1 by rw [← hV2]; exact hu1.below hu1.1 (Below.refl _ U1))
      clear hu1
      have PV_V2 : Pg V2 := P.below (by first | exact hw_V2 | (rw [hD]; exact hw_V2))
      have GG_V2 := Lib.hid (fun (W : World) (h : Below V2.heap.size V2 W) => PV_V2.below h)
      clear hw_U1
      go_upto_region 8 with fail
      try rw [hV2]
      refine wp_region_slots_at rfl rfl (fun base ys => ((((((((((base.set 37 (ys 0)).set 38 (ys 1)).set 39 (ys 2)).set 40 (ys 3)).set 41 (ys 4)).set 42 (ys 5)).set 36 (ys 6)).set 43 (ys 7)).set 44 (ys 8)).set 7 (ys 9)).set 8 (ys 10)) (BelowI _ (fun A => Below V2.heap.size V2 A) (rwB g1 cap1 k x' y' s')) (fun _ => undef) (by kernel_rfl) (below_start (R := fun A => Below V2.heap.size V2 A) ⟨rfl, rfl, rfl, Nat.le_refl _, fun _ _ => rfl⟩) ?h
      case h =>
        intro FF hFF
        simp only [List.set_cons_succ, List.set_cons_zero] at hFF
        subst hFF
        refine ⟨rfl, ?_, ?_⟩
        refine ⟨?_, ?_⟩
        · refine SlotStep.below (fun A B hb h => h.trans (hb.mono h.size)) (rwB_up g1 cap1 k x' y' s') ?_
          intro ys W hR hd K hK
          go_simp
          have hK2 := hK (.slice (some ⟨g1, 0, none⟩) 22 cap1) _ (Below.refl _ _) rfl
          simp (config := { decide := true }) only [upd, if_true, if_false] at hK2
          exact hK2
        refine ⟨?_, ?_⟩
        · refine SlotStep.below (fun A B hb h => h.trans (hb.mono h.size)) (rwB_up g1 cap1 k x' y' s') ?_
          intro ys W hR hd K hK
          go_simp
          have hK2 := hK (.int .i64 (k : Int)) _ (Below.refl _ _) rfl
          simp (config := { decide := true }) only [upd, if_true, if_false] at hK2
          exact hK2
        refine ⟨?_, ?_⟩
        · refine SlotStep.below (fun A B hb h => h.trans (hb.mono h.size)) (rwB_up g1 cap1 k x' y' s') ?_
          intro ys W hR hd K hK
          have dd0 : ys 0 = (.slice (some ⟨g1, 0, none⟩) 22 cap1) := hd 0 (by kernel_rfl) (by decide)
          have dd1 : ys 1 = (.int .i64 (k : Int)) := hd 1 (by kernel_rfl) (by decide)
          go_simp
          have hK2 := hK (.pointer (some ⟨g1, k * 2, none⟩)) _ (Below.refl _ _) rfl
          simp (config := { decide := true }) only [upd, if_true, if_false, dd0, dd1] at hK2
          exact hK2
        refine ⟨?_, ?_⟩
        · refine SlotStep.below (fun A B hb h => h.trans (hb.mono h.size)) (rwB_up g1 cap1 k x' y' s') ?_
          intro ys W hR hd K hK
          have dd2 : ys 2 = (.pointer (some ⟨g1, k * 2, none⟩)) := hd 2 (by kernel_rfl) (by decide)
          obtain ⟨c0, c1⟩ := (Hhu1_V2.out.below Hhu1_V2.out.1 hR).at hk22 HD'.out
          go_simp
          have hK2 := hK (.agg #[.int .i64 x', .int .i64 y']) _ (Below.refl _ _) rfl
          simp (config := { decide := true }) only [upd, if_true, if_false, dd2] at hK2
          exact hK2
        refine ⟨?_, ?_⟩
        · refine SlotStep.below (fun A B hb h => h.trans (hb.mono h.size)) (rwB_up g1 cap1 k x' y' s') ?_
          intro ys W hR hd K hK
          go_simp
          refine (F81.out _).mono ?_
          rintro e w5 ⟨rfl, hb5⟩
          have hK2 := hK (.agg #[.int .i64 8, .int .i64 1]) _ hb5 rfl
          simp (config := { decide := true }) only [upd, if_true, if_false] at hK2
          exact hK2
        refine ⟨?_, ?_⟩
        · refine SlotStep.below (fun A B hb h => h.trans (hb.mono h.size)) (rwB_up g1 cap1 k x' y' s') ?_
          intro ys W hR hd K hK
          have dd3 : ys 3 = (.agg #[.int .i64 x', .int .i64 y']) := hd 3 (by kernel_rfl) (by decide)
          have dd4 : ys 4 = (.agg #[.int .i64 8, .int .i64 1]) := hd 4 (by kernel_rfl) (by decide)
          go_simp
          refine (SB.out _ (GG_V2.out W hR).gi).mono ?_
          rintro e w5 ⟨rfl, hb5⟩
          have hK2 := hK (.tuple #[.int .i64 s', .int .i64 0]) _ hb5 rfl
          simp (config := { decide := true }) only [upd, if_true, if_false, dd3, dd4] at hK2
          exact hK2
        refine ⟨?_, ?_⟩
        · refine SlotStep.below (fun A B hb h => h.trans (hb.mono h.size)) (rwB_up g1 cap1 k x' y' s') ?_
          intro ys W hR hd K hK
          have dd5 : ys 5 = (.tuple #[.int .i64 s', .int .i64 0]) := hd 5 (by kernel_rfl) (by decide)
          go_simp
          have hK2 := hK (.tuple #[.int .i64 s', .int .i64 0]) _ (Below.refl _ _) rfl
          simp (config := { decide := true }) only [upd, if_true, if_false, dd5] at hK2
          exact hK2
        refine ⟨?_, ?_⟩
        · refine SlotStep.below (fun A B hb h => h.trans (hb.mono h.size)) (rwB_up g1 cap1 k x' y' s') ?_
          intro ys W hR hd K hK
          have dd6 : ys 6 = (.tuple #[.int .i64 s', .int .i64 0]) := hd 6 (by kernel_rfl) (by decide)
          go_simp
          have hK2 := hK (.int .i64 s') _ (Below.refl _ _) rfl
          simp (config := { decide := true }) only [upd, if_true, if_false, dd6] at hK2
          exact hK2
        refine ⟨?_, ?_⟩
        · refine SlotStep.below (fun A B hb h => h.trans (hb.mono h.size)) (rwB_up g1 cap1 k x' y' s') ?_
          intro ys W hR hd K hK
          have dd6 : ys 6 = (.tuple #[.int .i64 s', .int .i64 0]) := hd 6 (by kernel_rfl) (by decide)
          go_simp
          have hK2 := hK (.int .i64 0) _ (Below.refl _ _) rfl
          simp (config := { decide := true }) only [upd, if_true, if_false, dd6] at hK2
          exact hK2
        refine ⟨?_, ?_⟩
        · refine SlotStep.below (fun A B hb h => h.trans (hb.mono h.size)) (rwB_up g1 cap1 k x' y' s') ?_
          intro ys W hR hd K hK
          have dd7 : ys 7 = (.int .i64 s') := hd 7 (by kernel_rfl) (by decide)
          go_simp
          have hK2 := hK (.int .i64 s') _ (Below.refl _ _) rfl
          simp (config := { decide := true }) only [upd, if_true, if_false, dd7] at hK2
          exact hK2
        refine ⟨?_, ?_⟩
        · refine SlotStep.below (fun A B hb h => h.trans (hb.mono h.size)) (rwB_up g1 cap1 k x' y' s') ?_
          intro ys W hR hd K hK
          have dd8 : ys 8 = (.int .i64 0) := hd 8 (by kernel_rfl) (by decide)
          go_simp
          have hK2 := hK (.int .i64 0) _ (Below.refl _ _) rfl
          simp (config := { decide := true }) only [upd, if_true, if_false, dd8] at hK2
          exact hK2
        trivial
        · intro L5 ys5 U2 hL5 hI5
          obtain ⟨hR5, hj5⟩ := hI5
          have d9_U2 : ys5 9 = (.int .i64 s') := hj5 9 (by decide) (hL5 9 (by decide))
          have d10_U2 : ys5 10 = (.int .i64 0) := hj5 10 (by decide) (hL5 10 (by decide))
          simp only [d9_U2, d10_U2]
          have hu1 : UsW U2 g1 := Hhu1_V2.out.below Hhu1_V2.out.1 hR5
          clear Hhu1_V2
          have hw_U2 : Below D w U2 := hw_V2.trans (hR5.mono (by have := hw_V2.size; first | omega | (simp; omega)))
          clear hj5 hL5 hR5 hw_V2 d9_U2 d10_U2 hV2 GG_V2 PV_V2 
          have P3 : Pg U2 := P.below (by first | exact hw_U2 | (rw [hD]; exact hw_U2))
          have U4 : Us U2 := U.below (by first | exact hw_U2 | (rw [hD]; exact hw_U2))
          go_wp2_with fail
          refine (FE.out _ P3 U4).mono ?_
          rintro e v3 ⟨rfl, hb_v3⟩
          have hs_v3 := hw_U2.size
          have hw_v3 : Below D w v3 := (hw_U2).trans (hb_v3.mono (by first | omega | (simp; omega)))
          have hu2 := hu1.below hu1.1 hb_v3
          clear hb_v3 hw_U2 hs_v3
          obtain ⟨ER, hER⟩ : ∃ E, v3.heap.size = E := ⟨_, rfl⟩
          have hlt2 := hu2.1
          obtain ⟨V3, hV3⟩ : ∃ V, (v3.alloc (.cells #[.int .i64 x', .int .i64 y'] 23)) = V := ⟨_, rfl⟩
          have hw_V3 : Below D w V3 := by rw [← hV3]; exact (hw_v3.alloc (by have := hw_v3.size; first | omega | (simp; omega)) (.cells #[.int .i64 x', .int .i64 y'] 23))
          have HR_V3 := Lib.hid (show V3.heap[ER]? = some (.cells #[.int .i64 x', .int .i64 y'] 23) by rw [← hV3]; exact (heap_new (by first | omega | (simp; omega))))
          have Hhu2_V3 := Lib.hid (show UsW V3 g1 by rw [← hV3]; exact hu2.below hu2.1 ((Below.refl _ v3).alloc (by simp) _))
          clear hu2
          have PV_V3 : Pg V3 := P.below (by first | exact hw_V3 | (rw [hD]; exact hw_V3))
          have GG_V3 := Lib.hid (fun (W : World) (h : Below V3.heap.size V3 W) => PV_V3.below h)
          clear hw_v3
          go_upto_region 10 with fail
          try rw [hV3]
          refine wp_region_slots_at rfl rfl (fun base ys => ((((((base.set 50 (ys 0)).set 51 (ys 1)).set 52 (ys 2)).set 53 (ys 3)).set 54 (ys 4)).set 55 (ys 5)).set 11 (ys 6)) (BelowI _ (fun A => Below V3.heap.size V3 A) (rwC g1 cap1 k x' y')) (fun _ => undef) (by kernel_rfl) (below_start (R := fun A => Below V3.heap.size V3 A) ⟨rfl, rfl, rfl, Nat.le_refl _, fun _ _ => rfl⟩) ?h
          case h =>
            intro FF hFF
            simp only [List.set_cons_succ, List.set_cons_zero] at hFF
            subst hFF
            refine ⟨rfl, ?_, ?_⟩
            refine ⟨?_, ?_⟩
            · refine SlotStep.below (fun A B hb h => h.trans (hb.mono h.size)) (rwC_up g1 cap1 k x' y') ?_
              intro ys W hR hd K hK
              have hl := (hR.block (ER) (Array.getElem?_eq_some_iff.1 HR_V3.out).1).trans HR_V3.out
              have c0 := cell2_0 hl
              have c1 := cell2_1 hl
              go_simp
              have hK2 := hK (.agg #[.int .i64 x', .int .i64 y']) _ (Below.refl _ _) rfl
              simp (config := { decide := true }) only [upd, if_true, if_false] at hK2
              exact hK2
            refine ⟨?_, ?_⟩
            · refine SlotStep.below (fun A B hb h => h.trans (hb.mono h.size)) (rwC_up g1 cap1 k x' y') ?_
              intro ys W hR hd K hK
              go_simp
              have hK2 := hK (.slice (some ⟨g1, 0, none⟩) 22 cap1) _ (Below.refl _ _) rfl
              simp (config := { decide := true }) only [upd, if_true, if_false] at hK2
              exact hK2
            refine ⟨?_, ?_⟩
            · refine SlotStep.below (fun A B hb h => h.trans (hb.mono h.size)) (rwC_up g1 cap1 k x' y') ?_
              intro ys W hR hd K hK
              go_simp
              have hK2 := hK (.int .i64 (k : Int)) _ (Below.refl _ _) rfl
              simp (config := { decide := true }) only [upd, if_true, if_false] at hK2
              exact hK2
            refine ⟨?_, ?_⟩
            · refine SlotStep.below (fun A B hb h => h.trans (hb.mono h.size)) (rwC_up g1 cap1 k x' y') ?_
              intro ys W hR hd K hK
              have dd1 : ys 1 = (.slice (some ⟨g1, 0, none⟩) 22 cap1) := hd 1 (by kernel_rfl) (by decide)
              have dd2 : ys 2 = (.int .i64 (k : Int)) := hd 2 (by kernel_rfl) (by decide)
              go_simp
              have hK2 := hK (.pointer (some ⟨g1, k * 2, none⟩)) _ (Below.refl _ _) rfl
              simp (config := { decide := true }) only [upd, if_true, if_false, dd1, dd2] at hK2
              exact hK2
            refine ⟨?_, ?_⟩
            · refine SlotStep.below (fun A B hb h => h.trans (hb.mono h.size)) (rwC_up g1 cap1 k x' y') ?_
              intro ys W hR hd K hK
              have dd3 : ys 3 = (.pointer (some ⟨g1, k * 2, none⟩)) := hd 3 (by kernel_rfl) (by decide)
              obtain ⟨c0, c1⟩ := (Hhu2_V3.out.below Hhu2_V3.out.1 hR).at hk22 HD'.out
              go_simp
              have hK2 := hK (.agg #[.int .i64 x', .int .i64 y']) _ (Below.refl _ _) rfl
              simp (config := { decide := true }) only [upd, if_true, if_false, dd3] at hK2
              exact hK2
            refine ⟨?_, ?_⟩
            · refine SlotStep.below (fun A B hb h => h.trans (hb.mono h.size)) (rwC_up g1 cap1 k x' y') ?_
              intro ys W hR hd K hK
              have dd0 : ys 0 = (.agg #[.int .i64 x', .int .i64 y']) := hd 0 (by kernel_rfl) (by decide)
              have dd4 : ys 4 = (.agg #[.int .i64 x', .int .i64 y']) := hd 4 (by kernel_rfl) (by decide)
              have he := HEQ.out
              go_simp
              have hK2 := hK (.bool true) _ (Below.refl _ _) rfl
              simp (config := { decide := true }) only [upd, if_true, if_false, dd0, dd4] at hK2
              exact hK2
            refine ⟨?_, ?_⟩
            · refine SlotStep.below (fun A B hb h => h.trans (hb.mono h.size)) (rwC_up g1 cap1 k x' y') ?_
              intro ys W hR hd K hK
              have dd5 : ys 5 = (.bool true) := hd 5 (by kernel_rfl) (by decide)
              go_simp
              have hK2 := hK (.bool true) _ (Below.refl _ _) rfl
              simp (config := { decide := true }) only [upd, if_true, if_false, dd5] at hK2
              exact hK2
            trivial
            · intro L5 ys5 U3 hL5 hI5
              obtain ⟨hR5, hj5⟩ := hI5
              have d6_U3 : ys5 6 = (.bool true) := hj5 6 (by decide) (hL5 6 (by decide))
              simp only [d6_U3]
              have cR_U3 : U3.heap[ER]? = some (.cells #[.int .i64 x', .int .i64 y'] 23) := (hR5.block (ER) (Array.getElem?_eq_some_iff.1 HR_V3.out).1).trans HR_V3.out
              have hu2 : UsW U3 g1 := Hhu2_V3.out.below Hhu2_V3.out.1 hR5
              clear Hhu2_V3
              have hw_U3 : Below D w U3 := hw_V3.trans (hR5.mono (by have := hw_V3.size; first | omega | (simp; omega)))
              clear hj5 hL5 hR5 hw_V3 d6_U3 hV3 GG_V3 PV_V3 HR_V3
              have hu3 := hu2
              go_wp2_with fail
              refine (F31.out _).mono ?_
              rintro e q1 ⟨rfl, hbq⟩
              have hu4 := hu3.below hu3.1 hbq
              obtain ⟨c0, c1⟩ := hu4.at hk22 HD'.out
              have hR4 := (hbq.block _ (Array.getElem?_eq_some_iff.1 cR_U3).1).trans cR_U3
              have hw4 := hw_U3.trans (hbq.mono (by have := hw_U3.size; omega))
              have f0 := hu4.fr (k * 2) (by omega)
              have f1 := hu4.fr (k * 2 + 1) (by omega)
              have hne : ER ≠ g1 := by omega
              have HR4 := Lib.hid hR4
              have HW4 := Lib.hid hw4
              have HU4 := Lib.hid hu4
              clear hbq hR4 hw4 hu4 hu3 hu2 cR_U3 hw_U3
              go_upto_region 12 with fail
              obtain ⟨Z, hZ⟩ : ∃ Z, (q1.setCell ⟨g1, k * 2, none⟩ (.int .i64 3)).setCell ⟨g1, k * 2 + 1, none⟩ (.int .i64 1) = Z := ⟨_, rfl⟩
              have hwZ : Below D w Z := by rw [← hZ]; exact (HW4.out.setCell (p := ⟨g1, k * 2, none⟩) (by show D ≤ g1; omega) _).setCell (p := ⟨g1, k * 2 + 1, none⟩) (by show D ≤ g1; omega) _
              have hRZ : Z.heap[ER]? = some (.cells #[.int .i64 x', .int .i64 y'] 23) := by rw [← hZ]; exact (set_other hne).trans ((set_other hne).trans HR4.out)
              try rw [hZ]
              clear hZ f0 f1 c0 c1
              go_wp2_with fail
              refine (US.out _ (U.below (by first | exact hwZ | (rw [hD]; exact hwZ)))).mono ?_
              rintro e q2 ⟨⟨g2, cap2, cur2, rfl, hg2, hc2, hp2, hu5⟩, hbq⟩
              obtain ⟨c0, c1⟩ := hu5.at hk22 HD'.out
              have hR5 := (hbq.block _ (Array.getElem?_eq_some_iff.1 hRZ).1).trans hRZ
              have r0 := cell2_0 hR5
              have r1 := cell2_1 hR5
              have hw5 := hwZ.trans (hbq.mono (by have := hwZ.size; omega))
              have he := HEQ.out
              have HW5 := Lib.hid (fun q => hw5.trans ((drew_below' q2 q).mono (by have := hw5.size; omega)))
              clear hbq hR5 hw5 hwZ hRZ hu5 hp2 HR4 HW4 HU4
              go_wp2_with fail
              go_quiet (fail)
              go_wp2
              go_ret
              exact ⟨rfl, by first | exact HW5.out _ | (rw [hD]; exact HW5.out _)⟩
end Go.Proofs.YtkoljddejjfbiaaGreatDoor
