/- The reference's Range, and NotesetRanges: the law's walk. -/
import Derived.Test.YtibdnfcbgcbdeaaDoorNsM
namespace Go.Proofs.YtibdnfcbgcbdeaaDoor
open Go Go.RowKit Go.Shelf

set_option maxHeartbeats 4000000 in
theorem rrange_any (l h : Int) (h1 : 0 ≤ l) (h2 : l ≤ h) (h3 : h ≤ 127) (w : World) :
    Calls Tryd.prog 23 #[.agg #[.int .i64 l, .int .i64 h]] w fun e w' => e = .returned (.agg #[.int .u64 (rgLo l h : Nat), .int .u64 (rgHi l h : Nat)]) ∧ Below w.heap.size w w' := by
  have HS := Lib.hid (fun m hm => has_rg l h m hm h1 h2 h3)
  have HL := Lib.hid (rg_lt l h)
  generalize rgLo l h = x at HS HL ⊢
  generalize rgHi l h = y at HS HL ⊢
  obtain ⟨W0, hW0⟩ : ∃ W0, (w.alloc (.cells #[.int .i64 l, .int .i64 h] 40)).alloc (.cells #[.int .u64 0, .int .u64 0] 34) = W0 := ⟨_, rfl⟩
  have sA0 : W0.cell? ⟨w.heap.size, 0, none⟩ = some (.int .i64 l) := by rw [← hW0]; simp
  have sA1 : W0.cell? ⟨w.heap.size, 1, none⟩ = some (.int .i64 h) := by rw [← hW0]; simp
  have sR : SetAt W0 (w.heap.size + 1) 0 0 := by rw [← hW0]; simpa using SetAt.new (w.alloc (.cells #[.int .i64 l, .int .i64 h] 40)) 0 0
  have sO : SetAt (W0.alloc (.cells #[.int .u64 0, .int .u64 0] 34)) (w.heap.size + 1 + 1) 0 0 := by
    have h := SetAt.new W0 0 0
    rw [show W0.heap.size = w.heap.size + 1 + 1 by rw [← hW0]; simp] at h
    exact h
  have hB0 : Below w.heap.size w W0 := by rw [← hW0]; exact ((Below.refl _ _).alloc (Nat.le_refl _) _).alloc (by simp) _
  have hz0 : W0.heap.size = w.heap.size + 1 + 1 := by rw [← hW0]; simp
  have HZ := Lib.hid hz0
  have HW := Lib.hid hW0
  have SA0 := Lib.hid sA0
  have SA1 := Lib.hid sA1
  clear hz0 hW0 sA0 sA1
  go_enter Tryd.func23, Tryd.ntmps23
  go_wp2
  go_loopw [4] (fun i wr => ∃ (k ol oh : Nat), l + k ≤ h + 1 ∧ i = .int .i64 (l + (k : Int)) ∧ SetAt wr (w.heap.size + 1 + 1) ol oh ∧ ol < 18446744073709551616 ∧ oh < 18446744073709551616 ∧ Hid (∀ m, m < 128 → Ns.has ol oh m = decide (l ≤ (m : Int) ∧ (m : Int) < l + k)) ∧
      Below (w.heap.size + 1 + 1) W0 wr) (fun i _ => (h + 1 - intOf i).toNat)
  case atStart =>
    rw [HW.out]
    exact ⟨0, 0, 0, by omega, by simp, sO, by decide, by decide, fun m hm => by
      rw [show Ns.has 0 0 m = false by unfold Ns.has; split <;> exact Nat.zero_testBit _, decide_eq_false (by omega)], (Below.refl _ _).alloc (by rw [HZ.out]; exact Nat.le_refl _) _⟩
  case round =>
    obtain ⟨k, ol, oh, hk, rfl, hs, hol, hoh, hI, hw⟩ := hrel
    have a0 : wr.cell? ⟨w.heap.size, 0, none⟩ = some (.int .i64 l) := (hw.cell (p := ⟨w.heap.size, 0, none⟩) (show w.heap.size < w.heap.size + 1 + 1 by omega)).trans SA0.out
    have a1 : wr.cell? ⟨w.heap.size, 1, none⟩ = some (.int .i64 h) := (hw.cell (p := ⟨w.heap.size, 1, none⟩) (show w.heap.size < w.heap.size + 1 + 1 by omega)).trans SA1.out
    have r2 := sR.below (by omega) hw
    have g0 := r2.fst
    have g1 := r2.snd
    have g2 := r2.f0
    have g3 := r2.f1
    have o0 := hs.fst
    have o1 := hs.snd
    have o2 := hs.f0
    have o3 := hs.f1
    have o4 := hs.lt
    have hzw : w.heap.size + 1 + 1 ≤ wr.heap.size := by rw [← HZ.out]; exact hw.size
    by_cases hlt : l + (k : Int) ≤ h
    · obtain ⟨z, hz⟩ : ∃ z : Nat, l + (k : Int) = (z : Int) := ⟨(l + (k : Int)).toNat, by omega⟩
      have hz128 : z < 128 := by omega
      have nI : ∀ m, m < 128 → Ns.has (ol ||| Ns.sLo z) (oh ||| Ns.sHi z) m = decide (l ≤ (m : Int) ∧ (m : Int) < l + (k + 1 : Nat)) := fun m hm => by
        rw [Ns.has_or, hI.out m hm, Ns.has_single z m hz128 hm, Bool.eq_iff_iff]
        simp
        omega
      have NI := Lib.hid nI
      have e1 : IntKind.i64.wrap ((z : Int) + 1) = (z : Int) + 1 := by rw [IntKind.wrap_i64]; omega
      have hzh : (z : Int) ≤ h := by omega
      have HE := Lib.hid hz
      rw [hz]
      clear nI hI hz hlt
      go_wp2_with fail
      refine (with_any ol oh z hz128 hol hoh _).mono ?_
      rintro e w3 ⟨rfl, hb3⟩
      have t6 := hs.below o4 hb3
      have y0 := t6.fst
      have y1 := t6.snd
      have y2 := t6.f0
      have y3 := t6.f1
      have y4 := t6.lt
      go_wp2
      have t7 := t6.put (ol ||| Ns.sLo z) (oh ||| Ns.sHi z)
      go_roundw
      case rel =>
        exact ⟨k + 1, _, _, by have := HE.out; omega, by rw [← HE.out]; simp [Int.add_assoc], t7, Ns.or_lt hol (Ns.sLo_lt z), Ns.or_lt hoh (Ns.sHi_lt z hz128), NI.out, ((hw.trans (hb3.mono (by omega))).setCell (p := ⟨w.heap.size + 1 + 1, 0, none⟩) (Nat.le_refl _) _).setCell (p := ⟨w.heap.size + 1 + 1, 1, none⟩) (Nat.le_refl _) _⟩
      case measure =>
        simp [intOf]
        omega
    · have hxy : ol = x ∧ oh = y := Ns.ext hol hoh HL.out.1 HL.out.2 (fun m hm => by rw [hI.out m hm, HS.out m hm, decide_eq_decide]; omega)
      obtain ⟨rfl, rfl⟩ := hxy
      go_wp2
      have hq := r2.put ol oh
      have q0 := hq.fst
      have q1 := hq.snd
      refine bodyPost_ret (v := .agg #[.int .u64 (ol : Nat), .int .u64 (oh : Nat)]) (by simp [results, Tryd.results23, go_sem, q0, q1]) rfl ⟨rfl, ?_⟩
      exact ((hB0.trans (hw.mono (by omega))).setCell (p := ⟨w.heap.size + 1, 0, none⟩) (Nat.le_succ _) _).setCell (p := ⟨w.heap.size + 1, 1, none⟩) (Nat.le_succ _) _

set_option maxHeartbeats 2000000 in
theorem ranges_walk (l h : Int) (w : World) (G : Gl w) :
    Calls Tryd.prog 5 #[.agg #[.int .i64 l, .int .i64 h]] w fun e w' => e = .returned (.bool true) ∧ Below w.heap.size w w' := by
  have K := Lib.hid (fun W g => known_any W g)
  have GB := Lib.hid (fun o => G.below ((Below.refl _ _).alloc (Nat.le_refl _) o))
  have R := Lib.hid (fun W => right_any l h W)
  have C := Lib.hid (fun W => check_any l h W)
  clear G
  by_cases he : compE l h = 0
  · have hlh : 0 ≤ l ∧ l ≤ h ∧ h ≤ 127 := by
      unfold compE at he
      split at he
      · omega
      · split at he
        · omega
        · omega
    rw [he] at R C
    have RG := Lib.hid (fun W => range_ok l h hlh.1 hlh.2.1 hlh.2.2 W)
    have RR := Lib.hid (fun W => rrange_any l h hlh.1 hlh.2.1 hlh.2.2 W)
    generalize rgLo l h = x at RG RR
    generalize rgHi l h = y at RG RR
    clear he hlh
    go_enter Tryd.func5, Tryd.ntmps5
    go_wp2_with fail
    refine (K.out _ (GB.out _)).mono ?_
    rintro e w1 ⟨rfl, hb1⟩
    have k0 := (bcell hb1).1 w.heap.size 0 (by simp)
    have k1 := (bcell hb1).1 w.heap.size 1 (by simp)
    have z1 := hb1.size
    simp at k0 k1 z1
    have hB1 : Below w.heap.size w w1 := ((Below.refl _ _).alloc (Nat.le_refl _) _).trans (hb1.mono (by simp))
    go_wp2_with fail
    refine (R.out _).mono ?_
    rintro e w2 ⟨rfl, rfl⟩
    have hbA : Below w1.heap.size w1 (w1.alloc (.cells #[.int .i64 l, .int .i64 h] 40)) := (Below.refl _ _).alloc (Nat.le_refl _) _
    have n0 := ((hbA.cell (p := ⟨w.heap.size, 0, none⟩) (show w.heap.size < w1.heap.size by omega)).trans k0)
    have n1 := ((hbA.cell (p := ⟨w.heap.size, 1, none⟩) (show w.heap.size < w1.heap.size by omega)).trans k1)
    go_wp2_with fail
    refine (RG.out _).mono ?_
    rintro e w3 ⟨rfl, hb3⟩
    have m0 := ((bcell hb3).1 w.heap.size 0 (by simp; omega)).trans n0
    have m1 := ((bcell hb3).1 w.heap.size 1 (by simp; omega)).trans n1
    have z3 := hb3.size
    simp at z3
    have hbB : Below w3.heap.size w3 (w3.alloc (.cells #[.int .u64 x, .int .u64 y] 34)) := (Below.refl _ _).alloc (Nat.le_refl _) _
    have p0 := ((hbB.cell (p := ⟨w.heap.size, 0, none⟩) (show w.heap.size < w3.heap.size by omega)).trans m0)
    have p1 := ((hbB.cell (p := ⟨w.heap.size, 1, none⟩) (show w.heap.size < w3.heap.size by omega)).trans m1)
    go_wp2_with fail
    refine (C.out _).mono ?_
    rintro e w4 ⟨rfl, rfl⟩
    go_wp2_with fail
    obtain ⟨V, hV⟩ : ∃ V, ((w3.alloc (.cells #[.int .u64 x, .int .u64 y] 34)).alloc (.cells #[.int .i64 l, .int .i64 h] 40)) = V := ⟨_, rfl⟩
    have hbV : Below w3.heap.size w3 V := by rw [← hV]; exact ((Below.refl _ _).alloc (Nat.le_refl _) _).alloc (by simp) _
    have s4 : SetAt V w3.heap.size x y := by rw [← hV]; exact (SetAt.new w3 x y).below (SetAt.new w3 x y).lt ((Below.refl _ _).alloc (Nat.le_refl _) _)
    have v0 := ((hbV.cell (p := ⟨w.heap.size, 0, none⟩) (show w.heap.size < w3.heap.size by omega)).trans m0)
    have v1 := ((hbV.cell (p := ⟨w.heap.size, 1, none⟩) (show w.heap.size < w3.heap.size by omega)).trans m1)
    have vl : w.heap.size < V.heap.size := Nat.lt_of_lt_of_le (by omega) hbV.size
    have hBV : Below w.heap.size w V := ((hB1.trans (hbA.mono (by omega))).trans (hb3.mono (by simp; omega))).trans (hbV.mono (by omega))
    rw [hV]
    clear hV m0 m1 n0 n1 p0 p1 k0 k1 hbV hb1 hbA hbB
    have HS := Lib.hid (show ∀ W : World, Below V.heap.size V W → (W.cell? ⟨w.heap.size, 0, none⟩ = some (.int .i64 l) ∧ W.cell? ⟨w.heap.size, 1, none⟩ = some (.int .i64 h) ∧ W.cell? ⟨w3.heap.size, 0, none⟩ = some (.int .u64 x) ∧ W.cell? ⟨w3.heap.size, 1, none⟩ = some (.int .u64 y) ∧ Below V.heap.size V W) from fun W hW => ⟨(hW.cell (p := ⟨w.heap.size, 0, none⟩) vl).trans v0, (hW.cell (p := ⟨w.heap.size, 1, none⟩) vl).trans v1, (s4.below s4.lt hW).fst, (s4.below s4.lt hW).snd, hW⟩)
    have HN := Lib.hid (show ∀ W W' : World, Below W.heap.size W W' → (W.cell? ⟨w.heap.size, 0, none⟩ = some (.int .i64 l) ∧ W.cell? ⟨w.heap.size, 1, none⟩ = some (.int .i64 h) ∧ W.cell? ⟨w3.heap.size, 0, none⟩ = some (.int .u64 x) ∧ W.cell? ⟨w3.heap.size, 1, none⟩ = some (.int .u64 y) ∧ Below V.heap.size V W) → Below V.heap.size V W' from fun W W' hb h => h.2.2.2.2.trans (hb.mono h.2.2.2.2.size))
    go_region_held3 (fun W => W.cell? ⟨w.heap.size, 0, none⟩ = some (.int .i64 l) ∧ W.cell? ⟨w.heap.size, 1, none⟩ = some (.int .i64 h) ∧ W.cell? ⟨w3.heap.size, 0, none⟩ = some (.int .u64 x) ∧ W.cell? ⟨w3.heap.size, 1, none⟩ = some (.int .u64 y) ∧ Below V.heap.size V W) ((refine HS.out _ ?_; repeat' (first | (with_reducible exact hB3) | (with_reducible exact (Below.refl _ _).drew) | (with_reducible exact Below.refl _ _) | (with_reducible refine Below.drew ?_))))
      ((go_at_call 23; refine (RR.out _).mono ?_; rintro e w5 ⟨rfl, hb5⟩; have hB3 := HN.out _ _ hb5 (by assumption)))
    all_goals
      go_wp2
      go_ret
      exact ⟨rfl, hBV.trans (hB3.mono (by omega))⟩
  · have RG := Lib.hid (fun W => range_bad l h he W)
    generalize compE l h = z at R C RG he
    have hne : (z != 0) = true := by simp [he]
    have hz : z ≠ 0 := he
    clear he
    go_enter Tryd.func5, Tryd.ntmps5
    go_wp2_with fail
    refine (K.out _ (GB.out _)).mono ?_
    rintro e w1 ⟨rfl, hb1⟩
    have k0 := (bcell hb1).1 w.heap.size 0 (by simp)
    have k1 := (bcell hb1).1 w.heap.size 1 (by simp)
    have z1 := hb1.size
    simp at k0 k1 z1
    have hB1 : Below w.heap.size w w1 := ((Below.refl _ _).alloc (Nat.le_refl _) _).trans (hb1.mono (by simp))
    go_wp2_with fail
    refine (R.out _).mono ?_
    rintro e w2 ⟨rfl, rfl⟩
    have hbA : Below w1.heap.size w1 (w1.alloc (.cells #[.int .i64 l, .int .i64 h] 40)) := (Below.refl _ _).alloc (Nat.le_refl _) _
    have n0 := ((hbA.cell (p := ⟨w.heap.size, 0, none⟩) (show w.heap.size < w1.heap.size by omega)).trans k0)
    have n1 := ((hbA.cell (p := ⟨w.heap.size, 1, none⟩) (show w.heap.size < w1.heap.size by omega)).trans k1)
    go_wp2_with fail
    refine (RG.out _).mono ?_
    rintro e w3 ⟨rfl, hb3⟩
    have m0 := ((bcell hb3).1 w.heap.size 0 (by simp; omega)).trans n0
    have m1 := ((bcell hb3).1 w.heap.size 1 (by simp; omega)).trans n1
    have z3 := hb3.size
    simp at z3
    have hbB : Below w3.heap.size w3 (w3.alloc (.cells #[.int .u64 0, .int .u64 0] 34)) := (Below.refl _ _).alloc (Nat.le_refl _) _
    have p0 := ((hbB.cell (p := ⟨w.heap.size, 0, none⟩) (show w.heap.size < w3.heap.size by omega)).trans m0)
    have p1 := ((hbB.cell (p := ⟨w.heap.size, 1, none⟩) (show w.heap.size < w3.heap.size by omega)).trans m1)
    go_wp2_with fail
    refine (C.out _).mono ?_
    rintro e w4 ⟨rfl, rfl⟩
    go_wp2
    go_ret
    refine ⟨rfl, ((hB1.trans (hbA.mono (by omega))).trans (hb3.mono (by simp; omega))).trans ?_⟩
    exact ((Below.refl _ _).alloc (by omega) _).alloc (by simp; omega) _
end Go.Proofs.YtibdnfcbgcbdeaaDoor
