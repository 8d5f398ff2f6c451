/- Contracts of the reference's Divisor, RightFraction, Lowest. -/
import Derived.Test.YthdoadkdofgenaaGreatDoorIvK
namespace Go.Proofs.YthdoadkdofgenaaGreatDoor
open Go Go.RowKit Go.Shelf

theorem gcd_tmod2 (a b : Int) : Int.gcd b (a.tmod b) = Int.gcd a b := by rw [Int.gcd_comm b, gcd_tmod', Int.gcd_comm]
set_option maxHeartbeats 1000000 in
theorem rdivisor_any (n m : Int) (w : World) (h1 : -9223372036854775807 ≤ n) (h2 : n ≤ 9223372036854775807) (h3 : -9223372036854775807 ≤ m) (h4 : m ≤ 9223372036854775807) :
    Calls Tryz.prog 54 #[.int .i64 n, .int .i64 m] w fun e w' => e = .returned (.int .i64 (Int.gcd n m : Nat)) ∧ ∃ n, w' = w.drewN n := by
  obtain ⟨g, hg⟩ : ∃ g, Int.gcd n m = g := ⟨_, rfl⟩
  rw [hg]
  go_enter Tryz.func54, Tryz.ntmps54
  go_wp2_with fail
  go_loopw [0, 1] (fun x y wr => ∃ a b : Int, -9223372036854775807 ≤ a ∧ a ≤ 9223372036854775807 ∧ -9223372036854775807 ≤ b ∧ b ≤ 9223372036854775807 ∧ Int.gcd a b = g ∧ x = .int .i64 a ∧ y = .int .i64 b ∧ ∃ n, wr = w.drewN n) (fun _ y _ => (intOf y).natAbs)
  case atStart => exact ⟨n, m, h1, h2, h3, h4, hg, rfl, rfl, 0, rfl⟩
  case round =>
    obtain ⟨a, b, ha1, ha2, hb1, hb2, hgc, rfl, rfl, nn, rfl⟩ := hrel
    have HG := Lib.hid hgc
    clear hgc
    by_cases h : b = 0
    · subst h
      have hb : (a.natAbs : Int) = g := by rw [← HG.out]; simp
      have hmx : max a (-a) = (g : Int) := by omega
      go_wp2
      all_goals
        go_ret
        exact ⟨ret_int (by omega), nn, rfl⟩
    · have ht : ((b : Int) == 0) = false := by rw [beq_eq_false_iff_ne]; exact h
      have ht' : ((b : Int) != 0) = true := by simp [bne, ht]
      have hG := gcd_tmod2 a b
      rw [HG.out] at hG
      have hr1 : (a.tmod b).natAbs < b.natAbs := by rw [Int.natAbs_tmod]; exact Nat.mod_lt _ (by omega)
      obtain ⟨r, hr⟩ : ∃ r, a.tmod b = r := ⟨_, rfl⟩
      rw [hr] at hG hr1
      go_wp2
      go_quiet (fail)
      go_wp2
      exact ⟨⟨b, r, hb1, hb2, by omega, by omega, hG, rfl, rfl, _, World.drewN_drewN _ _ _⟩, hr1⟩

theorem rright_in (n d : Int) (w : World) (h1 : -1000000 ≤ n) (h2 : n ≤ 1000000) (h3 : 1 ≤ d) (h4 : d ≤ 1000000) :
    Calls Tryz.prog 30 #[.agg #[.int .i64 n, .int .i64 d]] w fun e w' => e = .returned (.bool (FracMath.rightB n d)) ∧ Below w.heap.size w w' := by
  have hr : FracMath.rightB n d = decide ((FracMath.gg n d : Int) = 1) := FracMath.right_in h1 h2 h3 h4
  have C := Lib.hid (fun W => rdivisor_any n d W (by omega) (by omega) (by omega) (by omega))
  have eg : Int.gcd n d = FracMath.gg n d := rfl
  rw [eg] at C
  rw [hr]
  clear hr eg
  generalize FracMath.gg n d = g at *
  by_cases ht : g = 1
  · subst ht
    go_enter Tryz.func30, Tryz.ntmps30
    go_wp2_with fail
    refine (C.out _).mono ?_
    rintro e w' ⟨rfl, nn, rfl⟩
    go_wp2
    go_ret
    exact ⟨rfl, ((Below.refl _ w).alloc (Nat.le_refl _) _).trans ((drew_below' _ nn).mono (by simp))⟩
  · have ht' : ((g : Int) == 1) = false := by simp; omega
    have hd : decide ((g : Int) = 1) = false := by simp; omega
    rw [hd]
    clear ht hd
    go_enter Tryz.func30, Tryz.ntmps30
    go_wp2_with fail
    refine (C.out _).mono ?_
    rintro e w' ⟨rfl, nn, rfl⟩
    go_wp2
    go_ret
    exact ⟨rfl, ((Below.refl _ w).alloc (Nat.le_refl _) _).trans ((drew_below' _ nn).mono (by simp))⟩
theorem rright_out (n d : Int) (w : World) (h : ¬ (-1000000 ≤ n ∧ n ≤ 1000000 ∧ 1 ≤ d ∧ d ≤ 1000000)) :
    Calls Tryz.prog 30 #[.agg #[.int .i64 n, .int .i64 d]] w fun e w' => e = .returned (.bool (FracMath.rightB n d)) ∧ Below w.heap.size w w' := by
  rw [FracMath.right_out h]
  by_cases h1 : d < 1
  · clear h
    go_enter Tryz.func30, Tryz.ntmps30
    go_wp2
    go_ret
    exact ⟨rfl, by go_grown⟩
  by_cases h2 : 1000000 < d
  · clear h
    go_enter Tryz.func30, Tryz.ntmps30
    go_wp2
    go_ret
    exact ⟨rfl, by go_grown⟩
  by_cases h4 : n < -1000000
  · clear h
    go_enter Tryz.func30, Tryz.ntmps30
    go_wp2
    go_ret
    exact ⟨rfl, by go_grown⟩
  have h3 : 1000000 < n := by omega
  clear h
  go_enter Tryz.func30, Tryz.ntmps30
  go_wp2
  go_ret
  exact ⟨rfl, by go_grown⟩
theorem rright_any (n d : Int) (w : World) :
    Calls Tryz.prog 30 #[.agg #[.int .i64 n, .int .i64 d]] w fun e w' => e = .returned (.bool (FracMath.rightB n d)) ∧ Below w.heap.size w w' := by
  by_cases h : -1000000 ≤ n ∧ n ≤ 1000000 ∧ 1 ≤ d ∧ d ≤ 1000000
  · exact rright_in n d w h.1 h.2.1 h.2.2.1 h.2.2.2
  · exact rright_out n d w h
def loI (n g q d r : Int) : Nat → Value → World → Prop
  | 0, v, _ => v = .int .i64 n
  | 1, v, _ => v = .int .i64 g
  | 2, v, _ => v = .int .i64 q
  | 3, v, _ => v = .int .i64 d
  | 4, v, _ => v = .int .i64 g
  | 5, v, _ => v = .int .i64 r
  | 6, v, _ => v = .agg #[.int .i64 q, .int .i64 r]
  | _, _, _ => True
theorem loI_up (n g q d r : Int) : ∀ (j : Nat) (v : Value) (A B : World), Below A.heap.size A B → loI n g q d r j v A → loI n g q d r j v B
  | 0, _, _, _, _, h => h
  | 1, _, _, _, _, h => h
  | 2, _, _, _, _, h => h
  | 3, _, _, _, _, h => h
  | 4, _, _, _, _, h => h
  | 5, _, _, _, _, h => h
  | 6, _, _, _, _, h => h
  | _ + 7, _, _, _, _, _ => trivial

set_option maxRecDepth 10000 in
set_option maxHeartbeats 4000000 in
theorem rlowest_any (n d : Int) (w : World) (h1 : -9223372036854775807 ≤ n) (h2 : n ≤ 9223372036854775807) (h3 : 0 < d) (h4 : d ≤ 9223372036854775807) :
    Calls Tryz.prog 55 #[.int .i64 n, .int .i64 d] w fun e w' => e = .returned (.agg #[.int .i64 (FracMath.qn n d), .int .i64 (FracMath.qd n d)]) ∧ Below w.heap.size w w' := by
  have C := Lib.hid (fun W => rdivisor_any n d W (by omega) (by omega) (by omega) (by omega))
  have hg0 : 0 < FracMath.gg n d := FracMath.gg_pos (by omega)
  have eg : Int.gcd n d = FracMath.gg n d := rfl
  have bq := tdiv_bd (g := FracMath.gg n d) h1 h2
  have br := tdiv_bd (g := FracMath.gg n d) (x := d) (B := 9223372036854775807) (by omega) h4
  rw [eg] at C
  rw [FracMath.qn_of_pos (by omega), FracMath.qd_of_pos (by omega)]
  clear eg
  obtain ⟨g, hg⟩ : ∃ g : Int, ((FracMath.gg n d : Nat) : Int) = g := ⟨_, rfl⟩
  rw [hg] at C bq br ⊢
  have hgz : ¬ g = 0 := by omega
  have hgm : ¬ g = -1 := by omega
  clear hg hg0
  obtain ⟨q, hq⟩ : ∃ q, n.tdiv g = q := ⟨_, rfl⟩
  obtain ⟨r, hr⟩ : ∃ r, d.tdiv g = r := ⟨_, rfl⟩
  rw [hq] at bq ⊢
  rw [hr] at br ⊢
  have wq := wrap_in (q := q) (by omega) (by omega)
  have wr := wrap_in (q := r) (by omega) (by omega)
  obtain ⟨D, hD⟩ : ∃ D, w.heap.size = D := ⟨_, rfl⟩
  go_enter Tryz.func55, Tryz.ntmps55
  go_wp2_with fail
  refine (C.out _).mono ?_
  rintro e w1 ⟨rfl, k, rfl⟩
  go_wp2_with fail
  obtain ⟨W0, hW0⟩ : ∃ W0, ((w.alloc (.cells #[.int .i64 0, .int .i64 0] 23)).drewN k) = W0 := ⟨_, rfl⟩
  have HW := Lib.hid (show Below D w W0 by rw [← hW0]; exact ((Below.refl _ w).alloc (by omega) _).trans ((drew_below' _ k).mono (by simp; omega)))
  have HP := Lib.hid (show W0.heap[D]? = some (.cells #[.int .i64 0, .int .i64 0] 23) by rw [← hW0]; exact heap_new (X := w) hD.symm)
  have hz0 : W0.heap.size = D + 1 := by rw [← hW0]; simp [hD]
  rw [hW0]
  clear hW0 C
  refine wp_region_slots_at rfl rfl (fun base ys => ((((((base.set 9 (ys 0)).set 10 (ys 1)).set 11 (ys 2)).set 12 (ys 3)).set 13 (ys 4)).set 14 (ys 5)).set 15 (ys 6)) (LastI _ (Below W0.heap.size W0) (loI n g q d r) (fun A => Below D w A ∧ A.heap[D]? = some (.cells #[.int .i64 q, .int .i64 r] 23))) (fun _ => undef) (by kernel_rfl) (last_start (by decide) ((Below.refl _ _).trans ⟨rfl, rfl, rfl, Nat.le_refl _, fun _ _ => rfl⟩)) ?h
  case h =>
    intro F hF
    simp only [List.set_cons_succ, List.set_cons_zero] at hF
    subst hF
    refine ⟨rfl, ?_, ?_⟩
    refine ⟨?_, ?_⟩
    · refine SlotStep.lastB (by kernel_rfl) rfl (by decide) (fun A B hb h => h.trans (hb.mono h.size)) (loI_up n g q d r) ?_
      intro ys W hR hd K hK
      go_simp
      have hK2 := hK (.int .i64 n) _ (Below.refl _ _) rfl
      simp (config := { decide := true }) only [upd, if_true, if_false] at hK2
      exact hK2
    refine ⟨?_, ?_⟩
    · refine SlotStep.lastB (by kernel_rfl) rfl (by decide) (fun A B hb h => h.trans (hb.mono h.size)) (loI_up n g q d r) ?_
      intro ys W hR hd K hK
      go_simp
      have hK2 := hK (.int .i64 g) _ (Below.refl _ _) rfl
      simp (config := { decide := true }) only [upd, if_true, if_false] at hK2
      exact hK2
    refine ⟨?_, ?_⟩
    · refine SlotStep.lastB (by kernel_rfl) rfl (by decide) (fun A B hb h => h.trans (hb.mono h.size)) (loI_up n g q d r) ?_
      intro ys W hR hd K hK
      have dd0 : ys 0 = .int .i64 n := hd 0 (by kernel_rfl) (by decide)
      have dd1 : ys 1 = .int .i64 g := hd 1 (by kernel_rfl) (by decide)
      go_simp
      have hK2 := hK (.int .i64 q) _ (Below.refl _ _) rfl
      simp (config := { decide := true }) only [upd, if_true, if_false, dd0, dd1] at hK2
      exact hK2
    refine ⟨?_, ?_⟩
    · refine SlotStep.lastB (by kernel_rfl) rfl (by decide) (fun A B hb h => h.trans (hb.mono h.size)) (loI_up n g q d r) ?_
      intro ys W hR hd K hK
      go_simp
      have hK2 := hK (.int .i64 d) _ (Below.refl _ _) rfl
      simp (config := { decide := true }) only [upd, if_true, if_false] at hK2
      exact hK2
    refine ⟨?_, ?_⟩
    · refine SlotStep.lastB (by kernel_rfl) rfl (by decide) (fun A B hb h => h.trans (hb.mono h.size)) (loI_up n g q d r) ?_
      intro ys W hR hd K hK
      go_simp
      have hK2 := hK (.int .i64 g) _ (Below.refl _ _) rfl
      simp (config := { decide := true }) only [upd, if_true, if_false] at hK2
      exact hK2
    refine ⟨?_, ?_⟩
    · refine SlotStep.lastB (by kernel_rfl) rfl (by decide) (fun A B hb h => h.trans (hb.mono h.size)) (loI_up n g q d r) ?_
      intro ys W hR hd K hK
      have dd3 : ys 3 = .int .i64 d := hd 3 (by kernel_rfl) (by decide)
      have dd4 : ys 4 = .int .i64 g := hd 4 (by kernel_rfl) (by decide)
      go_simp
      have hK2 := hK (.int .i64 r) _ (Below.refl _ _) rfl
      simp (config := { decide := true }) only [upd, if_true, if_false, dd3, dd4] at hK2
      exact hK2
    refine ⟨?_, ?_⟩
    · refine SlotStep.lastB (by kernel_rfl) rfl (by decide) (fun A B hb h => h.trans (hb.mono h.size)) (loI_up n g q d r) ?_
      intro ys W hR hd K hK
      have dd2 : ys 2 = .int .i64 q := hd 2 (by kernel_rfl) (by decide)
      have dd5 : ys 5 = .int .i64 r := hd 5 (by kernel_rfl) (by decide)
      go_simp
      have hK2 := hK (.agg #[.int .i64 q, .int .i64 r]) _ (Below.refl _ _) rfl
      simp (config := { decide := true }) only [upd, if_true, if_false, dd2, dd5] at hK2
      exact hK2
    refine ⟨?_, ?_⟩
    · refine SlotStep.lastS rfl rfl ?_
      intro ys W hR hd K hK
      have dd6 : ys 6 = .agg #[.int .i64 q, .int .i64 r] := hd 6 (by kernel_rfl) (by decide)
      have hh := (hR.block D (by omega)).trans HP.out
      have f0 := free2_0 hh
      have f1 := free2_1 hh
      have g0 := cell2_0 hh
      have g1 := cell2_1 hh
      go_simp
      have hK2 := hK undef _ ⟨((HW.out.trans (hR.mono (by omega))).setCell (p := ⟨D, 0, none⟩) (by simp) _).setCell (p := ⟨D, 1, none⟩) (by simp) _, set2_1 (set2_0 hh)⟩
      simp (config := { decide := true }) only [upd, if_false, dd6] at hK2
      exact hK2
    trivial
    · intro L ys W hL hI
      have hF := last_end (by decide) hL hI
      obtain ⟨t1, t2⟩ := hF
      have r0 := cell2_0 t2
      have r1 := cell2_1 t2
      have HB := Lib.hid t1
      clear t1 t2
      go_simp
      go_wp2
      refine bodyPost_ret (v := .agg #[.int .i64 q, .int .i64 r]) (by simp [results, Tryz.results55, go_sem, r0, r1]) rfl ⟨rfl, by rw [hD]; exact HB.out⟩
end Go.Proofs.YthdoadkdofgenaaGreatDoor
/- Contracts of the reference's Write, and of the statements' size and parts. -/
namespace Go.Proofs.YthdoadkdofgenaaGreatDoor
open Go Go.RowKit Go.Shelf

def wrI (D E o u : Nat) (i n d p q : Int) : Nat → Value → World → Prop
  | 0, v, _ => v = .int .i64 i
  | 1, v, _ => v = .int .i64 i
  | 2, v, _ => v = .pointer (some ⟨D, 0, none⟩)
  | 3, v, _ => v = .pointer (some ⟨D, o, none⟩)
  | 4, v, _ => v = .int .i64 n
  | 5, v, _ => v = .pointer (some ⟨D, 3, none⟩)
  | 6, v, _ => v = .int .i64 d
  | 7, v, _ => v = .agg #[.int .i64 p, .int .i64 q]
  | 8, v, _ => v = .pointer (some ⟨E, u, none⟩)
  | _, _, _ => True
theorem wrI_up (D E o u : Nat) (i n d p q : Int) : ∀ (j : Nat) (v : Value) (A B : World), Below A.heap.size A B → wrI D E o u i n d p q j v A → wrI D E o u i n d p q j v B
  | 0, _, _, _, _, h => h
  | 1, _, _, _, _, h => h
  | 2, _, _, _, _, h => h
  | 3, _, _, _, _, h => h
  | 4, _, _, _, _, h => h
  | 5, _, _, _, _, h => h
  | 6, _, _, _, _, h => h
  | 7, _, _, _, _, h => h
  | 8, _, _, _, _, h => h
  | _ + 9, _, _, _, _, _ => trivial

set_option maxRecDepth 10000 in
set_option maxHeartbeats 8000000 in
theorem rwrite_any (a b c d : Int) (w : World) (ha1 : -9223372036854775807 ≤ a) (ha2 : a ≤ 9223372036854775807) (hb1 : -9223372036854775807 ≤ b) (hb2 : b ≤ 9223372036854775807) (hc1 : -9223372036854775807 ≤ c) (hc2 : c ≤ 9223372036854775807) (h3 : 0 < d) (h4 : d ≤ 9223372036854775807) :
    Calls Tryz.prog 31 #[.agg #[.int .i64 a, .int .i64 b, .int .i64 c, .int .i64 d]] w fun e w' => e = .returned (.agg #[.int .i64 (FracMath.qn a d), .int .i64 (FracMath.qd a d), .int .i64 (FracMath.qn b d), .int .i64 (FracMath.qd b d), .int .i64 (FracMath.qn c d), .int .i64 (FracMath.qd c d)]) ∧ Below w.heap.size w w' := by
  have La := Lib.hid (fun W => rlowest_any a d W ha1 ha2 h3 h4)
  have Lb := Lib.hid (fun W => rlowest_any b d W hb1 hb2 h3 h4)
  have Lc := Lib.hid (fun W => rlowest_any c d W hc1 hc2 h3 h4)
  generalize FracMath.qn a d = pa at *
  generalize FracMath.qd a d = qa at *
  generalize FracMath.qn b d = pb at *
  generalize FracMath.qd b d = qb at *
  generalize FracMath.qn c d = pc at *
  generalize FracMath.qd c d = qc at *
  obtain ⟨D, hD⟩ : ∃ D, w.heap.size = D := ⟨_, rfl⟩
  go_enter Tryz.func31, Tryz.ntmps31
  go_wp2_with fail
  obtain ⟨V, hV⟩ : ∃ V, (((w.alloc (.cells #[.int .i64 a, .int .i64 b, .int .i64 c, .int .i64 d] 29)).alloc (.cells #[.int .i64 0, .int .i64 0, .int .i64 0, .int .i64 0, .int .i64 0, .int .i64 0] 56)).alloc (.cells #[.int .i64 0, .int .i64 0, .int .i64 0, .int .i64 0, .int .i64 0, .int .i64 0] 56)) = V := ⟨_, rfl⟩
  have hwV : Below D w V := by rw [← hV]; exact (((Below.refl _ w).alloc (by omega) _).alloc (by simp; omega) _).alloc (by simp; omega) _
  have h0V : V.heap[D]? = some (.cells #[.int .i64 a, .int .i64 b, .int .i64 c, .int .i64 d] 29) := by rw [← hV]; exact heap_old (heap_old (heap_new hD.symm))
  have h1V : V.heap[D + 1]? = some (.cells #[.int .i64 0, .int .i64 0, .int .i64 0, .int .i64 0, .int .i64 0, .int .i64 0] 56) := by rw [← hV]; exact heap_old (heap_new (by simp [hD]))
  have h2V : V.heap[D + 1 + 1]? = some (.cells #[.int .i64 0, .int .i64 0, .int .i64 0, .int .i64 0, .int .i64 0, .int .i64 0] 56) := by rw [← hV]; exact heap_new (by simp [hD])
  rw [hV]
  clear hV
  go_loopw [4] (fun i wr => ((i = .int .i64 0 ∧ wr.heap[D + 1 + 1]? = some (.cells #[.int .i64 0, .int .i64 0, .int .i64 0, .int .i64 0, .int .i64 0, .int .i64 0] 56)) ∨ (i = .int .i64 1 ∧ wr.heap[D + 1 + 1]? = some (.cells #[.int .i64 pa, .int .i64 qa, .int .i64 0, .int .i64 0, .int .i64 0, .int .i64 0] 56)) ∨ (i = .int .i64 2 ∧ wr.heap[D + 1 + 1]? = some (.cells #[.int .i64 pa, .int .i64 qa, .int .i64 pb, .int .i64 qb, .int .i64 0, .int .i64 0] 56)) ∨ (i = .int .i64 3 ∧ wr.heap[D + 1 + 1]? = some (.cells #[.int .i64 pa, .int .i64 qa, .int .i64 pb, .int .i64 qb, .int .i64 pc, .int .i64 qc] 56))) ∧ Below D w wr ∧ wr.heap[D]? = some (.cells #[.int .i64 a, .int .i64 b, .int .i64 c, .int .i64 d] 29) ∧ wr.heap[D + 1]? = some (.cells #[.int .i64 0, .int .i64 0, .int .i64 0, .int .i64 0, .int .i64 0, .int .i64 0] 56)) (fun i _ => 3 - (intOf i).toNat)
  case atStart => exact ⟨.inl ⟨rfl, h2V⟩, hwV, h0V, h1V⟩
  case round =>
    obtain ⟨hk, hw, h0, h1⟩ := hrel
    clear hwV h0V h1V h2V
    rcases hk with ⟨rfl, h2⟩ | ⟨rfl, h2⟩ | ⟨rfl, h2⟩ | ⟨rfl, h2⟩
    · have hz := (Array.getElem?_eq_some_iff.1 h2).1
      have hDw := hw.size
      have KN := Lib.hid (cell4_0 h0)
      have KD := Lib.hid (cell4_3 h0)
      have HE := Lib.hid h2
      have H0 := Lib.hid h0
      have H1 := Lib.hid h1
      have HW := Lib.hid hw
      clear h0 h1 h2 hw
      go_wp2_with fail
      refine wp_region_slots_at rfl rfl (fun base ys => ((((((((base.set 9 (ys 0)).set 10 (ys 1)).set 11 (ys 2)).set 12 (ys 3)).set 13 (ys 4)).set 14 (ys 5)).set 15 (ys 6)).set 16 (ys 7)).set 17 (ys 8)) (LastI _ (Below wr.heap.size wr) (wrI D (D + 1 + 1) 0 0 0 a d pa qa) (fun A => Below D w A ∧ A.heap[D + 1 + 1]? = some (.cells #[.int .i64 pa, .int .i64 qa, .int .i64 0, .int .i64 0, .int .i64 0, .int .i64 0] 56) ∧ A.heap[D]? = some (.cells #[.int .i64 a, .int .i64 b, .int .i64 c, .int .i64 d] 29) ∧ A.heap[D + 1]? = some (.cells #[.int .i64 0, .int .i64 0, .int .i64 0, .int .i64 0, .int .i64 0, .int .i64 0] 56))) (fun | 0 => u9 | 1 => u10 | 2 => u11 | 3 => u12 | 4 => u13 | 5 => u14 | 6 => u15 | 7 => u16 | 8 => u17 | _ => undef) (by kernel_rfl) (last_start (by decide) ((Below.refl _ _).trans ⟨rfl, rfl, rfl, Nat.le_refl _, fun _ _ => rfl⟩)) ?h
      case h =>
        intro F hF
        simp only [List.set_cons_succ, List.set_cons_zero] at hF
        subst hF
        refine ⟨rfl, ?_, ?_⟩
        refine ⟨?_, ?_⟩
        · refine SlotStep.lastB (by kernel_rfl) rfl (by decide) (fun A B hb h => h.trans (hb.mono h.size)) (wrI_up D (D + 1 + 1) 0 0 0 a d pa qa) ?_
          intro ys W hR hd K hK
          go_simp
          have hK2 := hK (.int .i64 0) _ (Below.refl _ _) rfl
          simp (config := { decide := true }) only [upd, if_true, if_false] at hK2
          exact hK2
        refine ⟨?_, ?_⟩
        · refine SlotStep.lastB (by kernel_rfl) rfl (by decide) (fun A B hb h => h.trans (hb.mono h.size)) (wrI_up D (D + 1 + 1) 0 0 0 a d pa qa) ?_
          intro ys W hR hd K hK
          go_simp
          have hK2 := hK (.int .i64 0) _ (Below.refl _ _) rfl
          simp (config := { decide := true }) only [upd, if_true, if_false] at hK2
          exact hK2
        refine ⟨?_, ?_⟩
        · refine SlotStep.lastB (by kernel_rfl) rfl (by decide) (fun A B hb h => h.trans (hb.mono h.size)) (wrI_up D (D + 1 + 1) 0 0 0 a d pa qa) ?_
          intro ys W hR hd K hK
          go_simp
          have hK2 := hK (.pointer (some ⟨D, 0, none⟩)) _ (Below.refl _ _) rfl
          simp (config := { decide := true }) only [upd, if_true, if_false] at hK2
          exact hK2
        refine ⟨?_, ?_⟩
        · refine SlotStep.lastB (by kernel_rfl) rfl (by decide) (fun A B hb h => h.trans (hb.mono h.size)) (wrI_up D (D + 1 + 1) 0 0 0 a d pa qa) ?_
          intro ys W hR hd K hK
          have dd1 : ys 1 = .int .i64 0 := hd 1 (by kernel_rfl) (by decide)
          have dd2 : ys 2 = .pointer (some ⟨D, 0, none⟩) := hd 2 (by kernel_rfl) (by decide)
          go_simp
          have hK2 := hK (.pointer (some ⟨D, 0, none⟩)) _ (Below.refl _ _) rfl
          simp (config := { decide := true }) only [upd, if_true, if_false, dd1, dd2] at hK2
          exact hK2
        refine ⟨?_, ?_⟩
        · refine SlotStep.lastB (by kernel_rfl) rfl (by decide) (fun A B hb h => h.trans (hb.mono h.size)) (wrI_up D (D + 1 + 1) 0 0 0 a d pa qa) ?_
          intro ys W hR hd K hK
          have dd3 : ys 3 = .pointer (some ⟨D, 0, none⟩) := hd 3 (by kernel_rfl) (by decide)
          have c0 := (hR.cell (p := ⟨D, 0, none⟩) (by show D < wr.heap.size; omega)).trans KN.out
          go_simp
          have hK2 := hK (.int .i64 a) _ (Below.refl _ _) rfl
          simp (config := { decide := true }) only [upd, if_true, if_false, dd3] at hK2
          exact hK2
        refine ⟨?_, ?_⟩
        · refine SlotStep.lastB (by kernel_rfl) rfl (by decide) (fun A B hb h => h.trans (hb.mono h.size)) (wrI_up D (D + 1 + 1) 0 0 0 a d pa qa) ?_
          intro ys W hR hd K hK
          go_simp
          have hK2 := hK (.pointer (some ⟨D, 3, none⟩)) _ (Below.refl _ _) rfl
          simp (config := { decide := true }) only [upd, if_true, if_false] at hK2
          exact hK2
        refine ⟨?_, ?_⟩
        · refine SlotStep.lastB (by kernel_rfl) rfl (by decide) (fun A B hb h => h.trans (hb.mono h.size)) (wrI_up D (D + 1 + 1) 0 0 0 a d pa qa) ?_
          intro ys W hR hd K hK
          have dd5 : ys 5 = .pointer (some ⟨D, 3, none⟩) := hd 5 (by kernel_rfl) (by decide)
          have c0 := (hR.cell (p := ⟨D, 3, none⟩) (by show D < wr.heap.size; omega)).trans KD.out
          go_simp
          have hK2 := hK (.int .i64 d) _ (Below.refl _ _) rfl
          simp (config := { decide := true }) only [upd, if_true, if_false, dd5] at hK2
          exact hK2
        refine ⟨?_, ?_⟩
        · refine SlotStep.lastB (by kernel_rfl) rfl (by decide) (fun A B hb h => h.trans (hb.mono h.size)) (wrI_up D (D + 1 + 1) 0 0 0 a d pa qa) ?_
          intro ys W hR hd K hK
          have dd4 : ys 4 = .int .i64 a := hd 4 (by kernel_rfl) (by decide)
          have dd6 : ys 6 = .int .i64 d := hd 6 (by kernel_rfl) (by decide)
          go_simp
          refine (La.out W).mono ?_
          rintro e w5 ⟨rfl, hb5⟩
          have hK2 := hK (.agg #[.int .i64 pa, .int .i64 qa]) _ hb5 rfl
          simp (config := { decide := true }) only [upd, if_true, if_false, dd4, dd6] at hK2
          exact hK2
        refine ⟨?_, ?_⟩
        · refine SlotStep.lastB (by kernel_rfl) rfl (by decide) (fun A B hb h => h.trans (hb.mono h.size)) (wrI_up D (D + 1 + 1) 0 0 0 a d pa qa) ?_
          intro ys W hR hd K hK
          have dd0 : ys 0 = .int .i64 0 := hd 0 (by kernel_rfl) (by decide)
          go_simp
          have hK2 := hK (.pointer (some ⟨D + 1 + 1, 0, none⟩)) _ (Below.refl _ _) rfl
          simp (config := { decide := true }) only [upd, if_true, if_false, dd0] at hK2
          exact hK2
        refine ⟨?_, ?_⟩
        · refine SlotStep.lastS rfl rfl ?_
          intro ys W hR hd K hK
          have dd7 : ys 7 = .agg #[.int .i64 pa, .int .i64 qa] := hd 7 (by kernel_rfl) (by decide)
          have dd8 : ys 8 = .pointer (some ⟨D + 1 + 1, 0, none⟩) := hd 8 (by kernel_rfl) (by decide)
          have hh := (hR.block (D + 1 + 1) (by omega)).trans HE.out
          have f0 := free6_0 hh
          have f1 := free6_1 hh
          have g0 := cell6_0 hh
          have g1 := cell6_1 hh
          go_simp
          have hK2 := hK undef _ ⟨((HW.out.trans (hR.mono (by omega))).setCell (p := ⟨D + 1 + 1, 0, none⟩) (by simp; omega) _).setCell (p := ⟨D + 1 + 1, 1, none⟩) (by simp; omega) _, set2_at6_0 hh, (set2_other (by omega)).trans ((hR.block D (by omega)).trans H0.out), (set2_other (by omega)).trans ((hR.block (D + 1) (by omega)).trans H1.out)⟩
          simp (config := { decide := true }) only [upd, if_false, dd7, dd8] at hK2
          exact hK2
        trivial
        · intro L ys W hL hI
          have hF := last_end (by decide) hL hI
          obtain ⟨t1, t2, t3, t4⟩ := hF
          go_simp
          go_wp2
          have H2 := Lib.hid t2
          exact ⟨⟨.inr (.inl ⟨rfl, H2.out⟩), t1, t3, t4⟩, by decide⟩
    · have hz := (Array.getElem?_eq_some_iff.1 h2).1
      have hDw := hw.size
      have KN := Lib.hid (cell4_1 h0)
      have KD := Lib.hid (cell4_3 h0)
      have HE := Lib.hid h2
      have H0 := Lib.hid h0
      have H1 := Lib.hid h1
      have HW := Lib.hid hw
      clear h0 h1 h2 hw
      go_wp2_with fail
      refine wp_region_slots_at rfl rfl (fun base ys => ((((((((base.set 9 (ys 0)).set 10 (ys 1)).set 11 (ys 2)).set 12 (ys 3)).set 13 (ys 4)).set 14 (ys 5)).set 15 (ys 6)).set 16 (ys 7)).set 17 (ys 8)) (LastI _ (Below wr.heap.size wr) (wrI D (D + 1 + 1) 1 2 1 b d pb qb) (fun A => Below D w A ∧ A.heap[D + 1 + 1]? = some (.cells #[.int .i64 pa, .int .i64 qa, .int .i64 pb, .int .i64 qb, .int .i64 0, .int .i64 0] 56) ∧ A.heap[D]? = some (.cells #[.int .i64 a, .int .i64 b, .int .i64 c, .int .i64 d] 29) ∧ A.heap[D + 1]? = some (.cells #[.int .i64 0, .int .i64 0, .int .i64 0, .int .i64 0, .int .i64 0, .int .i64 0] 56))) (fun | 0 => u9 | 1 => u10 | 2 => u11 | 3 => u12 | 4 => u13 | 5 => u14 | 6 => u15 | 7 => u16 | 8 => u17 | _ => undef) (by kernel_rfl) (last_start (by decide) ((Below.refl _ _).trans ⟨rfl, rfl, rfl, Nat.le_refl _, fun _ _ => rfl⟩)) ?h
      case h =>
        intro F hF
        simp only [List.set_cons_succ, List.set_cons_zero] at hF
        subst hF
        refine ⟨rfl, ?_, ?_⟩
        refine ⟨?_, ?_⟩
        · refine SlotStep.lastB (by kernel_rfl) rfl (by decide) (fun A B hb h => h.trans (hb.mono h.size)) (wrI_up D (D + 1 + 1) 1 2 1 b d pb qb) ?_
          intro ys W hR hd K hK
          go_simp
          have hK2 := hK (.int .i64 1) _ (Below.refl _ _) rfl
          simp (config := { decide := true }) only [upd, if_true, if_false] at hK2
          exact hK2
        refine ⟨?_, ?_⟩
        · refine SlotStep.lastB (by kernel_rfl) rfl (by decide) (fun A B hb h => h.trans (hb.mono h.size)) (wrI_up D (D + 1 + 1) 1 2 1 b d pb qb) ?_
          intro ys W hR hd K hK
          go_simp
          have hK2 := hK (.int .i64 1) _ (Below.refl _ _) rfl
          simp (config := { decide := true }) only [upd, if_true, if_false] at hK2
          exact hK2
        refine ⟨?_, ?_⟩
        · refine SlotStep.lastB (by kernel_rfl) rfl (by decide) (fun A B hb h => h.trans (hb.mono h.size)) (wrI_up D (D + 1 + 1) 1 2 1 b d pb qb) ?_
          intro ys W hR hd K hK
          go_simp
          have hK2 := hK (.pointer (some ⟨D, 0, none⟩)) _ (Below.refl _ _) rfl
          simp (config := { decide := true }) only [upd, if_true, if_false] at hK2
          exact hK2
        refine ⟨?_, ?_⟩
        · refine SlotStep.lastB (by kernel_rfl) rfl (by decide) (fun A B hb h => h.trans (hb.mono h.size)) (wrI_up D (D + 1 + 1) 1 2 1 b d pb qb) ?_
          intro ys W hR hd K hK
          have dd1 : ys 1 = .int .i64 1 := hd 1 (by kernel_rfl) (by decide)
          have dd2 : ys 2 = .pointer (some ⟨D, 0, none⟩) := hd 2 (by kernel_rfl) (by decide)
          go_simp
          have hK2 := hK (.pointer (some ⟨D, 1, none⟩)) _ (Below.refl _ _) rfl
          simp (config := { decide := true }) only [upd, if_true, if_false, dd1, dd2] at hK2
          exact hK2
        refine ⟨?_, ?_⟩
        · refine SlotStep.lastB (by kernel_rfl) rfl (by decide) (fun A B hb h => h.trans (hb.mono h.size)) (wrI_up D (D + 1 + 1) 1 2 1 b d pb qb) ?_
          intro ys W hR hd K hK
          have dd3 : ys 3 = .pointer (some ⟨D, 1, none⟩) := hd 3 (by kernel_rfl) (by decide)
          have c0 := (hR.cell (p := ⟨D, 1, none⟩) (by show D < wr.heap.size; omega)).trans KN.out
          go_simp
          have hK2 := hK (.int .i64 b) _ (Below.refl _ _) rfl
          simp (config := { decide := true }) only [upd, if_true, if_false, dd3] at hK2
          exact hK2
        refine ⟨?_, ?_⟩
        · refine SlotStep.lastB (by kernel_rfl) rfl (by decide) (fun A B hb h => h.trans (hb.mono h.size)) (wrI_up D (D + 1 + 1) 1 2 1 b d pb qb) ?_
          intro ys W hR hd K hK
          go_simp
          have hK2 := hK (.pointer (some ⟨D, 3, none⟩)) _ (Below.refl _ _) rfl
          simp (config := { decide := true }) only [upd, if_true, if_false] at hK2
          exact hK2
        refine ⟨?_, ?_⟩
        · refine SlotStep.lastB (by kernel_rfl) rfl (by decide) (fun A B hb h => h.trans (hb.mono h.size)) (wrI_up D (D + 1 + 1) 1 2 1 b d pb qb) ?_
          intro ys W hR hd K hK
          have dd5 : ys 5 = .pointer (some ⟨D, 3, none⟩) := hd 5 (by kernel_rfl) (by decide)
          have c0 := (hR.cell (p := ⟨D, 3, none⟩) (by show D < wr.heap.size; omega)).trans KD.out
          go_simp
          have hK2 := hK (.int .i64 d) _ (Below.refl _ _) rfl
          simp (config := { decide := true }) only [upd, if_true, if_false, dd5] at hK2
          exact hK2
        refine ⟨?_, ?_⟩
        · refine SlotStep.lastB (by kernel_rfl) rfl (by decide) (fun A B hb h => h.trans (hb.mono h.size)) (wrI_up D (D + 1 + 1) 1 2 1 b d pb qb) ?_
          intro ys W hR hd K hK
          have dd4 : ys 4 = .int .i64 b := hd 4 (by kernel_rfl) (by decide)
          have dd6 : ys 6 = .int .i64 d := hd 6 (by kernel_rfl) (by decide)
          go_simp
          refine (Lb.out W).mono ?_
          rintro e w5 ⟨rfl, hb5⟩
          have hK2 := hK (.agg #[.int .i64 pb, .int .i64 qb]) _ hb5 rfl
          simp (config := { decide := true }) only [upd, if_true, if_false, dd4, dd6] at hK2
          exact hK2
        refine ⟨?_, ?_⟩
        · refine SlotStep.lastB (by kernel_rfl) rfl (by decide) (fun A B hb h => h.trans (hb.mono h.size)) (wrI_up D (D + 1 + 1) 1 2 1 b d pb qb) ?_
          intro ys W hR hd K hK
          have dd0 : ys 0 = .int .i64 1 := hd 0 (by kernel_rfl) (by decide)
          go_simp
          have hK2 := hK (.pointer (some ⟨D + 1 + 1, 2, none⟩)) _ (Below.refl _ _) rfl
          simp (config := { decide := true }) only [upd, if_true, if_false, dd0] at hK2
          exact hK2
        refine ⟨?_, ?_⟩
        · refine SlotStep.lastS rfl rfl ?_
          intro ys W hR hd K hK
          have dd7 : ys 7 = .agg #[.int .i64 pb, .int .i64 qb] := hd 7 (by kernel_rfl) (by decide)
          have dd8 : ys 8 = .pointer (some ⟨D + 1 + 1, 2, none⟩) := hd 8 (by kernel_rfl) (by decide)
          have hh := (hR.block (D + 1 + 1) (by omega)).trans HE.out
          have f0 := free6_2 hh
          have f1 := free6_3 hh
          have g0 := cell6_2 hh
          have g1 := cell6_3 hh
          go_simp
          have hK2 := hK undef _ ⟨((HW.out.trans (hR.mono (by omega))).setCell (p := ⟨D + 1 + 1, 2, none⟩) (by simp; omega) _).setCell (p := ⟨D + 1 + 1, 3, none⟩) (by simp; omega) _, set2_at6_2 hh, (set2_other (by omega)).trans ((hR.block D (by omega)).trans H0.out), (set2_other (by omega)).trans ((hR.block (D + 1) (by omega)).trans H1.out)⟩
          simp (config := { decide := true }) only [upd, if_false, dd7, dd8] at hK2
          exact hK2
        trivial
        · intro L ys W hL hI
          have hF := last_end (by decide) hL hI
          obtain ⟨t1, t2, t3, t4⟩ := hF
          go_simp
          go_wp2
          have H2 := Lib.hid t2
          exact ⟨⟨.inr (.inr (.inl ⟨rfl, H2.out⟩)), t1, t3, t4⟩, by decide⟩
    · have hz := (Array.getElem?_eq_some_iff.1 h2).1
      have hDw := hw.size
      have KN := Lib.hid (cell4_2 h0)
      have KD := Lib.hid (cell4_3 h0)
      have HE := Lib.hid h2
      have H0 := Lib.hid h0
      have H1 := Lib.hid h1
      have HW := Lib.hid hw
      clear h0 h1 h2 hw
      go_wp2_with fail
      refine wp_region_slots_at rfl rfl (fun base ys => ((((((((base.set 9 (ys 0)).set 10 (ys 1)).set 11 (ys 2)).set 12 (ys 3)).set 13 (ys 4)).set 14 (ys 5)).set 15 (ys 6)).set 16 (ys 7)).set 17 (ys 8)) (LastI _ (Below wr.heap.size wr) (wrI D (D + 1 + 1) 2 4 2 c d pc qc) (fun A => Below D w A ∧ A.heap[D + 1 + 1]? = some (.cells #[.int .i64 pa, .int .i64 qa, .int .i64 pb, .int .i64 qb, .int .i64 pc, .int .i64 qc] 56) ∧ A.heap[D]? = some (.cells #[.int .i64 a, .int .i64 b, .int .i64 c, .int .i64 d] 29) ∧ A.heap[D + 1]? = some (.cells #[.int .i64 0, .int .i64 0, .int .i64 0, .int .i64 0, .int .i64 0, .int .i64 0] 56))) (fun | 0 => u9 | 1 => u10 | 2 => u11 | 3 => u12 | 4 => u13 | 5 => u14 | 6 => u15 | 7 => u16 | 8 => u17 | _ => undef) (by kernel_rfl) (last_start (by decide) ((Below.refl _ _).trans ⟨rfl, rfl, rfl, Nat.le_refl _, fun _ _ => rfl⟩)) ?h
      case h =>
        intro F hF
        simp only [List.set_cons_succ, List.set_cons_zero] at hF
        subst hF
        refine ⟨rfl, ?_, ?_⟩
        refine ⟨?_, ?_⟩
        · refine SlotStep.lastB (by kernel_rfl) rfl (by decide) (fun A B hb h => h.trans (hb.mono h.size)) (wrI_up D (D + 1 + 1) 2 4 2 c d pc qc) ?_
          intro ys W hR hd K hK
          go_simp
          have hK2 := hK (.int .i64 2) _ (Below.refl _ _) rfl
          simp (config := { decide := true }) only [upd, if_true, if_false] at hK2
          exact hK2
        refine ⟨?_, ?_⟩
        · refine SlotStep.lastB (by kernel_rfl) rfl (by decide) (fun A B hb h => h.trans (hb.mono h.size)) (wrI_up D (D + 1 + 1) 2 4 2 c d pc qc) ?_
          intro ys W hR hd K hK
          go_simp
          have hK2 := hK (.int .i64 2) _ (Below.refl _ _) rfl
          simp (config := { decide := true }) only [upd, if_true, if_false] at hK2
          exact hK2
        refine ⟨?_, ?_⟩
        · refine SlotStep.lastB (by kernel_rfl) rfl (by decide) (fun A B hb h => h.trans (hb.mono h.size)) (wrI_up D (D + 1 + 1) 2 4 2 c d pc qc) ?_
          intro ys W hR hd K hK
          go_simp
          have hK2 := hK (.pointer (some ⟨D, 0, none⟩)) _ (Below.refl _ _) rfl
          simp (config := { decide := true }) only [upd, if_true, if_false] at hK2
          exact hK2
        refine ⟨?_, ?_⟩
        · refine SlotStep.lastB (by kernel_rfl) rfl (by decide) (fun A B hb h => h.trans (hb.mono h.size)) (wrI_up D (D + 1 + 1) 2 4 2 c d pc qc) ?_
          intro ys W hR hd K hK
          have dd1 : ys 1 = .int .i64 2 := hd 1 (by kernel_rfl) (by decide)
          have dd2 : ys 2 = .pointer (some ⟨D, 0, none⟩) := hd 2 (by kernel_rfl) (by decide)
          go_simp
          have hK2 := hK (.pointer (some ⟨D, 2, none⟩)) _ (Below.refl _ _) rfl
          simp (config := { decide := true }) only [upd, if_true, if_false, dd1, dd2] at hK2
          exact hK2
        refine ⟨?_, ?_⟩
        · refine SlotStep.lastB (by kernel_rfl) rfl (by decide) (fun A B hb h => h.trans (hb.mono h.size)) (wrI_up D (D + 1 + 1) 2 4 2 c d pc qc) ?_
          intro ys W hR hd K hK
          have dd3 : ys 3 = .pointer (some ⟨D, 2, none⟩) := hd 3 (by kernel_rfl) (by decide)
          have c0 := (hR.cell (p := ⟨D, 2, none⟩) (by show D < wr.heap.size; omega)).trans KN.out
          go_simp
          have hK2 := hK (.int .i64 c) _ (Below.refl _ _) rfl
          simp (config := { decide := true }) only [upd, if_true, if_false, dd3] at hK2
          exact hK2
        refine ⟨?_, ?_⟩
        · refine SlotStep.lastB (by kernel_rfl) rfl (by decide) (fun A B hb h => h.trans (hb.mono h.size)) (wrI_up D (D + 1 + 1) 2 4 2 c d pc qc) ?_
          intro ys W hR hd K hK
          go_simp
          have hK2 := hK (.pointer (some ⟨D, 3, none⟩)) _ (Below.refl _ _) rfl
          simp (config := { decide := true }) only [upd, if_true, if_false] at hK2
          exact hK2
        refine ⟨?_, ?_⟩
        · refine SlotStep.lastB (by kernel_rfl) rfl (by decide) (fun A B hb h => h.trans (hb.mono h.size)) (wrI_up D (D + 1 + 1) 2 4 2 c d pc qc) ?_
          intro ys W hR hd K hK
          have dd5 : ys 5 = .pointer (some ⟨D, 3, none⟩) := hd 5 (by kernel_rfl) (by decide)
          have c0 := (hR.cell (p := ⟨D, 3, none⟩) (by show D < wr.heap.size; omega)).trans KD.out
          go_simp
          have hK2 := hK (.int .i64 d) _ (Below.refl _ _) rfl
          simp (config := { decide := true }) only [upd, if_true, if_false, dd5] at hK2
          exact hK2
        refine ⟨?_, ?_⟩
        · refine SlotStep.lastB (by kernel_rfl) rfl (by decide) (fun A B hb h => h.trans (hb.mono h.size)) (wrI_up D (D + 1 + 1) 2 4 2 c d pc qc) ?_
          intro ys W hR hd K hK
          have dd4 : ys 4 = .int .i64 c := hd 4 (by kernel_rfl) (by decide)
          have dd6 : ys 6 = .int .i64 d := hd 6 (by kernel_rfl) (by decide)
          go_simp
          refine (Lc.out W).mono ?_
          rintro e w5 ⟨rfl, hb5⟩
          have hK2 := hK (.agg #[.int .i64 pc, .int .i64 qc]) _ hb5 rfl
          simp (config := { decide := true }) only [upd, if_true, if_false, dd4, dd6] at hK2
          exact hK2
        refine ⟨?_, ?_⟩
        · refine SlotStep.lastB (by kernel_rfl) rfl (by decide) (fun A B hb h => h.trans (hb.mono h.size)) (wrI_up D (D + 1 + 1) 2 4 2 c d pc qc) ?_
          intro ys W hR hd K hK
          have dd0 : ys 0 = .int .i64 2 := hd 0 (by kernel_rfl) (by decide)
          go_simp
          have hK2 := hK (.pointer (some ⟨D + 1 + 1, 4, none⟩)) _ (Below.refl _ _) rfl
          simp (config := { decide := true }) only [upd, if_true, if_false, dd0] at hK2
          exact hK2
        refine ⟨?_, ?_⟩
        · refine SlotStep.lastS rfl rfl ?_
          intro ys W hR hd K hK
          have dd7 : ys 7 = .agg #[.int .i64 pc, .int .i64 qc] := hd 7 (by kernel_rfl) (by decide)
          have dd8 : ys 8 = .pointer (some ⟨D + 1 + 1, 4, none⟩) := hd 8 (by kernel_rfl) (by decide)
          have hh := (hR.block (D + 1 + 1) (by omega)).trans HE.out
          have f0 := free6_4 hh
          have f1 := free6_5 hh
          have g0 := cell6_4 hh
          have g1 := cell6_5 hh
          go_simp
          have hK2 := hK undef _ ⟨((HW.out.trans (hR.mono (by omega))).setCell (p := ⟨D + 1 + 1, 4, none⟩) (by simp; omega) _).setCell (p := ⟨D + 1 + 1, 5, none⟩) (by simp; omega) _, set2_at6_4 hh, (set2_other (by omega)).trans ((hR.block D (by omega)).trans H0.out), (set2_other (by omega)).trans ((hR.block (D + 1) (by omega)).trans H1.out)⟩
          simp (config := { decide := true }) only [upd, if_false, dd7, dd8] at hK2
          exact hK2
        trivial
        · intro L ys W hL hI
          have hF := last_end (by decide) hL hI
          obtain ⟨t1, t2, t3, t4⟩ := hF
          go_simp
          go_wp2
          have H2 := Lib.hid t2
          exact ⟨⟨.inr (.inr (.inr ⟨rfl, H2.out⟩)), t1, t3, t4⟩, by decide⟩
    · have c0 := cell6_0 h2
      have r0 := cell6_0 h1
      have f0 := free6_0 h1
      have c1 := cell6_1 h2
      have r1 := cell6_1 h1
      have f1 := free6_1 h1
      have c2 := cell6_2 h2
      have r2 := cell6_2 h1
      have f2 := free6_2 h1
      have c3 := cell6_3 h2
      have r3 := cell6_3 h1
      have f3 := free6_3 h1
      have c4 := cell6_4 h2
      have r4 := cell6_4 h1
      have f4 := free6_4 h1
      have c5 := cell6_5 h2
      have r5 := cell6_5 h1
      have f5 := free6_5 h1
      obtain ⟨U, hU⟩ : ∃ U, ((((((wr.setCell ⟨D + 1, 0, none⟩ (.int .i64 pa)).setCell ⟨D + 1, 1, none⟩ (.int .i64 qa)).setCell ⟨D + 1, 2, none⟩ (.int .i64 pb)).setCell ⟨D + 1, 3, none⟩ (.int .i64 qb)).setCell ⟨D + 1, 4, none⟩ (.int .i64 pc)).setCell ⟨D + 1, 5, none⟩ (.int .i64 qc)) = U := ⟨_, rfl⟩
      have HW := Lib.hid (show Below D w U by rw [← hU]; exact ((((((hw.setCell (p := ⟨D + 1, 0, none⟩) (show D ≤ D + 1 by omega) (.int .i64 pa)).setCell (p := ⟨D + 1, 1, none⟩) (show D ≤ D + 1 by omega) (.int .i64 qa)).setCell (p := ⟨D + 1, 2, none⟩) (show D ≤ D + 1 by omega) (.int .i64 pb)).setCell (p := ⟨D + 1, 3, none⟩) (show D ≤ D + 1 by omega) (.int .i64 qb)).setCell (p := ⟨D + 1, 4, none⟩) (show D ≤ D + 1 by omega) (.int .i64 pc)).setCell (p := ⟨D + 1, 5, none⟩) (show D ≤ D + 1 by omega) (.int .i64 qc)))
      have hE : U.heap[D + 1]? = some (.cells #[.int .i64 pa, .int .i64 qa, .int .i64 pb, .int .i64 qb, .int .i64 pc, .int .i64 qc] 56) := by rw [← hU]; exact (set6_5 (x := .int .i64 qc) (set6_4 (x := .int .i64 pc) (set6_3 (x := .int .i64 qb) (set6_2 (x := .int .i64 pb) (set6_1 (x := .int .i64 qa) (set6_0 (x := .int .i64 pa) h1))))))
      have HU := Lib.hid hU
      have z0 := cell6_0 hE
      have z1 := cell6_1 hE
      have z2 := cell6_2 hE
      have z3 := cell6_3 hE
      have z4 := cell6_4 hE
      have z5 := cell6_5 hE
      clear h0 h1 h2 hw hE hU
      go_wp2
      rw [HU.out]
      refine bodyPost_ret (v := .agg #[.int .i64 pa, .int .i64 qa, .int .i64 pb, .int .i64 qb, .int .i64 pc, .int .i64 qc]) (by simp [results, Tryz.results31, go_sem, z0, z1, z2, z3, z4, z5]) rfl ⟨rfl, by rw [hD]; exact HW.out⟩
set_option maxRecDepth 10000 in
set_option maxHeartbeats 4000000 in
theorem lsize_any (a b c d : Int) (w : World) (ha1 : -9223372036854775807 ≤ a) (ha2 : a ≤ 9223372036854775807) (hb1 : -9223372036854775807 ≤ b) (hb2 : b ≤ 9223372036854775807) (hc1 : -9223372036854775807 ≤ c) (hc2 : c ≤ 9223372036854775807) (h3 : 0 < d) (h4 : d ≤ 9223372036854775807) :
    Calls Tryz.prog 26 #[.agg #[.int .i64 a, .int .i64 b, .int .i64 c, .int .i64 d]] w fun e w' => e = .returned (.agg #[.int .i64 (FracMath.qn a d), .int .i64 (FracMath.qd a d), .int .i64 (FracMath.qn b d), .int .i64 (FracMath.qd b d), .int .i64 (FracMath.qn c d), .int .i64 (FracMath.qd c d)]) ∧ Below w.heap.size w w' := by
  have WR := Lib.hid (fun W => rwrite_any a b c d W ha1 ha2 hb1 hb2 hc1 hc2 h3 h4)
  generalize FracMath.qn a d = pa at *
  generalize FracMath.qd a d = qa at *
  generalize FracMath.qn b d = pb at *
  generalize FracMath.qd b d = qb at *
  generalize FracMath.qn c d = pc at *
  generalize FracMath.qd c d = qc at *
  obtain ⟨D, hD⟩ : ∃ D, w.heap.size = D := ⟨_, rfl⟩
  go_enter Tryz.func26, Tryz.ntmps26
  go_wp2_with fail
  refine (WR.out _).mono ?_
  rintro e w1 ⟨rfl, hb1⟩
  have h1a : w1.heap[D + 1]? = some (.cells #[.int .i64 0, .int .i64 0, .int .i64 0, .int .i64 0, .int .i64 0, .int .i64 0] 25) := (hb1.block (D + 1) (by simp [hD])).trans (heap_new (by simp [hD]))
  have hw1a : Below D w w1 := (((Below.refl _ w).alloc (by omega) _).alloc (by simp; omega) _).trans (hb1.mono (by simp; omega))
  have h1 := heap_old (o := .cells #[.int .i64 pa, .int .i64 qa, .int .i64 pb, .int .i64 qb, .int .i64 pc, .int .i64 qc] 56) h1a
  have hw1 := hw1a.alloc (by have := hw1a.size; omega) (.cells #[.int .i64 pa, .int .i64 qa, .int .i64 pb, .int .i64 qb, .int .i64 pc, .int .i64 qc] 56)
  have r0 := cell6_0 h1
  have f0 := free6_0 h1
  have r1 := cell6_1 h1
  have f1 := free6_1 h1
  have r2 := cell6_2 h1
  have f2 := free6_2 h1
  have r3 := cell6_3 h1
  have f3 := free6_3 h1
  have r4 := cell6_4 h1
  have f4 := free6_4 h1
  have r5 := cell6_5 h1
  have f5 := free6_5 h1
  obtain ⟨U, hU⟩ : ∃ U, (((((((w1.alloc (.cells #[.int .i64 pa, .int .i64 qa, .int .i64 pb, .int .i64 qb, .int .i64 pc, .int .i64 qc] 56)).setCell ⟨D + 1, 0, none⟩ (.int .i64 pa)).setCell ⟨D + 1, 1, none⟩ (.int .i64 qa)).setCell ⟨D + 1, 2, none⟩ (.int .i64 pb)).setCell ⟨D + 1, 3, none⟩ (.int .i64 qb)).setCell ⟨D + 1, 4, none⟩ (.int .i64 pc)).setCell ⟨D + 1, 5, none⟩ (.int .i64 qc)) = U := ⟨_, rfl⟩
  have HW := Lib.hid (show Below D w U by rw [← hU]; exact ((((((hw1.setCell (p := ⟨D + 1, 0, none⟩) (show D ≤ D + 1 by omega) (.int .i64 pa)).setCell (p := ⟨D + 1, 1, none⟩) (show D ≤ D + 1 by omega) (.int .i64 qa)).setCell (p := ⟨D + 1, 2, none⟩) (show D ≤ D + 1 by omega) (.int .i64 pb)).setCell (p := ⟨D + 1, 3, none⟩) (show D ≤ D + 1 by omega) (.int .i64 qb)).setCell (p := ⟨D + 1, 4, none⟩) (show D ≤ D + 1 by omega) (.int .i64 pc)).setCell (p := ⟨D + 1, 5, none⟩) (show D ≤ D + 1 by omega) (.int .i64 qc)))
  have hE : U.heap[D + 1]? = some (.cells #[.int .i64 pa, .int .i64 qa, .int .i64 pb, .int .i64 qb, .int .i64 pc, .int .i64 qc] 25) := by rw [← hU]; exact (set6_5 (x := .int .i64 qc) (set6_4 (x := .int .i64 pc) (set6_3 (x := .int .i64 qb) (set6_2 (x := .int .i64 pb) (set6_1 (x := .int .i64 qa) (set6_0 (x := .int .i64 pa) h1))))))
  have HU := Lib.hid hU
  have z0 := cell6_0 hE
  have z1 := cell6_1 hE
  have z2 := cell6_2 hE
  have z3 := cell6_3 hE
  have z4 := cell6_4 hE
  have z5 := cell6_5 hE
  clear h1 h1a hw1 hw1a hb1 hE hU
  go_wp2
  rw [HU.out]
  refine bodyPost_ret (v := .agg #[.int .i64 pa, .int .i64 qa, .int .i64 pb, .int .i64 qb, .int .i64 pc, .int .i64 qc]) (by simp [results, Tryz.results26, go_sem, z0, z1, z2, z3, z4, z5]) rfl ⟨rfl, by rw [hD]; exact HW.out⟩
set_option maxRecDepth 10000 in
set_option maxHeartbeats 2000000 in
theorem lparts_any (x0 x1 x2 x3 x4 x5 : Int) (w : World) :
    Calls Tryz.prog 38 #[.agg #[.int .i64 x0, .int .i64 x1, .int .i64 x2, .int .i64 x3, .int .i64 x4, .int .i64 x5]] w fun e w' => e = .returned (.agg #[.int .i64 x0, .int .i64 x1, .int .i64 x2, .int .i64 x3, .int .i64 x4, .int .i64 x5]) ∧ Below w.heap.size w w' := by
  go_enter Tryz.func38, Tryz.ntmps38
  go_wp2
  refine bodyPost_ret (v := .agg #[.int .i64 x0, .int .i64 x1, .int .i64 x2, .int .i64 x3, .int .i64 x4, .int .i64 x5]) (by simp [results, Tryz.results38, go_sem]) rfl ⟨rfl, by go_grown⟩
end Go.Proofs.YthdoadkdofgenaaGreatDoor
