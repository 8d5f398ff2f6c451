/- The keys of the divisions. -/
import Derived.Test.YtinopmdefndhoaaDoorSpRo
namespace Go.Proofs.YtinopmdefndhoaaDoor
open Go Go.RowKit Go.Shelf

theorem hs_none (n : Nat) : Ns.has 0 0 n = false := by unfold Ns.has; split <;> simp
theorem wi_all (a b c d : Nat) (la : a < 18446744073709551616) (lb : b < 18446744073709551616) (lc : c < 18446744073709551616) (ld : d < 18446744073709551616) :
    Ns.withinB a b c d = (List.range 128).all fun m => !Ns.has a b m || Ns.has c d m := by
  unfold Ns.withinB
  cases h : (List.range 128).all fun m => !Ns.has a b m || Ns.has c d m with
  | true =>
    refine decide_eq_true (Ns.ext (Ns.wo_lt _ _ la) (Ns.wo_lt _ _ lb) (by decide) (by decide) fun m hm => ?_)
    rw [Ns.has_wo _ _ _ _ _ la lb lc ld, hs_none]
    have := List.all_eq_true.1 h m (List.mem_range.2 hm)
    revert this
    cases Ns.has a b m <;> cases Ns.has c d m <;> simp
  | false =>
    refine decide_eq_false fun ⟨h1, h2⟩ => ?_
    rw [← Bool.not_eq_true, List.all_eq_true] at h
    refine h fun m _ => ?_
    have := Ns.has_wo a b c d m la lb lc ld
    rw [h1, h2, hs_none] at this
    revert this
    cases Ns.has a b m <;> cases Ns.has c d m <;> simp


/-- What a division's cells hold. -/
structure DivD where
  nm : ByteArray
  ped : Bool
  lo : Int
  hi : Int
  sa : Option Addr
  sn : Nat
  sc : Nat
def DivsF (W : World) (v : Value) (n : Nat) (F : Nat → DivD) : Prop :=
  ∃ a c, v = .slice a n c ∧ (0 < n → ∃ g off, a = some ⟨g, off, none⟩ ∧ g < W.heap.size ∧ ∀ i, i < n → W.cell? ⟨g, off + i * 5, none⟩ = some (.string (F i).nm) ∧ W.cell? ⟨g, off + i * 5 + 1, none⟩ = some (.bool (F i).ped) ∧
    W.cell? ⟨g, off + i * 5 + 2, none⟩ = some (.int .i64 (F i).lo) ∧ W.cell? ⟨g, off + i * 5 + 3, none⟩ = some (.int .i64 (F i).hi) ∧ W.cell? ⟨g, off + i * 5 + 4, none⟩ = some (.slice (F i).sa (F i).sn (F i).sc))
theorem DivsF.below {W W' : World} {v : Value} {n : Nat} {F : Nat → DivD} (h : DivsF W v n F) (hb : Below W.heap.size W W') : DivsF W' v n F := by
  obtain ⟨a, c, rfl, h⟩ := h
  refine ⟨a, c, rfl, fun hn => ?_⟩
  obtain ⟨g, off, e, hg, hc⟩ := h hn
  refine ⟨g, off, e, Nat.lt_of_lt_of_le hg hb.size, fun i hi => ?_⟩
  obtain ⟨h0, h1, h2, h3, h4⟩ := hc i hi
  exact ⟨cell_upH hg hb h0, cell_upH hg hb h1, cell_upH hg hb h2, cell_upH hg hb h3, cell_upH hg hb h4⟩
theorem DivsF.peds {W : World} {v : Value} {n : Nat} {F : Nat → DivD} (h : DivsF W v n F) : DivsAt W v n (fun i => (F i).ped) := by
  obtain ⟨a, c, rfl, h⟩ := h
  refine ⟨a, c, rfl, fun hn => ?_⟩
  obtain ⟨g, off, e, hg, hc⟩ := h hn
  exact ⟨g, off, e, hg, fun i hi => (hc i hi).2.1⟩

/-- The error of one division's keys. -/
def divE (l h : Int) (s : Nat × Nat) : Int := if compE l h ≠ 0 then compE l h else if (setN s).all (fun (m : Nat) => decide (l ≤ (m : Int) ∧ (m : Int) ≤ h)) = true then 0 else 23
/-- The first error of all. -/
def keyE (F : Nat → DivD) (S : Nat → Nat × Nat) : Nat → Int
  | 0 => 0
  | k + 1 => if keyE F S k ≠ 0 then keyE F S k else divE (F k).lo (F k).hi (S k)
theorem keyE_stays (F : Nat → DivD) (S : Nat → Nat × Nat) (k : Nat) (h : keyE F S k ≠ 0) : ∀ n, k ≤ n → keyE F S n = keyE F S k := by
  intro n hn
  induction n with
  | zero => have : k = 0 := by omega
            subst this; rfl
  | succ n ih =>
    by_cases hk : k = n + 1
    · subst hk; rfl
    · have e := ih (by omega)
      show (if keyE F S n ≠ 0 then keyE F S n else _) = _
      rw [if_pos (by rw [e]; exact h), e]
theorem keyE_next (F : Nat → DivD) (S : Nat → Nat × Nat) (k n : Nat) (h : keyE F S k = 0) (hk : k < n) (hd : divE (F k).lo (F k).hi (S k) ≠ 0) : keyE F S n = divE (F k).lo (F k).hi (S k) := by
  have e : keyE F S (k + 1) = divE (F k).lo (F k).hi (S k) := by
    show (if keyE F S k ≠ 0 then keyE F S k else _) = _
    rw [if_neg (by simp [h])]
  rw [keyE_stays F S (k + 1) (by rw [e]; exact hd) n (by omega), e]
theorem within_set (l h : Int) (s : Nat × Nat) (hs : s.1 < 18446744073709551616 ∧ s.2 < 18446744073709551616) (hc : compE l h = 0) :
    Ns.withinB s.1 s.2 (rgLo l h) (rgHi l h) = (setN s).all (fun (m : Nat) => decide (l ≤ (m : Int) ∧ (m : Int) ≤ h)) := by
  obtain ⟨h1, h2, h3⟩ := compE_ok hc
  have hr := rg_lt l h
  rw [wi_all _ _ _ _ hs.1 hs.2 hr.1 hr.2, Bool.eq_iff_iff, List.all_eq_true, List.all_eq_true]
  unfold setN
  constructor
  · intro k m hm
    rw [Ns.mem_notes] at hm
    have := k m (List.mem_range.2 hm.1)
    rw [hm.2, has_rg l h m hm.1 h1 h2 h3] at this
    simpa using this
  · intro k m hm
    have hm := List.mem_range.1 hm
    cases hh : Ns.has s.1 s.2 m with
    | false => rfl
    | true =>
      rw [has_rg l h m hm h1 h2 h3]
      simpa using k m (Ns.mem_notes.2 ⟨hm, hh⟩)
theorem cellL {W : World} {b i : Nat} {l : List Value} {t : TypeId} {v : Value} (h : W.heap[b]? = some (.cells l.toArray t)) (hi : l[i]? = some v) : W.cell? ⟨b, i, none⟩ = some v := by simp [World.cell?, h, hi]
structure KeR (w : World) (D : Nat) (g o b7 : Nat) (s1 s2 r1 r2 : Nat) (A : World) : Prop where
  bel : Below D w A
  x0 : A.cell? ⟨g, o, none⟩ = some (.int .u64 (s1 : Nat))
  x1 : A.cell? ⟨g, o + 1, none⟩ = some (.int .u64 (s2 : Nat))
  cp : SetAt A b7 r1 r2
theorem KeR_up (w : World) (D : Nat) (g o b7 : Nat) (s1 s2 r1 r2 : Nat) (hD : w.heap.size = D) (hg : g < D) (X Y : World) (hb : Below X.heap.size X Y) (h : KeR w D g o b7 s1 s2 r1 r2 X) : KeR w D g o b7 s1 s2 r1 r2 Y :=
  have hz : D ≤ X.heap.size := by rw [← hD]; exact h.bel.size
  ⟨h.bel.trans (hb.mono hz), cell_upH (by omega) hb h.x0, cell_upH (by omega) hb h.x1, h.cp.below h.cp.lt hb⟩
def keA (g o n vc k b7 s1 s2 r1 r2 : Nat) : Nat → Value → World → Prop
  | 0, v, _ => v = .slice (some ⟨g, o, none⟩) n vc
  | 1, v, _ => v = .int .i64 (k : Nat)
  | 2, v, _ => v = .pointer (some ⟨g, o + k * 2, none⟩)
  | 3, v, _ => v = .agg #[.int .u64 s1, .int .u64 s2]
  | 4, v, _ => v = .agg #[.int .u64 r1, .int .u64 r2]
  | 5, v, _ => v = .bool false
  | 6, v, _ => v = .bool true
  | _, _, _ => True

theorem keA_up (g o n vc k b7 s1 s2 r1 r2 : Nat) : ∀ (j : Nat) (v : Value) (A B : World), Below A.heap.size A B → keA g o n vc k b7 s1 s2 r1 r2 j v A → keA g o n vc k b7 s1 s2 r1 r2 j v B
  | 0, _, _, _, _, h => h
  | 1, _, _, _, _, h => h
  | 2, _, _, _, _, h => h
  | 3, _, _, _, _, h => h
  | 4, _, _, _, _, h => h
  | 5, _, _, _, _, h => h
  | 6, _, _, _, _, h => h
  | _ + 7, _, _, _, _, _ => trivial

def keB (g o n vc k b7 s1 s2 r1 r2 : Nat) : Nat → Value → World → Prop
  | 0, v, _ => v = .slice (some ⟨g, o, none⟩) n vc
  | 1, v, _ => v = .int .i64 (k : Nat)
  | 2, v, _ => v = .pointer (some ⟨g, o + k * 2, none⟩)
  | 3, v, _ => v = .agg #[.int .u64 s1, .int .u64 s2]
  | 4, v, _ => v = .agg #[.int .u64 r1, .int .u64 r2]
  | 5, v, _ => v = .bool true
  | 6, v, _ => v = .bool false
  | _, _, _ => True

theorem keB_up (g o n vc k b7 s1 s2 r1 r2 : Nat) : ∀ (j : Nat) (v : Value) (A B : World), Below A.heap.size A B → keB g o n vc k b7 s1 s2 r1 r2 j v A → keB g o n vc k b7 s1 s2 r1 r2 j v B
  | 0, _, _, _, _, h => h
  | 1, _, _, _, _, h => h
  | 2, _, _, _, _, h => h
  | 3, _, _, _, _, h => h
  | 4, _, _, _, _, h => h
  | 5, _, _, _, _, h => h
  | 6, _, _, _, _, h => h
  | _ + 7, _, _, _, _, _ => trivial

set_option maxRecDepth 100000 in
set_option maxHeartbeats 4000000 in
theorem keys_any (lv kv : Value) (nl nk : Nat) (F : Nat → DivD) (S : Nat → Nat × Nat) (w : World) (hl : DivsF w lv nl F) (hk : SetsAt w kv nk S) (hn : nl ≤ 1000) (hn2 : nk ≤ 1000)
    (hS : ∀ i, i < nk → (S i).1 < 18446744073709551616 ∧ (S i).2 < 18446744073709551616) :
    Calls Tryd.prog 45 #[lv, kv] w fun e w' => e = .returned (.int .i64 (if nk ≠ nl then 5 else keyE F S nl)) ∧ Below w.heap.size w w' := by
  obtain ⟨la, lc, rfl, hl⟩ := hl
  obtain ⟨ka, vc, rfl, hk⟩ := hk
  obtain ⟨D, hD⟩ : ∃ D, w.heap.size = D := ⟨_, rfl⟩
  by_cases hne : nk = nl
  rotate_left
  · rw [if_pos hne]
    have hni : ¬ ((nk : Int) = (nl : Int)) := by omega
    go_enter Tryd.func45, Tryd.ntmps45
    go_wp2
    go_ret
    exact ⟨rfl, Below.refl _ _⟩
  subst hne
  rw [if_neg (by simp)]
  obtain ⟨n, hn0⟩ : ∃ n, nk = n := ⟨_, rfl⟩
  subst hn0
  have HL := Lib.hid hl
  have HK := Lib.hid hk
  clear hl hk
  go_enter Tryd.func45, Tryd.ntmps45
  go_wp2_with fail
  go_loopw [16] (fun i wr => ∃ k : Nat, k ≤ nk ∧ i = .int .i64 (k : Nat) ∧ keyE F S k = 0 ∧ Below D w wr) (fun i _ => nk - (intOf i).toNat)
  case atStart => exact ⟨0, Nat.zero_le _, rfl, rfl, by rw [← hD]; exact Below.refl _ _⟩
  case round =>
    obtain ⟨k, hk, rfl, hke, hwr⟩ := hrel
    by_cases hkn : k = nk
    · subst hkn
      have hlt : ¬ (k : Int) < (k : Int) := by omega
      go_wp2
      go_ret
      exact ⟨by first | rfl | (rw [hke]; rfl), by first | exact hwr | (rw [hD]; exact hwr)⟩
    · have hkl : (k : Int) < (nk : Int) := by omega
      obtain ⟨gl, ol, rfl, hgl, hcl⟩ := HL.out (by omega)
      obtain ⟨g, o, rfl, hg, hck⟩ := HK.out (by omega)
      obtain ⟨z0, z1, z2, z3, z4⟩ := hcl k (by omega)
      obtain ⟨p0, p1⟩ := hck k (by omega)
      have hs := hS k (by omega)
      have NX := Lib.hid (fun hd => keyE_next F S k nk hke (by omega) hd)
      have NZ := Lib.hid (show divE (F k).lo (F k).hi (S k) = 0 → keyE F S (k + 1) = 0 from fun hd => by
        show (if keyE F S k ≠ 0 then keyE F S k else _) = _
        rw [if_neg (by simp [hke]), hd])
      generalize F k = f at *
      generalize S k = s at *
      obtain ⟨nm, pd, l, h, sa, sn, sc⟩ := f
      obtain ⟨s1, s2⟩ := s
      simp only at z0 z1 z2 z3 z4 p0 p1 hs NX NZ
      have hgD : g < D := by omega
      have hlD : gl < D := by omega
      have z0 := cell_upH hlD hwr z0
      have z1 := cell_upH hlD hwr z1
      have z2 := cell_upH hlD hwr z2
      have z3 := cell_upH hlD hwr z3
      have z4 := cell_upH hlD hwr z4
      have hzr : D ≤ wr.heap.size := by rw [← hD]; exact hwr.size
      obtain ⟨X, hX⟩ : ∃ X, wr.alloc (.cells #[.string nm, .bool pd, .int .i64 l, .int .i64 h, .slice sa sn sc] 53) = X := ⟨_, rfl⟩
      have hwX : Below D w X := by rw [← hX]; exact hwr.alloc hzr _
      obtain ⟨b6, hb6⟩ : ∃ b6, wr.heap.size = b6 := ⟨_, rfl⟩
      have hbX : X.heap[b6]? = some (.cells #[.string nm, .bool pd, .int .i64 l, .int .i64 h, .slice sa sn sc] 53) := by rw [← hX, ← hb6]; exact World.alloc_heap_new wr _
      have HX := Lib.hid hX
      have y2 : X.cell? ⟨b6, 2, none⟩ = some (.int .i64 l) := cellL (l := [.string nm, .bool pd, .int .i64 l, .int .i64 h, .slice sa sn sc]) hbX rfl
      have y3 : X.cell? ⟨b6, 3, none⟩ = some (.int .i64 h) := cellL (l := [.string nm, .bool pd, .int .i64 l, .int .i64 h, .slice sa sn sc]) hbX rfl
      have hzX : D ≤ X.heap.size := by rw [← hD]; exact hwX.size
      clear hX hbX hck hcl
      by_cases hce : compE l h = 0
      rotate_left
      · have RB := Lib.hid (fun W => range_bad l h hce W)
        have hdv : divE l h (s1, s2) = compE l h := if_pos hce
        generalize compE l h = z at *
        have hzz : (z != 0) = true := by simp [hce]
        go_wp2_with fail
        rw [HX.out]
        refine (RB.out _).mono ?_
        rintro e v1 ⟨rfl, hb1⟩
        go_wp2
        go_ret
        exact ⟨by rw [NX.out (by rw [hdv]; exact hce), hdv]; rfl, by rw [hD]; exact (hwX.trans (hb1.mono hzX)).alloc (by have := hb1.size; omega) _⟩
      obtain ⟨q1, q2, q3⟩ := compE_ok hce
      have RO := Lib.hid (fun W => range_ok l h q1 q2 q3 W)
      have hrl := rg_lt l h
      have hws := within_set l h (s1, s2) hs hce
      have wi := fun W => within_any s1 s2 (rgLo l h) (rgHi l h) hs.1 hs.2 hrl.1 hrl.2 W
      simp only at hws
      rw [hws] at wi
      clear hws hrl q1 q2 q3
      have hdv : divE l h (s1, s2) = if (setN (s1, s2)).all (fun (m : Nat) => decide (l ≤ (m : Int) ∧ (m : Int) ≤ h)) = true then 0 else 23 := if_neg (by simp [hce])
      rw [hdv] at NX NZ
      clear hdv hce
      generalize rgLo l h = r1 at *
      generalize rgHi l h = r2 at *
      have p0 := cell_upH hgD hwX p0
      have p1 := cell_upH hgD hwX p1
      generalize (setN (s1, s2)).all (fun (m : Nat) => decide (l ≤ (m : Int) ∧ (m : Int) ≤ h)) = wb at *
      go_wp2_with fail
      rw [HX.out]
      refine (RO.out _).mono ?_
      rintro e v1 ⟨rfl, hb1⟩
      have hwv := hwX.trans (hb1.mono hzX)
      have hzv : D ≤ v1.heap.size := by rw [← hD]; exact hwv.size
      obtain ⟨b7, hb7⟩ : ∃ b7, v1.heap.size = b7 := ⟨_, rfl⟩
      obtain ⟨Y, hY⟩ : ∃ Y, v1.alloc (.cells #[.int .u64 (r1 : Nat), .int .u64 (r2 : Nat)] 26) = Y := ⟨_, rfl⟩
      have HR := Lib.hid (show KeR w D g (o + k * 2) b7 s1 s2 r1 r2 Y from by
        rw [← hY]
        exact ⟨hwv.alloc hzv _, cell_upH (by omega) ((hb1.mono hzX).alloc hzv _) p0, cell_upH (by omega) ((hb1.mono hzX).alloc hzv _) p1, by rw [← hb7]; exact SetAt.new v1 _ _⟩)
      have HY := Lib.hid hY
      clear hY hwv hwX hb1 HX y2 y3 z0 z1 z2 z3 z4 p0 p1 HL HK hwr hzr hzX RO hs hS
      cases wb with
      | false =>
        have WI := Lib.hid wi
        clear wi
        go_wp2_with fail
        rw [HY.out]
        refine wp_region_slots_at rfl rfl (fun base ys => ((((((base.set 30 (ys 0)).set 31 (ys 1)).set 32 (ys 2)).set 33 (ys 3)).set 34 (ys 4)).set 35 (ys 5)).set 36 (ys 6)) (BelowI _ (KeR w D g (o + k * 2) b7 s1 s2 r1 r2) (keA g o nk vc k b7 s1 s2 r1 r2)) (fun | 0 => u30 | 1 => u31 | 2 => u32 | 3 => u33 | 4 => u34 | 5 => u35 | 6 => u36 | _ => undef) (by kernel_rfl) (below_start (KeR_up w D g (o + k * 2) b7 s1 s2 r1 r2 hD hgD _ _ ((Below.refl _ _).drew) HR.out)) ?h
        case h =>
          intro FF hFF
          simp only [List.set_cons_succ, List.set_cons_zero] at hFF
          subst hFF
          refine ⟨rfl, ?_, ?_⟩
          refine ⟨?_, ?_⟩
          · refine SlotStep.below (KeR_up w D g (o + k * 2) b7 s1 s2 r1 r2 hD hgD) (keA_up g o nk vc k b7 s1 s2 r1 r2) ?_
            intro ys W hR hd K hK
            go_simp
            have hK2 := hK (.slice (some ⟨g, o, none⟩) nk vc) _ (Below.refl _ _) rfl
            simp (config := { decide := true }) only [upd, if_true, if_false] at hK2
            exact hK2
          refine ⟨?_, ?_⟩
          · refine SlotStep.below (KeR_up w D g (o + k * 2) b7 s1 s2 r1 r2 hD hgD) (keA_up g o nk vc k b7 s1 s2 r1 r2) ?_
            intro ys W hR hd K hK
            go_simp
            have hK2 := hK (.int .i64 (k : Nat)) _ (Below.refl _ _) rfl
            simp (config := { decide := true }) only [upd, if_true, if_false] at hK2
            exact hK2
          refine ⟨?_, ?_⟩
          · refine SlotStep.below (KeR_up w D g (o + k * 2) b7 s1 s2 r1 r2 hD hgD) (keA_up g o nk vc k b7 s1 s2 r1 r2) ?_
            intro ys W hR hd K hK
            have dd0 : ys 0 = (.slice (some ⟨g, o, none⟩) nk vc) := hd 0 (by kernel_rfl) (by decide)
            have dd1 : ys 1 = (.int .i64 (k : Nat)) := hd 1 (by kernel_rfl) (by decide)
            go_simp
            have hK2 := hK (.pointer (some ⟨g, o + k * 2, none⟩)) _ (Below.refl _ _) rfl
            simp (config := { decide := true }) only [upd, if_true, if_false, dd0, dd1] at hK2
            exact hK2
          refine ⟨?_, ?_⟩
          · refine SlotStep.below (KeR_up w D g (o + k * 2) b7 s1 s2 r1 r2 hD hgD) (keA_up g o nk vc k b7 s1 s2 r1 r2) ?_
            intro ys W hR hd K hK
            have dd2 : ys 2 = (.pointer (some ⟨g, o + k * 2, none⟩)) := hd 2 (by kernel_rfl) (by decide)
            have c0 := hR.x0
            have c1 := hR.x1
            go_simp
            have hK2 := hK (.agg #[.int .u64 s1, .int .u64 s2]) _ (Below.refl _ _) rfl
            simp (config := { decide := true }) only [upd, if_true, if_false, dd2] at hK2
            exact hK2
          refine ⟨?_, ?_⟩
          · refine SlotStep.below (KeR_up w D g (o + k * 2) b7 s1 s2 r1 r2 hD hgD) (keA_up g o nk vc k b7 s1 s2 r1 r2) ?_
            intro ys W hR hd K hK
            have c0 := hR.cp.fst
            have c1 := hR.cp.snd
            go_simp
            have hK2 := hK (.agg #[.int .u64 r1, .int .u64 r2]) _ (Below.refl _ _) rfl
            simp (config := { decide := true }) only [upd, if_true, if_false] at hK2
            exact hK2
          refine ⟨?_, ?_⟩
          · refine SlotStep.below (KeR_up w D g (o + k * 2) b7 s1 s2 r1 r2 hD hgD) (keA_up g o nk vc k b7 s1 s2 r1 r2) ?_
            intro ys W hR hd K hK
            have dd3 : ys 3 = (.agg #[.int .u64 s1, .int .u64 s2]) := hd 3 (by kernel_rfl) (by decide)
            have dd4 : ys 4 = (.agg #[.int .u64 r1, .int .u64 r2]) := hd 4 (by kernel_rfl) (by decide)
            go_simp
            refine (WI.out W).mono ?_
            rintro e w5 ⟨rfl, hb5⟩
            have hK2 := hK (.bool false) _ hb5 rfl
            simp (config := { decide := true }) only [upd, if_true, if_false, dd3, dd4] at hK2
            exact hK2
          refine ⟨?_, ?_⟩
          · refine SlotStep.below (KeR_up w D g (o + k * 2) b7 s1 s2 r1 r2 hD hgD) (keA_up g o nk vc k b7 s1 s2 r1 r2) ?_
            intro ys W hR hd K hK
            have dd5 : ys 5 = (.bool false) := hd 5 (by kernel_rfl) (by decide)
            go_simp
            have hK2 := hK (.bool true) _ (Below.refl _ _) rfl
            simp (config := { decide := true }) only [upd, if_true, if_false, dd5] at hK2
            exact hK2
          trivial
          · intro L ys W hL hI
            obtain ⟨hR, hj⟩ := hI
            have y6 : ys 6 = .bool true := hj 6 (by decide) (hL 6 (by decide))
            have HW := Lib.hid hR.bel
            clear hR hj hL
            simp only [y6]
            go_wp2
            go_ret
            exact ⟨by rw [NX.out (by simp)]; rfl, by rw [hD]; exact HW.out⟩
      | true =>
        have WI := Lib.hid wi
        clear wi
        go_wp2_with fail
        rw [HY.out]
        refine wp_region_slots_at rfl rfl (fun base ys => ((((((base.set 30 (ys 0)).set 31 (ys 1)).set 32 (ys 2)).set 33 (ys 3)).set 34 (ys 4)).set 35 (ys 5)).set 36 (ys 6)) (BelowI _ (KeR w D g (o + k * 2) b7 s1 s2 r1 r2) (keB g o nk vc k b7 s1 s2 r1 r2)) (fun | 0 => u30 | 1 => u31 | 2 => u32 | 3 => u33 | 4 => u34 | 5 => u35 | 6 => u36 | _ => undef) (by kernel_rfl) (below_start (KeR_up w D g (o + k * 2) b7 s1 s2 r1 r2 hD hgD _ _ ((Below.refl _ _).drew) HR.out)) ?h
        case h =>
          intro FF hFF
          simp only [List.set_cons_succ, List.set_cons_zero] at hFF
          subst hFF
          refine ⟨rfl, ?_, ?_⟩
          refine ⟨?_, ?_⟩
          · refine SlotStep.below (KeR_up w D g (o + k * 2) b7 s1 s2 r1 r2 hD hgD) (keB_up g o nk vc k b7 s1 s2 r1 r2) ?_
            intro ys W hR hd K hK
            go_simp
            have hK2 := hK (.slice (some ⟨g, o, none⟩) nk vc) _ (Below.refl _ _) rfl
            simp (config := { decide := true }) only [upd, if_true, if_false] at hK2
            exact hK2
          refine ⟨?_, ?_⟩
          · refine SlotStep.below (KeR_up w D g (o + k * 2) b7 s1 s2 r1 r2 hD hgD) (keB_up g o nk vc k b7 s1 s2 r1 r2) ?_
            intro ys W hR hd K hK
            go_simp
            have hK2 := hK (.int .i64 (k : Nat)) _ (Below.refl _ _) rfl
            simp (config := { decide := true }) only [upd, if_true, if_false] at hK2
            exact hK2
          refine ⟨?_, ?_⟩
          · refine SlotStep.below (KeR_up w D g (o + k * 2) b7 s1 s2 r1 r2 hD hgD) (keB_up g o nk vc k b7 s1 s2 r1 r2) ?_
            intro ys W hR hd K hK
            have dd0 : ys 0 = (.slice (some ⟨g, o, none⟩) nk vc) := hd 0 (by kernel_rfl) (by decide)
            have dd1 : ys 1 = (.int .i64 (k : Nat)) := hd 1 (by kernel_rfl) (by decide)
            go_simp
            have hK2 := hK (.pointer (some ⟨g, o + k * 2, none⟩)) _ (Below.refl _ _) rfl
            simp (config := { decide := true }) only [upd, if_true, if_false, dd0, dd1] at hK2
            exact hK2
          refine ⟨?_, ?_⟩
          · refine SlotStep.below (KeR_up w D g (o + k * 2) b7 s1 s2 r1 r2 hD hgD) (keB_up g o nk vc k b7 s1 s2 r1 r2) ?_
            intro ys W hR hd K hK
            have dd2 : ys 2 = (.pointer (some ⟨g, o + k * 2, none⟩)) := hd 2 (by kernel_rfl) (by decide)
            have c0 := hR.x0
            have c1 := hR.x1
            go_simp
            have hK2 := hK (.agg #[.int .u64 s1, .int .u64 s2]) _ (Below.refl _ _) rfl
            simp (config := { decide := true }) only [upd, if_true, if_false, dd2] at hK2
            exact hK2
          refine ⟨?_, ?_⟩
          · refine SlotStep.below (KeR_up w D g (o + k * 2) b7 s1 s2 r1 r2 hD hgD) (keB_up g o nk vc k b7 s1 s2 r1 r2) ?_
            intro ys W hR hd K hK
            have c0 := hR.cp.fst
            have c1 := hR.cp.snd
            go_simp
            have hK2 := hK (.agg #[.int .u64 r1, .int .u64 r2]) _ (Below.refl _ _) rfl
            simp (config := { decide := true }) only [upd, if_true, if_false] at hK2
            exact hK2
          refine ⟨?_, ?_⟩
          · refine SlotStep.below (KeR_up w D g (o + k * 2) b7 s1 s2 r1 r2 hD hgD) (keB_up g o nk vc k b7 s1 s2 r1 r2) ?_
            intro ys W hR hd K hK
            have dd3 : ys 3 = (.agg #[.int .u64 s1, .int .u64 s2]) := hd 3 (by kernel_rfl) (by decide)
            have dd4 : ys 4 = (.agg #[.int .u64 r1, .int .u64 r2]) := hd 4 (by kernel_rfl) (by decide)
            go_simp
            refine (WI.out W).mono ?_
            rintro e w5 ⟨rfl, hb5⟩
            have hK2 := hK (.bool true) _ hb5 rfl
            simp (config := { decide := true }) only [upd, if_true, if_false, dd3, dd4] at hK2
            exact hK2
          refine ⟨?_, ?_⟩
          · refine SlotStep.below (KeR_up w D g (o + k * 2) b7 s1 s2 r1 r2 hD hgD) (keB_up g o nk vc k b7 s1 s2 r1 r2) ?_
            intro ys W hR hd K hK
            have dd5 : ys 5 = (.bool true) := hd 5 (by kernel_rfl) (by decide)
            go_simp
            have hK2 := hK (.bool false) _ (Below.refl _ _) rfl
            simp (config := { decide := true }) only [upd, if_true, if_false, dd5] at hK2
            exact hK2
          trivial
          · intro L ys W hL hI
            obtain ⟨hR, hj⟩ := hI
            have y6 : ys 6 = .bool false := hj 6 (by decide) (hL 6 (by decide))
            have HW := Lib.hid hR.bel
            clear hR hj hL
            simp only [y6]
            go_wp2_with fail
            go_roundw
            case rel => exact ⟨k + 1, by omega, by go_num, NZ.out rfl, HW.out⟩
            case measure => simp [intOf]; omega
end Go.Proofs.YtinopmdefndhoaaDoor
