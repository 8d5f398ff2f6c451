/- Contracts of subtractTimes and subMagnitudes. -/
import Derived.Test.YtnchodofgaaeeaaGreatDoorImI
namespace Go.Proofs.YtnchodofgaaeeaaGreatDoor
open Go Go.RowKit Go.Shelf

/-- Only n cells of one block, from o on, have been written. -/
structure Win (b o n : Nat) (A B : World) : Prop where
  size : B.heap.size = A.heap.size
  same : ∀ k, k ≠ b → B.heap[k]? = A.heap[k]?
  cell : ∀ j, (j < o ∨ o + n ≤ j) → B.cell? ⟨b, j, none⟩ = A.cell? ⟨b, j, none⟩
  frozen : ∀ j, B.frozen? ⟨b, j, none⟩ = A.frozen? ⟨b, j, none⟩
  below : ∀ L, L ≤ b → Below L A B
theorem Win.refl (b o n : Nat) (A : World) : Win b o n A A := ⟨rfl, fun _ _ => rfl, fun _ _ => rfl, fun _ => rfl, fun _ _ => Below.refl _ _⟩
theorem Win.set {b o n : Nat} {A B : World} (h : Win b o n A B) {k : Nat} (hk : k < n) (v : Value) : Win b o n A (B.setCell ⟨b, o + k, none⟩ v) where
  size := by have := h.size; simpa [World.setCell] using this
  same := fun k hk => (Below.heap_setCell _ _ _ _ hk).trans (h.same k hk)
  cell := fun j hj => (World.cell?_setCell_other _ _ _ _ (fun e => by have := congrArg Addr.off e; simp at this; omega)).trans (h.cell j hj)
  frozen := fun j => by have := h.frozen j; simpa using this
  below := fun L hL => (h.below L hL).setCell hL _
theorem Win.trans {b o n : Nat} {A B C : World} (h : Win b o n A B) (k : Win b o n B C) : Win b o n A C :=
  ⟨k.size.trans h.size, fun i hi => (k.same i hi).trans (h.same i hi), fun j hj => (k.cell j hj).trans (h.cell j hj), fun j => (k.frozen j).trans (h.frozen j), fun L hL => (h.below L hL).trans (k.below L hL)⟩
theorem Win.row {b o n : Nat} {A B : World} (h : Win b o n A B) {sa : Option Addr} {m cap b' o' x : Nat} (r : Row A sa m cap b' o' x) (hne : 0 < m → b' ≠ b) : Row B sa m cap b' o' x :=
  ⟨r.cap, r.at_, fun p => by have := r.lt p; have := h.size; omega, fun k hk => (World.cell?_of_block (a := ⟨b', o' + k, none⟩) (h.same b' (hne (by omega)))).trans (r.cell k hk), r.fits⟩

/-- The carry of the product f y at place k. -/
def pc (f y k : Nat) : Nat := (f * (y % BB ^ k)) / BB ^ k
theorem pc_zero (f y : Nat) : pc f y 0 = 0 := by simp [pc, Nat.mod_one]
theorem pc_le (f y k : Nat) : pc f y k ≤ f := by
  unfold pc
  have hp : 0 < BB ^ k := Nat.pow_pos (by unfold BB; omega)
  have h1 := Nat.mod_lt y hp
  refine Nat.div_le_of_le_mul ?_
  rw [Nat.mul_comm]
  exact Nat.mul_le_mul_right f (by omega)
theorem pc_sum (f y k : Nat) : pc f y k + dg y k * f = (f * (y % BB ^ (k + 1))) / BB ^ k := by
  have hp : 0 < BB ^ k := Nat.pow_pos (by unfold BB; omega)
  unfold pc dg
  rw [Im.mod_succ y k, Nat.mul_add, show f * (BB ^ k * Im.dg BB y k) = BB ^ k * (Im.dg BB y k * f) by rw [Nat.mul_left_comm, Nat.mul_comm f], Nat.add_mul_div_left _ _ hp]
theorem pc_digit (f y k : Nat) : (pc f y k + dg y k * f) % 1000000000 = dg (f * y) k := by
  rw [pc_sum]
  exact Im.dg_mod (b := BB) (m := f * (y % BB ^ (k + 1))) (n := f * y) (by simp [Nat.mul_mod])
theorem pc_next (f y k : Nat) : (pc f y k + dg y k * f) / 1000000000 = pc f y (k + 1) := by
  rw [pc_sum]
  unfold pc
  rw [Nat.pow_succ BB k, ← Nat.div_div_eq_div_mul]
  rfl
theorem sub_step {Z P X n k : Nat} (hk : k < n) (h : (Z + P) % BB ^ n = X % BB ^ n) : (cy Z P k + dg Z k + dg P k) % 1000000000 = dg X k := by
  rw [cy_digit]
  have hd : BB ^ (k + 1) ∣ BB ^ n := Nat.pow_dvd_pow _ (by omega)
  exact Im.dg_mod (by rw [← Nat.mod_mod_of_dvd (Z + P) hd, h, Nat.mod_mod_of_dvd _ hd])

theorem fin_cells {w A : World} {ba oa n k : Nat} {dz dx : Nat → Nat} {q v : Value} (hk : k < n) (hw : Win ba oa n w A) (hq : A.cell? ⟨ba, oa + k, none⟩ = some q) (hv : v = .int .u64 (dz k : Nat))
    (hlo : ∀ j, j < k → A.cell? ⟨ba, oa + j, none⟩ = some (.int .u64 (dz j : Nat))) (hhi : ∀ j, k + 1 ≤ j → j < n → A.cell? ⟨ba, oa + j, none⟩ = some (.int .u64 (dx j : Nat))) :
    Win ba oa n w (A.setCell ⟨ba, oa + k, none⟩ v) ∧ (∀ j, j < k + 1 → (A.setCell ⟨ba, oa + k, none⟩ v).cell? ⟨ba, oa + j, none⟩ = some (.int .u64 (dz j : Nat))) ∧ ∀ j, k + 1 ≤ j → j < n → (A.setCell ⟨ba, oa + k, none⟩ v).cell? ⟨ba, oa + j, none⟩ = some (.int .u64 (dx j : Nat)) := by
  refine ⟨hw.set hk v, fun j hj => ?_, fun j hj hjn => ?_⟩
  · by_cases e : j = k
    · subst e
      rw [World.cell?_setCell_same _ _ _ hq, hv]
    · exact (World.cell?_setCell_other _ _ _ _ (fun e2 => by have := congrArg Addr.off e2; simp at this; omega)).trans (hlo j (by omega))
  · exact (World.cell?_setCell_other _ _ _ _ (fun e2 => by have := congrArg Addr.off e2; simp at this; omega)).trans (hhi j (by omega) hjn)
theorem cell_else {A : World} {ba oa j k : Nat} {v : Value} (h : j ≠ k) : (A.setCell ⟨ba, oa + k, none⟩ v).cell? ⟨ba, oa + j, none⟩ = A.cell? ⟨ba, oa + j, none⟩ :=
  World.cell?_setCell_other _ _ _ _ (fun e2 => by have := congrArg Addr.off e2; simp at this; omega)

set_option maxRecDepth 100000 in
set_option maxHeartbeats 4000000 in
theorem subT_any (ba oa n capa X : Nat) (sy : Option Addr) (ny cpy by_ oy y f Z : Nat) (w : World) (hn : n ≤ 1048576) (hny : ny ≤ n) (hcap : n ≤ capa) (_hlt : ba < w.heap.size)
    (hX : ∀ k, k < n → w.cell? ⟨ba, oa + k, none⟩ = some (.int .u64 (dg X k : Nat))) (hfr : ∀ k, k < n → w.frozen? ⟨ba, oa + k, none⟩ = false)
    (hy : Row w sy ny cpy by_ oy y) (hne : 0 < ny → by_ ≠ ba) (hf : f < 1000000000) (hZ : (Z + f * y) % BB ^ n = X % BB ^ n) :
    Calls Tryz.prog 110 #[.slice (some ⟨ba, oa, none⟩) n capa, .slice sy ny cpy, .int .u64 f] w fun e w' => e = .returned (.bool (decide (cy Z (f * y) n = 1))) ∧ Win ba oa n w w' ∧ ∀ k, k < n → w'.cell? ⟨ba, oa + k, none⟩ = some (.int .u64 (dg Z k : Nat)) := by
  have HX := Lib.hid hX
  have HF := Lib.hid hfr
  have HY := Lib.hid hy
  have HZ := Lib.hid hZ
  have HD := Lib.hid (fun k (h : ny ≤ k) => show dg y k = 0 from Im.dg_high (Nat.lt_of_lt_of_le hy.fits (Nat.pow_le_pow_right (by unfold BB; omega) h)))
  have hcy := hy.cap
  clear hX hfr hy hZ
  go_enter Tryz.func110, Tryz.ntmps110
  go_wp2_with fail
  go_loopw [7, 8, 13] (fun c r i wr => ∃ k : Nat, k ≤ n ∧ i = .int .i64 (k : Int) ∧ c = .int .u64 (pc f y k : Nat) ∧ r = .int .u64 (cy Z (f * y) k : Nat) ∧ Win ba oa n w wr ∧ (∀ j, j < k → wr.cell? ⟨ba, oa + j, none⟩ = some (.int .u64 (dg Z j : Nat))) ∧ ∀ j, k ≤ j → j < n → wr.cell? ⟨ba, oa + j, none⟩ = some (.int .u64 (dg X j : Nat))) (fun _ _ i _ => n - (intOf i).toNat)
  case atStart => exact ⟨0, Nat.zero_le _, rfl, by rw [pc_zero]; rfl, by rw [cy_zero]; rfl, Win.refl _ _ _ _, fun j hj => absurd hj (Nat.not_lt_zero _), fun j _ hj => HX.out j hj⟩
  case round =>
    obtain ⟨k, hk, rfl, rfl, rfl, hw, hlo, hhi⟩ := hrel
    have HLO := Lib.hid hlo
    have HHI := Lib.hid hhi
    clear hlo hhi
    by_cases h1 : k < n
    · have hki : (k : Int) < (n : Int) := by omega
      have ca := HHI.out k (Nat.le_refl _) h1
      have cf : wr.frozen? ⟨ba, oa + k, none⟩ = false := (hw.frozen _).trans (HF.out k h1)
      have S := sub_step h1 HZ.out
      have N := cy_next Z (f * y) k
      have P1 := pc_digit f y k
      have P2 := pc_next f y k
      have l0 := pc_le f y k
      have l1 := cy_le Z (f * y) k
      have l2 := dg_lt Z k
      have l3 := dg_lt X k
      have l4 := dg_lt y k
      have l5 := dg_lt (f * y) k
      have m1 : dg y k * f ≤ 1000000000 * 1000000000 := Nat.mul_le_mul (by omega) (by omega)
      by_cases h2 : k < ny
      · have hkj : (k : Int) < (ny : Int) := by omega
        have cb : wr.cell? ⟨by_, oy + k, none⟩ = some (.int .u64 (dg y k : Nat)) := (World.cell?_of_block (a := ⟨by_, oy + k, none⟩) (hw.same by_ (hne (by omega)))).trans (HY.out.cell k h2)
        obtain rfl := HY.out.at_ (by omega)
        obtain ⟨t, ht⟩ : ∃ t, dg y k * f = t := ⟨_, rfl⟩
        have hti : (dg y k : Int) * (f : Int) = (t : Int) := by rw [← ht]; simp
        rw [ht] at P1 P2 m1
        generalize pc f y k = c at *
        generalize cy Z (f * y) k = r at *
        generalize dg (f * y) k = p at *
        have hci : ((c : Int) + (t : Int)) % 1000000000 = (p : Int) := by omega
        by_cases h3 : dg X k < p + r
        · have h3i : ((dg X k : Nat) : Int) < (p : Int) + (r : Int) := by omega
          have hone : cy Z (f * y) (k + 1) = 1 := by omega
          have hval : (.int .u64 (((dg X k : Nat) : Int) + 1000000000 - ((p : Int) + (r : Int))) : Value) = .int .u64 (dg Z k : Nat) := by congr 1; omega
          have FC := Lib.hid (fun u => fin_cells (dz := dg Z) (dx := dg X) h1 (hw.set h1 u) (World.cell?_setCell_same _ _ _ ca) hval (fun j hj => (cell_else (by omega)).trans (HLO.out j hj)) (fun j hj hjn => (cell_else (by omega)).trans (HHI.out j (by omega) hjn)))
          have HO := Lib.hid hone
          have HP := Lib.hid P2
          clear S N P1 P2 hone hval
          generalize hx : dg X k = dx at *
          generalize dg y k = dy at *
          go_wp2_with fail
          go_roundw
          case rel => exact ⟨k + 1, by omega, by go_num, by rw [← HP.out]; congr 1, by rw [HO.out]; rfl, FC.out _⟩
          case measure => simp [intOf]; omega
        · have h3i : ¬ ((dg X k : Nat) : Int) < (p : Int) + (r : Int) := by omega
          have hone : cy Z (f * y) (k + 1) = 0 := by omega
          have hval : (.int .u64 (((dg X k : Nat) : Int) - ((p : Int) + (r : Int))) : Value) = .int .u64 (dg Z k : Nat) := by congr 1; omega
          have FC := Lib.hid (fin_cells (dz := dg Z) (dx := dg X) h1 hw ca hval HLO.out (fun j hj hjn => HHI.out j (by omega) hjn))
          have HO := Lib.hid hone
          have HP := Lib.hid P2
          clear S N P1 P2 hone hval
          generalize hx : dg X k = dx at *
          generalize dg y k = dy at *
          go_wp2_with fail
          go_roundw
          case rel => exact ⟨k + 1, by omega, by go_num, by rw [← HP.out]; congr 1, by rw [HO.out]; rfl, FC.out⟩
          case measure => simp [intOf]; omega
      · have hkj : ¬ (k : Int) < (ny : Int) := by omega
        have hd0 := HD.out k (by omega)
        rw [hd0, Nat.zero_mul] at P1 P2
        generalize pc f y k = c at *
        generalize cy Z (f * y) k = r at *
        generalize dg (f * y) k = p at *
        have hci : (c : Int) % 1000000000 = (p : Int) := by omega
        clear hd0 m1 l4
        by_cases h3 : dg X k < p + r
        · have h3i : ((dg X k : Nat) : Int) < (p : Int) + (r : Int) := by omega
          have hone : cy Z (f * y) (k + 1) = 1 := by omega
          have hval : (.int .u64 (((dg X k : Nat) : Int) + 1000000000 - ((p : Int) + (r : Int))) : Value) = .int .u64 (dg Z k : Nat) := by congr 1; omega
          have FC := Lib.hid (fun u => fin_cells (dz := dg Z) (dx := dg X) h1 (hw.set h1 u) (World.cell?_setCell_same _ _ _ ca) hval (fun j hj => (cell_else (by omega)).trans (HLO.out j hj)) (fun j hj hjn => (cell_else (by omega)).trans (HHI.out j (by omega) hjn)))
          have HO := Lib.hid hone
          have HP := Lib.hid P2
          clear S N P1 P2 hone hval
          generalize hx : dg X k = dx at *
          skip
          go_wp2_with fail
          go_roundw
          case rel => exact ⟨k + 1, by omega, by go_num, by rw [← HP.out]; congr 1, by rw [HO.out]; rfl, FC.out _⟩
          case measure => simp [intOf]; omega
        · have h3i : ¬ ((dg X k : Nat) : Int) < (p : Int) + (r : Int) := by omega
          have hone : cy Z (f * y) (k + 1) = 0 := by omega
          have hval : (.int .u64 (((dg X k : Nat) : Int) - ((p : Int) + (r : Int))) : Value) = .int .u64 (dg Z k : Nat) := by congr 1; omega
          have FC := Lib.hid (fin_cells (dz := dg Z) (dx := dg X) h1 hw ca hval HLO.out (fun j hj hjn => HHI.out j (by omega) hjn))
          have HO := Lib.hid hone
          have HP := Lib.hid P2
          clear S N P1 P2 hone hval
          generalize hx : dg X k = dx at *
          skip
          go_wp2_with fail
          go_roundw
          case rel => exact ⟨k + 1, by omega, by go_num, by rw [← HP.out]; congr 1, by rw [HO.out]; rfl, FC.out⟩
          case measure => simp [intOf]; omega
    · obtain rfl : k = n := by omega
      have hd : (((cy Z (f * y) k : Nat) : Int) == 1) = decide (cy Z (f * y) k = 1) := by
        rw [Bool.eq_iff_iff]; simp; omega
      have HDD := Lib.hid hd
      clear hd
      go_wp2_with fail
      go_ret
      exact ⟨ret_bool HDD.out, hw, HLO.out⟩

theorem subT_zero (sa sy : Option Addr) (ca ny cpy f : Nat) (w : World) :
    Calls Tryz.prog 110 #[.slice sa 0 ca, .slice sy ny cpy, .int .u64 f] w fun e w' => e = .returned (.bool false) ∧ w' = w := by
  go_enter Tryz.func110, Tryz.ntmps110
  go_wp2_with fail
  go_loop [8, 13] (fun r i => i = .int .i64 0 ∧ r = .int .u64 0) (fun _ _ => 0)
  case atStart => exact ⟨rfl, rfl⟩
  case round =>
    obtain ⟨rfl, rfl⟩ := hrel
    go_wp2
    go_ret
    exact ⟨rfl, rfl⟩

set_option maxRecDepth 100000 in
theorem clone_some (bx ox cx n x : Nat) (w : World) (hx : Row w (some ⟨bx, ox, none⟩) n cx bx ox x) (h0 : 0 < n) (hn : n ≤ 1048576) :
    Calls Tryz.prog 107 #[.slice (some ⟨bx, ox, none⟩) n cx] w fun e w' => (∃ v, e = .returned v ∧ w'.ownsRow w.heap.size 106 1 v n (pcs x n)) ∧ Below w.heap.size w w' := by
  obtain ⟨i0, hi0, hz0, hz1, hz2⟩ := info_parts info_u64
  have he : ∀ W : World, (binOp .eql 78 (.slice (some ⟨bx, ox, none⟩) n cx) (.slice none 0 0)).run Tryz.prog W = .ok (.bool false) W := fun _ => rfl
  go_enter Tryz.func107, Tryz.ntmps107
  have hown : (w.alloc (.cells #[] 106)).ownsRow w.heap.size 106 1 (.slice (some ⟨w.heap.size, 0, none⟩) 0 0) 0 [] := ⟨rfl, .inr ⟨w.heap.size, 0, #[], rfl, Nat.le_refl _, World.alloc_heap_new w _, Nat.le_refl _, by unfold maxLen; omega, rfl, rfl⟩⟩
  have hnews : ∀ (j : Nat) (u : Value), (pcs x n)[j]? = some u → (w.alloc (.cells #[] 106)).cell? ((⟨bx, ox, none⟩ : Addr).add j) = some u := fun j u hu => by
    have hj : j < n := by have := (List.getElem?_eq_some_iff.1 hu).1; simpa [pcs] using this
    have e : (⟨bx, ox, none⟩ : Addr).add j = ⟨bx, ox + j, none⟩ := by unfold Addr.add; split <;> simp_all
    have hu2 : u = .int .u64 (dg x j : Nat) := by
      have : (pcs x n)[j]? = some (.int .u64 (dg x j : Nat)) := by simp [pcs, hj]
      rw [this] at hu
      exact (Option.some.inj hu).symm
    rw [e, hu2]
    exact (((Below.refl _ w).alloc (Nat.le_refl _) _).cell (p := ⟨bx, ox + j, none⟩) (hx.lt h0)).trans (hx.cell j hj)
  clear hx
  go_wp2_with (at_builtin; refine wpList_append_own _ rfl _ _ 78 rfl w.heap.size 106 i0 (.int .u64 0) 1 8 Tryz.underlying78 hi0 hz0 hz1 hz2 rfl (by decide) _ _ _ rfl hown ⟨bx, ox, none⟩ n cx (pcs x n) rfl (by simp [pcs]) hnews (by intro u hu; obtain ⟨q, _, rfl⟩ := List.mem_map.1 hu; rfl) (by unfold maxLen; omega) (by omega) (by simp) ?_; intro v' w6 hown' hgrow _)
  go_ret
  refine ⟨⟨_, rfl, by simpa using hown'⟩, ((Below.refl _ _).alloc (Nat.le_refl _) _).grown hgrow (by simp) (fun g hg => by have h2 : some w.heap.size = some g := hg; cases h2; exact Nat.le_refl _)⟩

set_option maxRecDepth 100000 in
set_option maxHeartbeats 2000000 in
theorem sub_core (bx ox cx x : Nat) (sy : Option Addr) (cpy by_ oy y : Nat) (w : World) (hx : Row w (some ⟨bx, ox, none⟩) (nd x) cx bx ox x) (h0 : 0 < nd x) (hy : Row w sy (nd y) cpy by_ oy y) (hle : y ≤ x) (hn : nd x ≤ 1000000) :
    Calls Tryz.prog 101 #[.slice (some ⟨bx, ox, none⟩) (nd x) cx, .slice sy (nd y) cpy] w fun e w' => (∃ v, e = .returned v ∧ Mag w' v (x - y)) ∧ Below w.heap.size w w' := by
  have hnn : nd y ≤ nd x := Im.nd_mono bb2 hle
  have C := Lib.hid (clone_some bx ox cx (nd x) x w hx h0 (by omega))
  have HY := Lib.hid hy
  have hfx := Lib.hid hx.fits
  have S := Lib.hid (fun (ba capa : Nat) (W : World) hcap hlt hX hfr (hy : Row W sy (nd y) cpy by_ oy y) hne => subT_any ba 0 (nd x) capa x sy (nd y) cpy by_ oy y 1 (x - y) W (by omega) hnn hcap hlt hX hfr hy hne (by omega) (by rw [Nat.one_mul, Nat.sub_add_cancel hle]))
  have T := Lib.hid (fun sa n cap b o W h hn => trimmed_any sa n cap b o (x - y) W h hn)
  clear hx hy hnn
  obtain ⟨n, hnx⟩ : ∃ n, nd x = n := ⟨_, rfl⟩
  obtain ⟨m, hny⟩ : ∃ m, nd y = m := ⟨_, rfl⟩
  rw [hnx] at C hfx S h0 hn ⊢
  rw [hny] at S HY ⊢
  clear hnx hny
  go_enter Tryz.func101, Tryz.ntmps101
  go_wp2_with fail
  refine C.out.mono ?_
  rintro e w1 ⟨⟨v, rfl, hrow⟩, hb1⟩
  obtain ⟨g, cap, cur, rfl, hg, hh, hcap, hcm, hsz, htk⟩ := hrow.2.resolve_left (fun h => by omega)
  obtain ⟨sa, cap2, b2, e2, hR, _⟩ := row_of hrow hfx.out
  cases e2
  have hR0 := hR.at_ h0
  cases hR0
  have hlt : g < w1.heap.size := hR.lt h0
  have hY1 := HY.out.below hb1 (Nat.le_refl _)
  have hfr : ∀ k, k < n → w1.frozen? ⟨g, 0 + k, none⟩ = false := fun k hk => by
    simp [World.frozen?, hh]
  have hS := Lib.hid (S.out g cap w1 hcap hlt hR.cell hfr hY1 (fun p => by have := HY.out.lt p; omega))
  go_wp2_with fail
  refine hS.out.mono ?_
  rintro e w2 ⟨rfl, hw2, hz2⟩
  have hR2 : Row w2 (some ⟨g, 0, none⟩) n cap g 0 (x - y) := ⟨hcap, fun _ => rfl, fun _ => by rw [hw2.size]; exact hlt, hz2, Nat.lt_of_le_of_lt (Nat.sub_le _ _) hfx.out⟩
  have hT := Lib.hid (T.out _ n cap g 0 w2 hR2 (by omega))
  go_wp2_with fail
  refine hT.out.mono ?_
  rintro e w3 ⟨rfl, hww⟩
  subst w3
  go_wp2
  go_ret
  exact ⟨⟨_, rfl, _, cap, g, 0, rfl, hR2.trim⟩, hb1.trans (hw2.below _ hg)⟩
end Go.Proofs.YtnchodofgaaeeaaGreatDoor
