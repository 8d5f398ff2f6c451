/- divideMagnitudes: the arithmetic of long division; what is laid before the loop. -/
import Derived.Test.YthdoadkdofgenaaGreatDoorBkP
import Derived.Laws.CopyOwn
namespace Go.Proofs.YthdoadkdofgenaaGreatDoor
open Go Go.RowKit Go.Shelf
attribute [local go_sem] Oper.semAt_some wide_fn wide_depth

theorem bb_pos (k : Nat) : 0 < BB ^ k := Nat.pow_pos (by unfold BB; omega)
/-- The number by which both are multiplied. -/
def scl (Y : Nat) : Nat := BB / (dg Y (nd Y - 1) + 1)
theorem scl_facts {Y : Nat} (hY : 0 < Y) : 1 ≤ scl Y ∧ scl Y < 1000000000 ∧ Y * scl Y < BB ^ nd Y ∧ nd (Y * scl Y) = nd Y := by
  have h1 := dg_lt Y (nd Y - 1)
  have h2 : dg Y (nd Y - 1) ≠ 0 := Im.dg_top bb2 hY
  have h3 : nd Y = nd Y - 1 + 1 := by have := Im.nd_pos bb2 hY; unfold nd; omega
  have hs1 : 1 ≤ scl Y := Nat.div_pos (by unfold BB; omega) (by omega)
  have hs2 : scl Y * (dg Y (nd Y - 1) + 1) ≤ BB := Nat.div_mul_le_self _ _
  have hs3 : scl Y < 1000000000 := by
    have : scl Y * 2 ≤ scl Y * (dg Y (nd Y - 1) + 1) := Nat.mul_le_mul_left _ (by omega)
    unfold BB at hs2; omega
  have hlt : Y < (dg Y (nd Y - 1) + 1) * BB ^ (nd Y - 1) := by
    have h4 := div_dgJ Y (nd Y - 1)
    rw [← h3, Nat.div_eq_of_lt (show Y < BB ^ nd Y from Im.lt_pow_nd bb2 Y), Nat.mul_zero, Nat.zero_add] at h4
    exact (Nat.div_lt_iff_lt_mul (bb_pos _)).1 (by omega)
  have hfit : Y * scl Y < BB ^ nd Y := by
    have h5 : Y * scl Y < (dg Y (nd Y - 1) + 1) * BB ^ (nd Y - 1) * scl Y := Nat.mul_lt_mul_of_pos_right hlt hs1
    have h6 : (dg Y (nd Y - 1) + 1) * BB ^ (nd Y - 1) * scl Y = (scl Y * (dg Y (nd Y - 1) + 1)) * BB ^ (nd Y - 1) := by
      rw [Nat.mul_comm _ (scl Y), Nat.mul_assoc]
    have h7 : (scl Y * (dg Y (nd Y - 1) + 1)) * BB ^ (nd Y - 1) ≤ BB * BB ^ (nd Y - 1) := Nat.mul_le_mul_right _ hs2
    rw [← Nat.pow_succ', show (nd Y - 1).succ = nd Y by omega] at h7
    omega
  refine ⟨hs1, hs3, hfit, ?_⟩
  refine Nat.le_antisymm (Im.nd_le bb2 hfit) (Im.nd_mono bb2 (Nat.le_mul_of_pos_right _ hs1))

/-- One step of long division. -/
theorem long_step {U V k : Nat} (hV : 0 < V) : (BB * (U / BB ^ (k + 1) % V) + dg U k) / V = dg (U / V) k ∧ (BB * (U / BB ^ (k + 1) % V) + dg U k) % V = U / BB ^ k % V ∧ BB * (U / BB ^ (k + 1) % V) + dg U k < V * BB := by
  obtain ⟨_, h1, h2⟩ := quot_stepB (X := U) (i := k) hV
  refine ⟨h1, h2, ?_⟩
  have h3 := Nat.mod_lt (U / BB ^ (k + 1)) hV
  have h4 := dg_lt U k
  have h5 : BB * (U / BB ^ (k + 1) % V + 1) ≤ BB * V := Nat.mul_le_mul_left _ h3
  rw [Nat.mul_add, Nat.mul_one, Nat.mul_comm BB V] at h5
  unfold BB at *
  omega
/-- The row of the rest while it is made: the remainder's digits from place k on, below it those of U. -/
def wk (U V k : Nat) : Nat := U / BB ^ k % V * BB ^ k + U % BB ^ k
theorem wk_low {U V k j : Nat} (h : j < k) : dg (wk U V k) j = dg U j := by
  unfold wk dg
  refine Im.dg_mod ?_
  have hd : BB ^ (j + 1) ∣ BB ^ k := Nat.pow_dvd_pow _ h
  rw [Nat.add_mod, Nat.mod_eq_zero_of_dvd (Nat.dvd_trans hd (Nat.dvd_mul_left _ _)), Nat.zero_add, Nat.mod_mod, Nat.mod_mod_of_dvd _ hd]
theorem wk_high (U V k j : Nat) : dg (wk U V k) (k + j) = dg (U / BB ^ k % V) j := by
  unfold wk dg Im.dg
  rw [Nat.pow_add, ← Nat.div_div_eq_div_mul, Nat.add_comm, Nat.add_mul_div_right _ _ (bb_pos k), Nat.div_eq_of_lt (Nat.mod_lt _ (bb_pos k)), Nat.zero_add]
theorem dg_up (R d : Nat) (hd : d < 1000000000) : dg (BB * R + d) 0 = d ∧ ∀ j, dg (BB * R + d) (j + 1) = dg R j := by
  unfold dg Im.dg
  refine ⟨?_, fun j => ?_⟩
  · rw [Nat.pow_zero, Nat.div_one, Nat.mul_add_mod]; exact Nat.mod_eq_of_lt hd
  · rw [Nat.pow_succ', ← Nat.div_div_eq_div_mul, Nat.mul_add_div (by unfold BB; omega), Nat.div_eq_of_lt (show d < BB from hd), Nat.add_zero]
/-- The window of the rest in which a step works. -/
theorem wk_win (U V k j : Nat) : dg (wk U V (k + 1)) (k + j) = dg (BB * (U / BB ^ (k + 1) % V) + dg U k) j := by
  obtain ⟨h1, h2⟩ := dg_up (U / BB ^ (k + 1) % V) (dg U k) (dg_lt U k)
  cases j with
  | zero => rw [h1, Nat.add_zero]; exact wk_low (Nat.lt_succ_self k)
  | succ j => rw [h2, show k + (j + 1) = k + 1 + j by omega, wk_high]
/-- The rest's cells behind a step. -/
theorem wk_next {U V k n j : Nat} (hV : V < BB ^ n) (hVp : 0 < V) : dg (wk U V k) j = if j < k then dg (wk U V (k + 1)) j else if j < k + (n + 1) then dg (U / BB ^ k % V) (j - k) else dg (wk U V (k + 1)) j := by
  by_cases h1 : j < k
  · rw [if_pos h1, wk_low h1, wk_low (by omega)]
  · rw [if_neg h1]
    obtain ⟨i, rfl⟩ : ∃ i, j = k + i := ⟨j - k, by omega⟩
    rw [wk_high, show k + i - k = i by omega]
    by_cases h2 : k + i < k + (n + 1)
    · rw [if_pos h2]
    · rw [if_neg h2]
      have h3 : U / BB ^ k % V < BB ^ i := Nat.lt_of_lt_of_le (Nat.lt_trans (Nat.mod_lt _ hVp) hV) (Nat.pow_le_pow_right (by unfold BB; omega) (by omega))
      have h4 : U / BB ^ (k + 1) % V < BB ^ (i - 1) := Nat.lt_of_lt_of_le (Nat.lt_trans (Nat.mod_lt _ hVp) hV) (Nat.pow_le_pow_right (by unfold BB; omega) (by omega))
      rw [show dg (U / BB ^ k % V) i = 0 from Im.dg_high h3]
      obtain ⟨i', rfl⟩ : ∃ i', i = i' + 1 := ⟨i - 1, by omega⟩
      rw [show k + (i' + 1) = k + 1 + i' by omega, wk_high]
      exact (Im.dg_high h4).symm
/-- The first window: the dividend's upper digits are less than the divisor. -/
theorem wk_start {X Y n m : Nat} (hX : X < BB ^ (n + m)) (hY : BB ^ (n - 1) ≤ Y) (hn : 1 ≤ n) {s : Nat} (hs : 0 < s) : wk (X * s) (Y * s) (m + 1) = X * s := by
  have h1 : X * s / BB ^ (m + 1) < Y * s := by
    rw [Nat.div_lt_iff_lt_mul (bb_pos _)]
    have h2 : X * s < BB ^ (n + m) * s := Nat.mul_lt_mul_of_pos_right hX hs
    have h3 : BB ^ (n - 1) * s ≤ Y * s := Nat.mul_le_mul_right _ hY
    have h4 : BB ^ (n - 1) * s * BB ^ (m + 1) ≤ Y * s * BB ^ (m + 1) := Nat.mul_le_mul_right _ h3
    have h5 : BB ^ (n - 1) * s * BB ^ (m + 1) = BB ^ (n + m) * s := by
      rw [Nat.mul_right_comm, ← Nat.pow_add, show n - 1 + (m + 1) = n + m by omega]
    omega
  unfold wk
  rw [Nat.mod_eq_of_lt h1, Nat.mul_comm (X * s / BB ^ (m + 1))]
  exact Nat.div_add_mod _ _
/-- A step's guess, and what the window holds behind it. -/
theorem step_guess {P V n g : Nat} (hP : P < V * BB) (hV : V < BB ^ (n + 2)) (hg : P / V ≤ g ∧ g ≤ P / V + 1) (hg9 : g ≤ BB - 1) :
    ∃ Z : Nat, Z < BB ^ (n + 3) ∧ (Z + g * V) % BB ^ (n + 3) = P % BB ^ (n + 3) ∧ (cy Z (g * V) (n + 3) = 1 ↔ g = P / V + 1) ∧ (g = P / V → Z = P % V) ∧ (g = P / V + 1 → (P % V) % BB ^ (n + 3) = (Z + V) % BB ^ (n + 3)) := by
  have hVp : 0 < V := by
    rcases Nat.eq_zero_or_pos V with h | h
    · subst h; rw [Nat.zero_mul] at hP; omega
    · exact h
  have hPB : P < BB ^ (n + 3) := by
    have h1 : V * BB ≤ BB ^ (n + 2) * BB := Nat.mul_le_mul_right _ (Nat.le_of_lt hV)
    rw [← Nat.pow_succ] at h1
    exact Nat.lt_of_lt_of_le hP h1
  have hVB : V < BB ^ (n + 3) := Nat.lt_of_lt_of_le hV (Nat.pow_le_pow_right (by unfold BB; omega) (by omega))
  have e := Nat.div_add_mod P V
  have hl := Nat.mod_lt P hVp
  have e2 : V * (P / V) = P / V * V := Nat.mul_comm _ _
  rcases (show g = P / V ∨ g = P / V + 1 by omega) with h | h
  · subst h
    refine ⟨P % V, by omega, by rw [← e2, Nat.add_comm, e], ⟨fun h => ?_, fun h => absurd h (by omega)⟩, fun _ => rfl, fun h => absurd h (by omega)⟩
    exfalso
    unfold cy at h
    rw [Nat.mod_eq_of_lt (show P % V < BB ^ (n + 3) by omega), Nat.mod_eq_of_lt (show P / V * V < BB ^ (n + 3) by omega), Nat.div_eq_of_lt (show P % V + P / V * V < BB ^ (n + 3) by omega)] at h
    cases h
  · have hgV : g * V = P / V * V + V := by rw [h, Nat.add_mul, Nat.one_mul]
    refine ⟨BB ^ (n + 3) + P - g * V, by omega, ?_, ⟨fun _ => h, fun _ => ?_⟩, fun h9 => absurd h9 (by omega), fun _ => ?_⟩
    · rw [show BB ^ (n + 3) + P - g * V + g * V = P + BB ^ (n + 3) by omega, Nat.add_mod_right]
    · have h1 := cy_le (BB ^ (n + 3) + P - g * V) (g * V) (n + 3)
      have h2 : 1 ≤ cy (BB ^ (n + 3) + P - g * V) (g * V) (n + 3) := by
        unfold cy
        by_cases h9 : g * V < BB ^ (n + 3)
        · rw [Nat.mod_eq_of_lt (show BB ^ (n + 3) + P - g * V < BB ^ (n + 3) by omega), Nat.mod_eq_of_lt h9]
          exact Nat.div_pos (by omega) (bb_pos _)
        · exfalso
          apply h9
          have h5 : g * V ≤ (BB - 1) * V := Nat.mul_le_mul_right _ hg9
          have h6 : (BB - 1) * V < BB * BB ^ (n + 2) := Nat.mul_lt_mul'' (by unfold BB; omega) hV
          rw [← Nat.pow_succ'] at h6
          exact Nat.lt_of_le_of_lt h5 h6
      omega
    · rw [show BB ^ (n + 3) + P - g * V + V = P % V + BB ^ (n + 3) by omega, Nat.add_mod_right]
end Go.Proofs.YthdoadkdofgenaaGreatDoor
/- divideMagnitudes: the long arm. -/
namespace Go.Proofs.YthdoadkdofgenaaGreatDoor
open Go Go.RowKit Go.Shelf
attribute [local go_sem] Oper.semAt_some wide_fn wide_depth

/-- What each operation of 'copy(rest, mulMagnitudes(a, []uint64{scale}))' yields. -/
def cpI (E N : Nat) (sxv : Value) (s u : Nat) : Nat → Value → World → Prop
  | 0, v, _ => v = .slice (some ⟨E, 0, none⟩) N N
  | 1, v, _ => v = sxv
  | 2, v, _ => v = .int .u64 (s : Nat)
  | 3, v, A => ∃ b, v = .slice (some ⟨b, 0, none⟩) 1 1 ∧ A.heap[b]? = some (.cells #[.int .u64 (s : Nat)] 98)
  | 4, v, A => Mag A v u
  | _, _, _ => True
theorem cpI_up (E N : Nat) (sxv : Value) (s u : Nat) : ∀ (j : Nat) (v : Value) (A B : World), Below A.heap.size A B → cpI E N sxv s u j v A → cpI E N sxv s u j v B
  | 0, _, _, _, _, h => h
  | 1, _, _, _, _, h => h
  | 2, _, _, _, _, h => h
  | 3, _, _, _, hb, ⟨b, h1, h2⟩ => ⟨b, h1, (hb.block b (Array.getElem?_eq_some_iff.1 h2).1).trans h2⟩
  | 4, _, _, _, hb, h => Mag.below h hb (Nat.le_refl _)
  | _ + 5, _, _, _, _, _ => trivial
theorem row_block {W : World} {b d : Nat} (hd : d < 1000000000) (h : W.heap[b]? = some (.cells #[.int .u64 (d : Nat)] 98)) : Row W (some ⟨b, 0, none⟩) 1 1 b 0 d :=
  ⟨Nat.le_refl _, fun _ => rfl, fun _ => (Array.getElem?_eq_some_iff.1 h).1, fun k hk => by
    obtain rfl : k = 0 := by omega
    have e : dg d 0 = d := by unfold dg Im.dg; rw [Nat.pow_zero, Nat.div_one]; exact Nat.mod_eq_of_lt hd
    rw [e]; exact cell_one h, by rw [Nat.pow_one]; exact hd⟩
theorem quot_fits {U V k : Nat} (hV : 0 < V) (h : wk U V k = U) : U / V < BB ^ k := by
  unfold wk at h
  have h1 := Nat.div_add_mod U (BB ^ k)
  have h2 := Nat.mod_lt (U / BB ^ k) hV
  rw [Nat.mul_comm (BB ^ k)] at h1
  have h3 : U / BB ^ k % V * BB ^ k = U / BB ^ k * BB ^ k := by omega
  have h4 := Nat.eq_of_mul_eq_mul_right (bb_pos k) h3
  rw [h4] at h2
  rw [Nat.div_lt_iff_lt_mul hV, Nat.mul_comm]
  exact (Nat.div_lt_iff_lt_mul (bb_pos k)).1 h2
theorem cell_step {A B : World} {N : Nat} (st : Rg.Step N A B) {a : Addr} {v : Value} (h : A.cell? a = some v) : B.cell? a = some v := by
  unfold World.cell? at h ⊢
  cases e : A.heap[a.block]? with
  | none => simp [e] at h
  | some o =>
    cases o with
    | cells c u f => rw [e] at h; rw [st.same _ _ _ _ e]; exact h
    | _ => simp [e] at h
theorem frozen_step {A B : World} {N : Nat} (st : Rg.Step N A B) {a : Addr} {v : Value} (h : A.cell? a = some v) : B.frozen? a = A.frozen? a := by
  unfold World.cell? at h
  unfold World.frozen?
  cases e : A.heap[a.block]? with
  | none => simp [e] at h
  | some o =>
    cases o with
    | cells c u f => rw [st.same _ _ _ _ e]
    | _ => simp [e] at h
theorem row_step {A B : World} {N : Nat} (st : Rg.Step N A B) {sa : Option Addr} {n cap b o x : Nat} (h : Row A sa n cap b o x) : Row B sa n cap b o x :=
  ⟨h.cap, h.at_, fun p => Nat.lt_of_lt_of_le (h.lt p) st.below.size, fun k hk => cell_step st (h.cell k hk), h.fits⟩
theorem row_set {W : World} {sa : Option Addr} {n cap b' o x : Nat} (h2 : Row W sa n cap b' o x) {b : Nat} {c : Value} {T : TypeId} (hb : W.heap[b]? = some (.cells #[c] T)) (hc : ∀ i : Int, c ≠ .int .u64 i) (u : Value) : Row (W.setCell ⟨b, 0, none⟩ u) sa n cap b' o x := by
  refine h2.set ⟨b, 0, none⟩ (fun h0 e => ?_) u
  have e2 : b' = b := e
  subst e2
  have h3 := h2.cell 0 h0
  simp [World.cell?, hb] at h3
  rcases o with _ | o
  · simp at h3; exact hc _ h3
  · simp at h3
theorem splice_cells (U N : Nat) (_h : nd U ≤ N) : ∀ j, j < N → (splice (List.replicate N (.int .u64 0)) 0 (pcs U (nd U))).toArray[j]? = some (.int .u64 (dg U j : Nat)) := fun j hj => by
  have hl : (pcs U (nd U)).length = nd U := by simp [pcs]
  simp only [splice, List.take_zero, List.nil_append, Nat.zero_add, hl, List.getElem?_toArray]
  by_cases h1 : j < nd U
  · rw [List.getElem?_append_left (by rw [hl]; exact h1)]
    simp [pcs, h1]
  · rw [List.getElem?_append_right (by rw [hl]; omega), hl, List.getElem?_drop, List.getElem?_replicate, if_pos (by omega), dg_above (by omega)]
    rfl

set_option maxRecDepth 100000 in
set_option maxHeartbeats 8000000 in
theorem divM_long (sx : Option Addr) (cx bx ox X : Nat) (sy : Option Addr) (cpy by_ oy Y n m : Nat) (hnY : nd Y = n + 2) (hnX : nd X = n + 2 + m) (w : World) (hx : Row w sx (nd X) cx bx ox X) (hy : Row w sy (nd Y) cpy by_ oy Y) (hn : nd X ≤ 300000) :
    Calls Tryz.prog 117 #[.slice sx (nd X) cx, .slice sy (nd Y) cpy] w fun e w' => (∃ v1 v2, e = .returned (.tuple #[v1, v2]) ∧ Mag w' v1 (X / Y) ∧ Mag w' v2 (X % Y)) ∧ Below w.heap.size w w' := by
  obtain ⟨i0, hi0, hz0, hz1, hz2⟩ := info_parts info_u64
  have hY0 : 0 < Y := by
    rcases Nat.eq_zero_or_pos Y with h | h
    · rw [h, nd_zero] at hnY; omega
    · exact h
  obtain ⟨hs1, hs2, hs3, hs4⟩ := scl_facts hY0
  have htop := hy.cell (n + 1) (by omega)
  have htl := dg_lt Y (n + 1)
  have hsc : scl Y = BB / (dg Y (n + 1) + 1) := by unfold scl; rw [hnY]; rfl
  have hst := fun hsx : 0 < scl Y => wk_start (X := X) (Y := Y) (n := n + 2) (m := m) (by rw [← hnX]; exact Im.lt_pow_nd bb2 X) (by have := Im.pow_nd_le bb2 hY0; unfold nd at hnY; rw [hnY] at this; exact this) (by omega) hsx
  obtain ⟨s, hs⟩ : ∃ s, scl Y = s := ⟨_, rfl⟩
  rw [hs] at hs1 hs2 hs3 hs4 hsc hst
  have hst1 := hst (by omega)
  have hscl : (1000000000 : Int) / ((dg Y (n + 1) : Int) + 1) = (s : Int) := by rw [hsc]; unfold BB; simp
  rw [hnY] at hs3 hs4 hy ⊢
  rw [hnX] at hx hn ⊢
  have hnds : nd s = 1 := Im.nd_unique bb2 0 s (by rw [Nat.pow_zero]; exact hs1) (by rw [Nat.zero_add, Nat.pow_one]; exact hs2)
  have hbl := hy.lt (by omega)
  have hcpy := hy.cap
  have hcx := hx.cap
  have HX := Lib.hid hx
  have HY := Lib.hid hy
  obtain rfl := hy.at_ (by omega)
  obtain ⟨top, htp⟩ : ∃ top, dg Y (n + 1) = top := ⟨_, rfl⟩
  rw [htp] at htop htl hscl
  have MU := Lib.hid (fun (sq : Option Addr) (cq bq oq Z nz : Nat) (hz : nd Z = nz) (W : World) (hZ : Row W sq nz cq bq oq Z) (hb : nz ≤ 300000) => mul_any sq cq bq oq Z (some ⟨W.heap.size, 0, none⟩) 1 W.heap.size 0 s (W.alloc (.cells #[.int .u64 (s : Nat)] 98)) (by rw [hz]; exact hZ.below ((Below.refl _ _).alloc (Nat.le_refl _) _) (Nat.le_refl _)) (by rw [hnds]; exact row_piece W hs2) (by rw [hz, hnds]; omega))
  rw [hnds] at MU
  have hTN := Lib.hid hnds
  have HST := Lib.hid hst1
  have HS3 := Lib.hid hs3
  have HS4 := Lib.hid hs4
  obtain ⟨ny, hny⟩ : ∃ ny, n + 2 = ny := ⟨_, rfl⟩
  obtain ⟨nx, hnx⟩ : ∃ nx, n + 2 + m = nx := ⟨_, rfl⟩
  have HNY := Lib.hid hny
  have HNX := Lib.hid hnx
  have hi1 : (ny : Int) - 1 = ((n + 1 : Nat) : Int) := by omega
  obtain ⟨n1, hn1⟩ : ∃ n1, n + 1 = n1 := ⟨_, rfl⟩
  rw [hn1] at hi1 htop
  have hi2 : (n1 : Int) < (ny : Int) := by omega
  have hi3 : ¬ (nx : Int) < (ny : Int) := by omega
  have hi4 : ¬ (ny : Int) = 1 := by omega
  have hi4b : ((ny : Int) == 1) = false := by rw [beq_eq_false_iff_ne]; exact hi4
  rw [hnx] at HX hn hcx ⊢
  rw [hny] at HY hcpy ⊢
  have hnZY : nd Y = ny := by omega
  have hnZX : nd X = nx := by omega
  have MUG0 := Lib.hid (fun (W : World) (b : Nat) (hb : Below w.heap.size w W) (hh : W.heap[b]? = some (.cells #[.int .u64 (s : Nat)] 98)) => mul_any sx cx bx ox X (some ⟨b, 0, none⟩) 1 b 0 s W (by rw [hnZX]; exact HX.out.below hb (Nat.le_refl _)) (by rw [hTN.out]; exact row_block hs2 hh) (by rw [hnZX, hTN.out]; omega))
  rw [hTN.out, hnZX] at MUG0
  have MUY := Lib.hid (fun W hb => MU.out (some ⟨by_, oy, none⟩) cpy by_ oy Y ny hnZY W (HY.out.below hb (Nat.le_refl w.heap.size)) (by omega))
  have MUX := Lib.hid (fun W hb => MU.out sx cx bx ox X nx hnZX W (HX.out.below hb (Nat.le_refl w.heap.size)) (by omega))
  rw [hnZY] at MUY
  rw [hnZX] at MUX
  have HN1 := Lib.hid hn1
  clear hx hy hs hsc hst hst1 hnX hnY hnds hs3 hs4 htp hny hnx hn1 MU hnZY hnZX
  obtain ⟨D, hD⟩ : ∃ D, w.heap.size = D := ⟨_, rfl⟩
  have ct := ((((Below.refl _ w).alloc (Nat.le_refl _) (.cells #[.slice none 0 0] 104)).alloc (by simp) (.cells #[.slice none 0 0] 104)).cell (p := ⟨by_, oy + n1, none⟩) hbl).trans htop
  refine (callsIn_wide (n := 5)).1 ?_
  refine callsIn_of_wp_marks Tryz.func117 rfl trivial ?_ rfl
  simp only [Tryz.ntmps117, List.size_toArray, List.length_cons, List.length_nil, Nat.reduceAdd, Nat.reduceSub, Array.replicate_succ, Array.replicate_zero, List.push_toArray, List.append_toArray, List.nil_append, List.cons_append]
  gi_wp2_with fail
  have hb0 : Below w.heap.size w ((w.alloc (.cells #[.slice none 0 0] 104)).alloc (.cells #[.slice none 0 0] 104)) := ((Below.refl _ w).alloc (Nat.le_refl _) _).alloc (by simp) _
  have MY := MUY.out _ hb0
  rw [show ((w.alloc (.cells #[.slice none 0 0] 104)).alloc (.cells #[.slice none 0 0] 104)).heap.size = D + 1 + 1 by simp [hD]] at MY
  refine (callsIn_wide.2 MY).mono ?_
  rintro e w3 ⟨⟨v3, rfl, h3⟩, hb3⟩
  obtain ⟨sq, cq, bq, oq, rfl, hr3⟩ := h3
  rw [HS4.out, HNY.out] at hr3 ⊢
  have ha0 : (((w.alloc (.cells #[.slice none 0 0] 104)).alloc (.cells #[.slice none 0 0] 104)).alloc (.cells #[.int .u64 (s : Nat)] 98)).heap[D]? = some (.cells #[.slice none 0 0] 104) := heap_up (heap_up (heap_at hD.symm))
  have ha1 : (((w.alloc (.cells #[.slice none 0 0] 104)).alloc (.cells #[.slice none 0 0] 104)).alloc (.cells #[.int .u64 (s : Nat)] 98)).heap[D + 1]? = some (.cells #[.slice none 0 0] 104) := heap_up (heap_at (by simp [hD]))
  have hw3 : Below D w w3 := by rw [← hD]; exact (hb0.alloc (by simp; omega) _).trans (hb3.mono (by simp; omega))
  have k0 := (hb3.block D (by simp; omega)).trans ha0
  have k1 := (hb3.block (D + 1) (by simp; omega)).trans ha1
  have hz3 : D + 3 ≤ w3.heap.size := by have := hb3.size; simp at this; omega
  clear ha0 ha1 hb3 hb0 MY ct htop
  obtain ⟨B9, hB9⟩ : ∃ B9, w3.heap.size = B9 := ⟨_, rfl⟩
  have hbq : bq < B9 := by have := hr3.lt (by omega); omega
  obtain ⟨N, hN⟩ : ∃ N, nx + 1 = N := ⟨_, rfl⟩
  have hNi : (nx : Int) + 1 = (N : Int) := by omega
  have hmk : ∀ W : World, (Instr.makeSlice 104 (.int .i64 (N : Int)) (.int .i64 (N : Int))).run Tryz.prog W = .ok (.slice (some ⟨W.heap.size, 0, none⟩) N N) (W.alloc (.cells (madeCells #[.int .u64 0] (N * 1)) 98)) := fun W => by
    have := run_makeSlice (P := Tryz.prog) W 104 98 i0 (.int .u64 0) Tryz.underlying104 hi0 hz0 .i64 .i64 (N : Int) (N : Int) (by omega) (by omega) (by rw [hz1]; simp; omega) (by rw [hz2]; omega) (by omega)
    rw [hz1] at this
    simpa [Value.cells] using this
  have hzB : D + 3 ≤ B9 := by omega
  have kk0 : ((w3.alloc (.cells #[.slice sq ny cq] 104)).alloc (.cells (madeCells #[.int .u64 0] N) 98)).heap[D]? = some (.cells #[.slice none 0 0] 104) := heap_up (heap_up k0)
  have kk1 : ((w3.alloc (.cells #[.slice sq ny cq] 104)).alloc (.cells (madeCells #[.int .u64 0] N) 98)).heap[D + 1]? = some (.cells #[.slice none 0 0] 104) := heap_up (heap_up k1)
  have kk2 : ((w3.alloc (.cells #[.slice sq ny cq] 104)).alloc (.cells (madeCells #[.int .u64 0] N) 98)).heap[B9]? = some (.cells #[.slice sq ny cq] 104) := heap_up (heap_at hB9.symm)
  have kk3 : ((w3.alloc (.cells #[.slice sq ny cq] 104)).alloc (.cells (madeCells #[.int .u64 0] N) 98)).heap[B9 + 1]? = some (.cells (madeCells #[.int .u64 0] N) 98) := heap_at (by simp [hB9])
  have kkr : Row ((w3.alloc (.cells #[.slice sq ny cq] 104)).alloc (.cells (madeCells #[.int .u64 0] N) 98)) sq ny cq bq oq (Y * s) := (hr3.below ((Below.refl _ _).alloc (Nat.le_refl _) _) (Nat.le_refl _)).below ((Below.refl _ _).alloc (Nat.le_refl _) _) (Nat.le_refl _)
  have kkw : Below D w ((w3.alloc (.cells #[.slice sq ny cq] 104)).alloc (.cells (madeCells #[.int .u64 0] N) 98)) := (hw3.alloc (by omega) _).alloc (by simp; omega) _
  have kks : ((w3.alloc (.cells #[.slice sq ny cq] 104)).alloc (.cells (madeCells #[.int .u64 0] N) 98)).heap.size = B9 + 2 := by simp [hB9]
  have c1 := cell_one kk1
  have f1 := free_one kk1
  have KK := Lib.hid (And.intro kk0 (And.intro kk1 (And.intro kk2 (And.intro kk3 (And.intro kkr (And.intro kkw kks))))))
  clear kk0 kk1 kk2 kk3 kkr kkw kks
  have HNN := Lib.hid hN
  clear hN hr3 hw3 k0 k1
  gi_upto_region 9 with fail
  obtain ⟨kk0, kk1, kk2, kk3, kkr, kkw, kks⟩ := KK.out
  obtain ⟨V, hV⟩ : ∃ V, (((w3.alloc (.cells #[.slice sq ny cq] 104)).alloc (.cells (madeCells #[.int .u64 0] N) 98)).setCell ⟨D + 1, 0, none⟩ (.slice (some ⟨B9 + 1, 0, none⟩) N N)) = V := ⟨_, rfl⟩
  have v0 : V.heap[D]? = some (.cells #[.slice none 0 0] 104) := by rw [← hV]; exact (set_else (by omega)).trans kk0
  have v1 : V.heap[D + 1]? = some (.cells #[.slice (some ⟨B9 + 1, 0, none⟩) N N] 104) := by rw [← hV]; exact set_one kk1
  have v2 : V.heap[B9]? = some (.cells #[.slice sq ny cq] 104) := by rw [← hV]; exact (set_else (by omega)).trans kk2
  have v3 : V.heap[B9 + 1]? = some (.cells (madeCells #[.int .u64 0] N) 98) := by rw [← hV]; exact (set_else (by omega)).trans kk3
  have vr : Row V sq ny cq bq oq (Y * s) := by rw [← hV]; exact row_set kkr kk1 (fun i e => by cases e) _
  have vw : Below D w V := by rw [← hV]; exact kkw.setCell (by simp) _
  have vs : V.heap.size = B9 + 2 := by rw [← hV]; simpa [World.setCell] using kks
  rw [hV]
  clear hV KK kk0 kk1 kk2 kk3 kkr kkw kks c1 f1
  have hU : X * s < BB ^ N := by
    rw [← HNN.out, Nat.pow_succ]
    exact Nat.mul_lt_mul'' HX.out.fits hs2
  have hUn : nd (X * s) ≤ N := Im.nd_le bb2 hU
  have MUG := Lib.hid (fun (W : World) (b : Nat) (hb : Below w.heap.size w W) (hh : W.heap[b]? = some (.cells #[.int .u64 (s : Nat)] 98)) => MUG0.out W b hb hh)
  have e3 : madeCells #[Value.int .u64 0] N = (List.replicate N (Value.int .u64 0)).toArray := by
    apply Array.toList_inj.1
    exact toList_madeCells_one (.int .u64 0) N
  rw [e3] at v3
  have K1 := Lib.hid v1
  have K3 := Lib.hid v3
  have KV := Lib.hid (And.intro v0 (And.intro v1 (And.intro v2 (And.intro vr (And.intro vw vs)))))
  clear e3 v0 v1 v2 v3 vr vw
  refine wpIn_wide.2 ?_
  refine wp_region_slots_at rfl rfl (fun base ys => (((((base.set 51 (ys 0)).set 52 (ys 1)).set 53 (ys 2)).set 54 (ys 3)).set 55 (ys 4)).set 56 (ys 5)) (LastI _ (Below V.heap.size V) (cpI (B9 + 1) N (.slice sx nx cx) s (X * s)) (fun A => Below (B9 + 1) V A ∧ ∃ cs : Array Value, A.heap[B9 + 1]? = some (.cells cs 98) ∧ ∀ j, j < N → cs[j]? = some (.int .u64 (dg (X * s) j : Nat)))) (fun _ => undef) (by kernel_rfl) (last_start (by decide) ((Below.refl _ _).trans ⟨rfl, rfl, rfl, Nat.le_refl _, fun _ _ => rfl⟩)) ?h
  case h =>
    intro F hF
    simp only [List.set_cons_succ, List.set_cons_zero] at hF
    subst hF
    refine ⟨rfl, ?_, ?_⟩
    refine ⟨?_, ?_⟩
    · refine SlotStep.lastB (by kernel_rfl) rfl (by decide) (fun A B hb h => h.trans (hb.mono h.size)) (cpI_up _ _ _ _ _) ?_
      intro ys W hR hd K hK
      have c0 := cell_one ((hR.block (D + 1) (by omega)).trans K1.out)
      go_simp
      have hK2 := hK (.slice (some ⟨B9 + 1, 0, none⟩) N N) _ (Below.refl _ _) rfl
      simp (config := { decide := true }) only [upd, if_true, if_false] at hK2
      exact hK2
    refine ⟨?_, ?_⟩
    · refine SlotStep.lastB (by kernel_rfl) rfl (by decide) (fun A B hb h => h.trans (hb.mono h.size)) (cpI_up _ _ _ _ _) ?_
      intro ys W hR hd K hK
      go_simp
      have hK2 := hK (.slice sx nx cx) _ (Below.refl _ _) rfl
      simp (config := { decide := true }) only [upd, if_true, if_false] at hK2
      exact hK2
    refine ⟨?_, ?_⟩
    · refine SlotStep.lastB (by kernel_rfl) rfl (by decide) (fun A B hb h => h.trans (hb.mono h.size)) (cpI_up _ _ _ _ _) ?_
      intro ys W hR hd K hK
      go_simp
      have hK2 := hK (.int .u64 (s : Nat)) _ (Below.refl _ _) rfl
      simp (config := { decide := true }) only [upd, if_true, if_false] at hK2
      exact hK2
    refine ⟨?_, ?_⟩
    · refine SlotStep.lastB (by kernel_rfl) rfl (by decide) (fun A B hb h => h.trans (hb.mono h.size)) (cpI_up _ _ _ _ _) ?_
      intro ys W hR hd K hK
      have d2 : ys 2 = .int .u64 (s : Nat) := hd 2 (by kernel_rfl) (by decide)
      go_simp
      have hK2 := hK (.slice (some ⟨W.heap.size, 0, none⟩) 1 1) (W.alloc (.cells #[.int .u64 (s : Nat)] 98)) ((Below.refl _ _).alloc (Nat.le_refl _) _) ⟨_, rfl, heap_at rfl⟩
      simp (config := { decide := true }) only [upd, if_true, if_false, d2] at hK2
      exact hK2
    refine ⟨?_, ?_⟩
    · refine SlotStep.lastB (by kernel_rfl) rfl (by decide) (fun A B hb h => h.trans (hb.mono h.size)) (cpI_up _ _ _ _ _) ?_
      intro ys W hR hd K hK
      have d1 : ys 1 = .slice sx nx cx := hd 1 (by kernel_rfl) (by decide)
      obtain ⟨b, d3, hbh⟩ : ∃ b, ys 3 = .slice (some ⟨b, 0, none⟩) 1 1 ∧ W.heap[b]? = _ := hd 3 (by kernel_rfl) (by decide)
      have MC := Lib.hid (MUG.out W b (by have := KV.out.2.2.2.2.1; rw [hD]; exact this.trans (hR.mono (by have := this.size; omega))) hbh)
      clear hbh
      go_simp
      refine MC.out.mono ?_
      rintro e w5 ⟨⟨v5, rfl, hm5⟩, hb5⟩
      have hK2 := hK v5 _ hb5 hm5
      simp (config := { decide := true }) only [upd, if_true, if_false, d1, d3] at hK2
      exact hK2
    refine ⟨?_, ?_⟩
    · refine SlotStep.lastS rfl rfl ?_
      intro ys W hR hd K hK
      have d0 : ys 0 = .slice (some ⟨B9 + 1, 0, none⟩) N N := hd 0 (by kernel_rfl) (by decide)
      obtain ⟨sa, cap, b, o, d4, hrow⟩ : Mag W (ys 4) (X * s) := hd 4 (by kernel_rfl) (by decide)
      have hh := (hR.block (B9 + 1) (by omega)).trans K3.out
      refine step_copy_splice rfl (.tmp 51) (.tmp 55) 104 104 rfl 98 Tryz.underlying104 (by rw [hi0]; simp [hz1]) (some ⟨B9 + 1, 0, none⟩) sa N N (nd (X * s)) cap (by simp [Act.eval, d0]) (by simp [Act.eval, d4]) (B9 + 1) 0 (List.replicate N (.int .u64 0)) 98 hh (pcs (X * s) (nd (X * s))) (by rw [show (pcs (X * s) (nd (X * s))).length = nd (X * s) by simp [pcs]]; exact (Nat.min_eq_left hUn).symm) (fun h0 => ⟨rfl, ⟨b, o, none⟩, hrow.at_ (by simpa [pcs] using h0), fun j v hv => ?_⟩) (by simp [pcs]; omega) (fun v hv => by obtain ⟨j, _, rfl⟩ := List.mem_map.1 hv; rfl) (B9 + 1) V (hR.mono (by omega)) (Nat.le_refl _) ?_
      · have hj : j < nd (X * s) := by have := (List.getElem?_eq_some_iff.1 hv).1; simpa [pcs] using this
        have hv2 : v = .int .u64 (dg (X * s) j : Nat) := by simp [pcs, hj] at hv; exact hv.symm
        subst hv2
        have e : (⟨b, o, none⟩ : Addr).add j = ⟨b, o + j, none⟩ := by
          unfold Addr.add
          split <;> simp_all
        rw [e]
        exact hrow.cell j hj
      · intro w' hw' hb'
        have hK2 := hK (goInt (pcs (X * s) (nd (X * s))).length) w' ⟨hb', _, hw'.out, splice_cells (X * s) N hUn⟩
        simp (config := { decide := true }) only [upd, if_false, if_true] at hK2
        exact hK2
    trivial
    · intro L ys W hL hI
      obtain ⟨hbW, cs, hcs, hcc⟩ := last_end (by decide) hL hI
      clear hL hI
      gi_upto_region 10 with fail
      generalize ys 0 = y0, ys 1 = y1, ys 2 = y2, ys 3 = y3, ys 4 = y4, ys 5 = y5
      obtain ⟨kv0, kv1, kv2, kvr, kvw, kvs⟩ := KV.out
      obtain ⟨M, hM⟩ : ∃ M, m + 1 = M := ⟨_, rfl⟩
      have hMi1 : (nx : Int) - (ny : Int) = (m : Int) := by have := HNX.out; have := HNY.out; omega
      have hMi2 : (m : Int) + 1 = (M : Int) := by omega
      have hMx : M ≤ 300001 := by have := HNX.out; omega
      have hmkM : ∀ W : World, (Instr.makeSlice 104 (.int .i64 (M : Int)) (.int .i64 (M : Int))).run Tryz.prog W = .ok (.slice (some ⟨W.heap.size, 0, none⟩) M M) (W.alloc (.cells (madeCells #[.int .u64 0] (M * 1)) 98)) := fun W => by
        have := run_makeSlice (P := Tryz.prog) W 104 98 i0 (.int .u64 0) Tryz.underlying104 hi0 hz0 .i64 .i64 (M : Int) (M : Int) (by omega) (by omega) (by rw [hz1]; simp; omega) (by rw [hz2]; omega) (by omega)
        rw [hz1] at this
        simpa [Value.cells] using this
      have hM0 : (0 : Int) ≤ (m : Int) := by omega
      obtain ⟨E, hE⟩ : ∃ E, W.heap.size = E := ⟨_, rfl⟩
      have hzE : B9 + 2 ≤ E := by have := hbW.size; omega
      have w0 : (W.alloc (.cells (madeCells #[.int .u64 0] M) 98)).heap[D]? = some (.cells #[.slice none 0 0] 104) := heap_up ((hbW.block D (by omega)).trans kv0)
      have w1 : (W.alloc (.cells (madeCells #[.int .u64 0] M) 98)).heap[D + 1]? = some (.cells #[.slice (some ⟨B9 + 1, 0, none⟩) N N] 104) := heap_up ((hbW.block (D + 1) (by omega)).trans kv1)
      have w2 : (W.alloc (.cells (madeCells #[.int .u64 0] M) 98)).heap[B9]? = some (.cells #[.slice sq ny cq] 104) := heap_up ((hbW.block B9 (by omega)).trans kv2)
      have w3' : (W.alloc (.cells (madeCells #[.int .u64 0] M) 98)).heap[B9 + 1]? = some (.cells cs 98) := heap_up hcs
      have w4 : (W.alloc (.cells (madeCells #[.int .u64 0] M) 98)).heap[E]? = some (.cells (madeCells #[.int .u64 0] M) 98) := heap_at hE.symm
      have HRV := Lib.hid (And.intro kvr (And.intro kvw kvs))
      have c0 := cell_one w0
      have f0 := free_one w0
      have HAL := Lib.hid (And.intro w0 (And.intro w1 (And.intro w2 (And.intro w3' w4))))
      clear kv0 kv1 kv2 kvr kvw w0 w1 w2 w3' w4 KV K1 K3
      gi_upto_region 11 with fail
      obtain ⟨w0, w1, w2, w3', w4⟩ := HAL.out
      obtain ⟨A, hA⟩ : ∃ A, ((W.alloc (.cells (madeCells #[.int .u64 0] M) 98)).setCell ⟨D, 0, none⟩ (.slice (some ⟨E, 0, none⟩) M M)) = A := ⟨_, rfl⟩
      obtain ⟨kvr, kvw, kvs⟩ := HRV.out
      have a0 : A.heap[D]? = some (.cells #[.slice (some ⟨E, 0, none⟩) M M] 104) := by rw [← hA]; exact set_one w0
      have a1 : A.heap[D + 1]? = some (.cells #[.slice (some ⟨B9 + 1, 0, none⟩) N N] 104) := by rw [← hA]; exact (set_else (by omega)).trans w1
      have a2 : A.heap[B9]? = some (.cells #[.slice sq ny cq] 104) := by rw [← hA]; exact (set_else (by omega)).trans w2
      have a3 : A.heap[B9 + 1]? = some (.cells cs 98) := by rw [← hA]; exact (set_else (by omega)).trans w3'
      have a4 : A.heap[E]? = some (.cells (madeCells #[.int .u64 0] M) 98) := by rw [← hA]; exact (set_else (by omega)).trans w4
      have ar : Row A sq ny cq bq oq (Y * s) := by rw [← hA]; exact row_set ((show Row W sq ny cq bq oq (Y * s) from ⟨kvr.cap, kvr.at_, fun _ => by omega, fun k hk => (hbW.cell (p := ⟨bq, oq + k, none⟩) (show bq < B9 + 1 by omega)).trans (kvr.cell k hk), kvr.fits⟩).below ((Below.refl _ _).alloc (Nat.le_refl _) _) (Nat.le_refl _)) w0 (fun i e => by cases e) _
      have aw : Below D w A := by rw [← hA]; exact ((kvw.trans (hbW.mono (by omega))).alloc (by omega) _).setCell (by simp) _
      have az : A.heap.size = E + 1 := by rw [← hA]; simp [World.setCell, hE]
      rw [hA]
      have HAK := Lib.hid (And.intro a0 (And.intro a1 (And.intro a2 (And.intro a3 (And.intro a4 (And.intro ar (And.intro aw az)))))))
      have c5 := cell_one a0
      have BK := Lib.hid (fun W => backward_any (some ⟨E, 0, none⟩) M M W)
      clear hA HAL HRV w0 w1 w2 w3' w4 kvr kvw kvs c0 f0 hbW hcs a0 a1 a2 a3 a4 ar aw
      gi_wp2_with fail
      refine (callsIn_wide.2 (BK.out _)).mono ?_
      rintro e w' ⟨rfl, rfl⟩
      gi_wp2_with fail
      try rw [az]
      obtain ⟨a0, a1, a2, a3, a4, ar, aw, _⟩ := HAK.out
      obtain ⟨U, hUe⟩ : ∃ U, X * s = U := ⟨_, rfl⟩
      obtain ⟨Vd, hVe⟩ : ∃ Vd, Y * s = Vd := ⟨_, rfl⟩
      rw [hUe, hVe] at HST
      rw [hVe] at HS3 HS4 ar
      rw [hUe] at hcc hU
      obtain ⟨A1, hA1⟩ : ∃ A1, (A.alloc (.cells #[.slice (some ⟨E, 0, none⟩) M M] 104)) = A1 := ⟨_, rfl⟩
      have b0 : A1.heap[D]? = some (.cells #[.slice (some ⟨E, 0, none⟩) M M] 104) := by rw [← hA1]; exact heap_up a0
      have b1 : A1.heap[D + 1]? = some (.cells #[.slice (some ⟨B9 + 1, 0, none⟩) N N] 104) := by rw [← hA1]; exact heap_up a1
      have b2 : A1.heap[B9]? = some (.cells #[.slice sq ny cq] 104) := by rw [← hA1]; exact heap_up a2
      have b3 : A1.heap[B9 + 1]? = some (.cells cs 98) := by rw [← hA1]; exact heap_up a3
      have b4 : A1.heap[E]? = some (.cells (madeCells #[.int .u64 0] M) 98) := by rw [← hA1]; exact heap_up a4
      have b5 : A1.heap[E + 1]? = some (.cells #[.slice (some ⟨E, 0, none⟩) M M] 104) := by rw [← hA1]; exact heap_at az.symm
      have br : Row A1 sq ny cq bq oq Vd := by rw [← hA1]; exact ar.below ((Below.refl _ _).alloc (Nat.le_refl _) _) (Nat.le_refl _)
      have bw : Below D w A1 := by rw [← hA1]; exact aw.alloc (by omega) _
      have bz : A1.heap.size = E + 2 := by rw [← hA1]; simp [az]
      rw [hA1]
      have hqs : (madeCells #[Value.int .u64 0] M).size = M ∧ ∀ j, j < M → (madeCells #[Value.int .u64 0] M)[j]? = some (.int .u64 (qfB (U / Vd) M j : Nat)) := by
        refine ⟨by rw [← Array.length_toList]; have := toList_madeCells_one (.int .u64 0) M; rw [this]; simp, fun j hj => ?_⟩
        have := toList_madeCells_one (.int .u64 0) M
        rw [← Array.getElem?_toList, this, List.getElem?_replicate, if_pos hj]
        unfold qfB; rw [if_pos hj]; rfl
      have hVp : 0 < Vd := by rw [← hVe]; exact Nat.mul_pos hY0 hs1
      have HQ := Lib.hid (show X / Y = U / Vd ∧ X % Y = U % Vd / s from by
        rw [← hUe, ← hVe, Nat.mul_div_mul_right _ _ hs1, Nat.mul_mod_mul_right, Nat.mul_div_cancel _ hs1]
        exact ⟨rfl, rfl⟩)
      have QFITS := Lib.hid (show U / Vd < BB ^ M from by rw [← hM]; exact quot_fits hVp HST.out)
      have hcs0 : ∀ j, j < N → cs[j]? = some (.int .u64 (dg (wk U Vd M) j : Nat)) := fun j hj => by rw [← hM, HST.out]; exact hcc j hj
      clear hA1 a0 a1 a2 a3 a4 ar aw HAK hcc
      refine Rg.range_allP rfl (by omega) (gf := 120) (lb := #[.pointer (some ⟨E + 1, 0, none⟩)]) rfl trivial (enters_of Tryz.func120 (by kernel_rfl) rfl)
        (backward_givesP (E + 1) (some ⟨E, 0, none⟩) E 0 M M (fun _ => 0) (by omega) 4 A1) (fun _ => rfl)
        (fun b => b = B9 + 1 ∨ b = E) (by show ¬ (A1.heap.size = _ ∨ A1.heap.size = _); omega) (by show ¬ (A1.heap.size + 1 = _ ∨ A1.heap.size + 1 = _); omega)
        (fun pre W => W.heap[D]? = some (.cells #[.slice (some ⟨E, 0, none⟩) M M] 104) ∧ W.heap[D + 1]? = some (.cells #[.slice (some ⟨B9 + 1, 0, none⟩) N N] 104) ∧ W.heap[B9]? = some (.cells #[.slice sq ny cq] 104) ∧ (B9 + 1 < W.heap.size ∧ (∀ j, j < N → W.cell? ⟨B9 + 1, j, none⟩ = some (.int .u64 (dg (wk U Vd (M - pre.length)) j : Nat))) ∧ ∀ j, j < N → W.frozen? ⟨B9 + 1, j, none⟩ = false) ∧ (∃ qs : Array Value, W.heap[E]? = some (.cells qs 98) ∧ qs.size = M ∧ ∀ j, j < M → qs[j]? = some (.int .u64 (qfB (U / Vd) (M - pre.length) j : Nat))) ∧ W.heap[E + 1]? = some (.cells #[.slice (some ⟨E, 0, none⟩) M M] 104) ∧ Row W sq ny cq bq oq Vd ∧ Below D w W)
        (fun _ _ _ => False)
        (fun s A B ⟨h0, h1, h2, ⟨h3s, h3, h3f⟩, ⟨qs, h4, h4'⟩, h5, h6, h7⟩ st => ⟨st.same _ _ _ _ h0, st.same _ _ _ _ h1, st.same _ _ _ _ h2, ⟨Nat.lt_of_lt_of_le h3s st.below.size, fun j hj => cell_step st (h3 j hj), fun j hj => (frozen_step st (h3 j hj)).trans (h3f j hj)⟩, ⟨qs, st.same _ _ _ _ h4, h4'⟩, st.same _ _ _ _ h5, ⟨h6.cap, h6.at_, fun p => Nat.lt_of_lt_of_le (h6.lt p) st.below.size, fun k hk => (st.below.cell (p := ⟨bq, oq + k, none⟩) (show bq < A1.heap.size by omega)).trans (h6.cell k hk), h6.fits⟩, h7.trans (st.below.mono (by omega))⟩)
        (fun _ _ _ _ h _ => h)
        (fun s A ⟨_, _, _, _, ⟨qs, h4, _, h4'⟩, h5, _, _⟩ => ⟨cell_one h5, fun _ => rfl, fun k hk => by
          rw [Nat.zero_add, cell_row h4, h4' k (by omega)]; unfold qfB; rw [if_pos (by omega)]; rfl⟩)
        ⟨b0, b1, b2, ⟨by omega, fun j hj => (cell_row b3).trans (hcs0 j hj), fun j _ => free_row b3⟩, ⟨_, b4, hqs⟩, b5, br, bw⟩
        (fun q => { tmps := #[.slice sx nx cx, .slice (some ⟨by_, oy, none⟩) ny cpy, undef, undef, .pointer (some ⟨D, 0, none⟩), .pointer (some ⟨D + 1, 0, none⟩), undef, undef, .int IntKind.u64 (s : Nat), .pointer (some ⟨B9, 0, none⟩), .int .i64 (q.1 : Nat), undef, undef, .slice sx nx cx, .int IntKind.i64 (nx : Nat), .slice (some ⟨by_, oy, none⟩) ny cpy, .int IntKind.i64 (ny : Nat), .bool false, undef, undef, .slice (some ⟨by_, oy, none⟩) ny cpy, .int IntKind.i64 (ny : Nat), .bool false, undef, undef, undef, undef, undef, undef, undef, undef, undef, undef, undef, undef, .slice (some ⟨by_, oy, none⟩) ny cpy, .slice (some ⟨by_, oy, none⟩) ny cpy, .int IntKind.i64 (ny : Nat), .int IntKind.i64 (n1 : Nat), .pointer (some ⟨by_, oy + n1, none⟩), .int IntKind.u64 (top : Nat), .int IntKind.u64 ((top : Nat) + 1), .int IntKind.u64 (s : Nat), .slice (some ⟨by_, oy, none⟩) ny cpy, .int IntKind.u64 (s : Nat), .slice (some ⟨D + 1 + 1, 0, none⟩) 1 1, .slice sq ny cq, .slice sx nx cx, .int IntKind.i64 (nx : Nat), .int IntKind.i64 (N : Nat), .slice (some ⟨B9 + 1, 0, none⟩) N N, y0, y1, y2, y3, y4, y5, .slice sx nx cx, .int IntKind.i64 (nx : Nat), .slice (some ⟨by_, oy, none⟩) ny cpy, .int IntKind.i64 (ny : Nat), .int IntKind.i64 (m : Nat), .int IntKind.i64 (M : Nat), .slice (some ⟨E, 0, none⟩) M M, .slice (some ⟨E, 0, none⟩) M M, .func (.func 120) #[] #[.pointer (some ⟨E + 1, 0, none⟩)], .int .i64 (q.1 : Nat), .int .u64 q.2, undef, undef, undef, undef, undef, undef, undef, undef, undef, undef, undef, undef, undef, undef, undef, undef, undef, undef, undef, undef, undef, undef, undef, undef, undef, undef, undef, undef, undef, undef, undef, undef, undef], defers := [] }) ?assign ?body ?done ?stop
      case assign =>
        intro l q W K hK
        gi_wp2
        exact hK
      case stop =>
        rintro Dd c pre W hDd _ h hK
        exact h.elim
      case body =>
        rintro l pre q W ⟨h0, h1, h2, ⟨h3, h3c, h3f⟩, ⟨qs, h4, h4s, h4c⟩, h5, h6, h7⟩ hpost hszW
        obtain ⟨hlen, _, hq⟩ := downL_at _ M hpost
        subst hq
        have HPL := Lib.hid (show M - (pre ++ [(M - 1 - pre.length, (0 : Int))]).length = M - 1 - pre.length by rw [List.length_append, List.length_singleton]; omega)
        obtain ⟨k, hk⟩ : ∃ k, M - 1 - pre.length = k := ⟨_, rfl⟩
        rw [hk] at HPL ⊢
        have hk1 : M - pre.length = k + 1 := by omega
        rw [hk1] at h3c h4c
        have hkM : k < M := by omega
        have hNny : N = ny + M := by have := HNN.out; have := HNX.out; have := HNY.out; omega
        obtain ⟨hP1, hP2, hP3⟩ := long_step (U := U) (k := k) hVp
        have HPW := Lib.hid (fun j => wk_win U Vd k j)
        have hVf := HS3.out
        obtain ⟨P, hP⟩ : ∃ P, BB * (U / BB ^ (k + 1) % Vd) + dg U k = P := ⟨_, rfl⟩
        rw [hP] at hP1 hP2 hP3 HPW
        have hPf : P < BB ^ (ny + 1) := by
          rw [← HNY.out, Nat.pow_succ]
          exact Nat.lt_of_lt_of_le hP3 (Nat.mul_le_mul_right _ (Nat.le_of_lt hVf))
        have prow : Row W (some ⟨B9 + 1, k, none⟩) (ny + 1) (N - k) (B9 + 1) k P := ⟨by omega, fun _ => rfl, fun _ => h3, fun j hj => by
          rw [h3c (k + j) (by omega), HPW.out j], hPf⟩
        have hki : (k : Int) ≤ (k : Int) + (ny : Int) := by omega
        obtain ⟨T, hT⟩ : ∃ T, k + ny + 1 = T := ⟨_, rfl⟩
        have hTi : (k : Int) + (ny : Int) + 1 = (T : Int) := by omega
        have hkT : (k : Int) ≤ (T : Int) := by omega
        have hTN : (T : Int) ≤ (N : Int) := by omega
        have hTk : T - k = ny + 1 := by omega
        have c0 := cell_one h0
        have c1 := cell_one h1
        have c2 := cell_one h2
        have HB := Lib.hid (And.intro h0 (And.intro h1 (And.intro h2 (And.intro h3 (And.intro h4 (And.intro h5 (And.intro h6 (And.intro h7 prow))))))))
        have HBC := Lib.hid (And.intro h3c (And.intro h3f (And.intro h4s h4c)))
        clear h0 h1 h2 h3 h3c h3f h4 h4s h4c h5 h6 h7 prow b0 b1 b2 b3 b4 b5 br bw hqs hcs0 hmk hmkM BK c5 hpost hP hPf hVf
        have e1 : n + 3 = ny + 1 := by have := HNY.out; omega
        have hd0 : 1 ≤ dg Vd (n + 1) := by
          have h := Im.dg_top bb2 hVp
          have e : Im.nd BB Vd - 1 = n + 1 := by have := HS4.out; unfold nd at this; omega
          rw [e] at h
          show 1 ≤ Im.dg BB Vd (n + 1)
          omega
        have GU := Lib.hid (by
          have := guess_any (some ⟨B9 + 1, k, none⟩) (N - k) (B9 + 1) k P sq n cq bq oq Vd W (by rw [e1]; exact HB.out.2.2.2.2.2.2.2.2) (by rw [HNY.out]; exact HB.out.2.2.2.2.2.2.1) (by omega) hd0
          rw [e1, HNY.out] at this
          exact this)
        have hBB : BB ≤ Vd / BB ^ n := by
          have h := Im.pow_nd_le bb2 hVp
          have e : Im.nd BB Vd - 1 = n + 1 := by have := HS4.out; unfold nd at this; omega
          rw [e, Nat.pow_succ'] at h
          exact (Nat.le_div_iff_mul_le (bb_pos n)).2 h
        have hgb := gs_bounds hBB hP3
        have hg9 : gsP (P / BB ^ n) (Vd / BB ^ n) ≤ BB - 1 := Nat.min_le_right _ _
        obtain ⟨Z, hZ1, hZ2, hZ3, hZ4, hZ5⟩ := step_guess hP3 HS3.out hgb hg9
        rw [e1] at hZ1 hZ2 hZ3 hZ5
        obtain ⟨gg, hgg⟩ : ∃ gg, gsP (P / BB ^ n) (Vd / BB ^ n) = gg := ⟨_, rfl⟩
        rw [hgg] at GU hgb hg9 hZ2 hZ3 hZ4 hZ5
        have hgl : gg < 1000000000 := by unfold BB at hg9; omega
        have FRZ : ∀ j, j < ny + 1 → W.frozen? ⟨B9 + 1, k + j, none⟩ = false := fun j hj => HBC.out.2.1 (k + j) (by omega)
        have SU := Lib.hid (fun mm => subT_any (B9 + 1) k (ny + 1) (N - k) P sq ny cq bq oq Vd gg Z (W.drewN mm) (by omega) (by omega) (by omega) HB.out.2.2.2.1 (fun j hj => HB.out.2.2.2.2.2.2.2.2.cell j hj) (fun j hj => FRZ j hj) (HB.out.2.2.2.2.2.2.1.below ((Below.refl _ W).trans ⟨rfl, rfl, rfl, Nat.le_refl _, fun _ _ => rfl⟩) (Nat.le_refl _)) (fun _ => by omega) hgl hZ2)
        have AD := Lib.hid (fun (w2 : World) (h : gg = P / Vd + 1) (mm : Nat) (hw : Win (B9 + 1) k (ny + 1) (W.drewN mm) w2) (hc : ∀ j, j < ny + 1 → w2.cell? ⟨B9 + 1, k + j, none⟩ = some (.int .u64 (dg Z j : Nat))) =>
          addBack_any (B9 + 1) k (ny + 1) (N - k) Z sq ny cq bq oq Vd (P % Vd) w2 (by omega) (by omega) (by omega) hc (fun j hj => (hw.frozen (k + j)).trans (FRZ j hj)) (hw.row (HB.out.2.2.2.2.2.2.1.below ((Below.refl _ W).trans ⟨rfl, rfl, rfl, Nat.le_refl _, fun _ _ => rfl⟩) (Nat.le_refl _)) (fun _ => by omega)) (fun _ => by omega) (hZ5 h))
        have HZ34 := Lib.hid (And.intro hZ3 hZ4)
        have HNN2 := Lib.hid hNny
        have HPD := Lib.hid (And.intro hP1 hP2)
        clear hNny hBB hZ1 hZ2 hZ3 hZ4 hZ5 hgg FRZ hd0 hP1 hP2 hP3 e1
        obtain ⟨cap', hcap'⟩ : ∃ c, N - k = c := ⟨_, rfl⟩
        rw [hcap'] at GU SU AD
        gi_wp2_with fail
        refine (CallsIn.inRound l (callsIn_wide.2 GU.out)).mono ?_
        rintro e w1 ⟨rfl, mm, rfl⟩
        gi_wp2_with fail
        refine (CallsIn.inRound l (callsIn_wide.2 (SU.out mm))).mono ?_
        rintro e w2 ⟨rfl, hw2, hc2⟩
        have FIN := Lib.hid (fun (mm : Nat) (w3 : World) (hw : Win (B9 + 1) k (ny + 1) (W.drewN mm) w3) (hc : ∀ j, j < ny + 1 → w3.cell? ⟨B9 + 1, k + j, none⟩ = some (.int .u64 (dg (P % Vd) j : Nat))) => show Rg.Round (fun b => b = B9 + 1 ∨ b = E) W (w3.setCell ⟨E, k, none⟩ (.int .u64 (P / Vd : Nat))) ∧ (w3.setCell ⟨E, k, none⟩ (.int .u64 (P / Vd : Nat))).heap[D]? = some (.cells #[.slice (some ⟨E, 0, none⟩) M M] 104) ∧ (w3.setCell ⟨E, k, none⟩ (.int .u64 (P / Vd : Nat))).heap[D + 1]? = some (.cells #[.slice (some ⟨B9 + 1, 0, none⟩) N N] 104) ∧ (w3.setCell ⟨E, k, none⟩ (.int .u64 (P / Vd : Nat))).heap[B9]? = some (.cells #[.slice sq ny cq] 104) ∧ (B9 + 1 < (w3.setCell ⟨E, k, none⟩ (.int .u64 (P / Vd : Nat))).heap.size ∧ (∀ j, j < N → (w3.setCell ⟨E, k, none⟩ (.int .u64 (P / Vd : Nat))).cell? ⟨B9 + 1, j, none⟩ = some (.int .u64 (dg (wk U Vd (M - (pre ++ [(k, (0 : Int))]).length)) j : Nat))) ∧ ∀ j, j < N → (w3.setCell ⟨E, k, none⟩ (.int .u64 (P / Vd : Nat))).frozen? ⟨B9 + 1, j, none⟩ = false) ∧ (∃ qs : Array Value, (w3.setCell ⟨E, k, none⟩ (.int .u64 (P / Vd : Nat))).heap[E]? = some (.cells qs 98) ∧ qs.size = M ∧ ∀ j, j < M → qs[j]? = some (.int .u64 (qfB (U / Vd) (M - (pre ++ [(k, (0 : Int))]).length) j : Nat))) ∧ (w3.setCell ⟨E, k, none⟩ (.int .u64 (P / Vd : Nat))).heap[E + 1]? = some (.cells #[.slice (some ⟨E, 0, none⟩) M M] 104) ∧ Row (w3.setCell ⟨E, k, none⟩ (.int .u64 (P / Vd : Nat))) sq ny cq bq oq Vd ∧ Below D w (w3.setCell ⟨E, k, none⟩ (.int .u64 (P / Vd : Nat))) from by
          obtain ⟨h0, h1, h2, h3, h4, h5, h6, h7, _⟩ := HB.out
          obtain ⟨h3c, h3f, h4s, h4c⟩ := HBC.out
          have sm : ∀ i, i ≠ B9 + 1 → w3.heap[i]? = W.heap[i]? := fun i hi => hw.same i hi
          have sz : w3.heap.size = W.heap.size := hw.size
          have hE3 : w3.heap[E]? = some (.cells qs 98) := (sm E (by omega)).trans h4
          have rd : Rg.Round (fun b => b = B9 + 1 ∨ b = E) W w3 := ⟨by omega, fun i o hi ho hc => (sm i (fun e => ho (.inl e))).trans hi⟩
          have hr3 : Row w3 sq ny cq bq oq Vd := hw.row (h6.below ((Below.refl _ W).trans ⟨rfl, rfl, rfl, Nat.le_refl _, fun _ _ => rfl⟩) (Nat.le_refl _)) (fun _ => by omega)
          have ce : ∀ j, (w3.setCell ⟨E, k, none⟩ (.int .u64 (P / Vd : Nat))).cell? ⟨B9 + 1, j, none⟩ = w3.cell? ⟨B9 + 1, j, none⟩ := fun j => World.cell?_of_block (a := ⟨B9 + 1, j, none⟩) (set_else (show B9 + 1 ≠ E by omega))
          refine ⟨rd.set (.inr rfl) _, (set_else (by omega)).trans ((sm D (by omega)).trans h0), (set_else (by omega)).trans ((sm (D + 1) (by omega)).trans h1), (set_else (by omega)).trans ((sm B9 (by omega)).trans h2), ⟨by rw [World.size_setCell]; omega, fun j hj => ?_, fun j hj => ?_⟩, ⟨_, set_row hE3, by simp [h4s], fun j hj => ?_⟩, (set_else (by omega)).trans ((sm (E + 1) (by omega)).trans h5), ⟨hr3.cap, hr3.at_, fun p => by rw [World.size_setCell]; exact hr3.lt p, fun j hj => (World.cell?_of_block (a := ⟨bq, oq + j, none⟩) (set_else (show bq ≠ E by omega))).trans (hr3.cell j hj), hr3.fits⟩, (((h7.trans (show Below D W (W.drewN mm) from ⟨rfl, rfl, rfl, Nat.le_refl _, fun _ _ => rfl⟩)).trans (hw.below D (by omega)))).setCell (by simp; omega) _⟩
          · rw [HPL.out, ce, wk_next (n := ny) (by rw [← HNY.out]; exact HS3.out) hVp]
            split
            · exact (hw.cell j (by omega)).trans (h3c j hj)
            · split
              · rw [← HPD.out.2]
                have := hc (j - k) (by omega)
                rwa [show k + (j - k) = j by omega] at this
              · exact (hw.cell j (by omega)).trans (h3c j hj)
          · rw [show (w3.setCell ⟨E, k, none⟩ (.int .u64 (P / Vd : Nat))).frozen? ⟨B9 + 1, j, none⟩ = w3.frozen? ⟨B9 + 1, j, none⟩ from by unfold World.frozen?; rw [show (w3.setCell ⟨E, k, none⟩ (.int .u64 (P / Vd : Nat))).heap[(⟨B9 + 1, j, none⟩ : Addr).block]? = w3.heap[(⟨B9 + 1, j, none⟩ : Addr).block]? from set_else (show B9 + 1 ≠ E by omega)]]
            exact (hw.frozen j).trans (h3f j hj)
          · rw [HPL.out]
            unfold qfB at h4c ⊢
            by_cases hij : k = j
            · subst hij
              rw [Array.getElem?_setIfInBounds_self_of_lt (by omega), HPD.out.1, if_neg (by omega)]
            · rw [Array.getElem?_setIfInBounds_ne hij, h4c j hj]
              by_cases h9 : j < k
              · rw [if_pos h9, if_pos (by omega)]
              · rw [if_neg h9, if_neg (by omega)])
        have HW2 := Lib.hid (And.intro hw2 hc2)
        have k2 : w2.heap[B9]? = _ := (hw2.same B9 (by omega)).trans HB.out.2.2.1
        have c2' := cell_one k2
        have hkMi : (k : Int) < (M : Int) := by omega
        have CE := Lib.hid (fun (w3 : World) (hw : Win (B9 + 1) k (ny + 1) (W.drewN mm) w3) => show w3.cell? ⟨D, 0, none⟩ = some (.slice (some ⟨E, 0, none⟩) M M) ∧ w3.cell? ⟨E, k, none⟩ = some (.int .u64 0) ∧ w3.frozen? ⟨E, k, none⟩ = false from by
          have h4 : w3.heap[E]? = some (.cells qs 98) := (hw.same E (by omega)).trans HB.out.2.2.2.2.1
          refine ⟨cell_one ((hw.same D (by omega)).trans HB.out.1), (cell_row h4).trans ?_, free_row h4⟩
          rw [HBC.out.2.2.2 k hkM]; unfold qfB; rw [if_pos (by omega)]; rfl)
        clear hw2 hc2
        by_cases hbr : gg = P / Vd + 1
        · have hdc : decide (cy Z (gg * Vd) (ny + 1) = 1) = true := decide_eq_true (HZ34.out.1.2 hbr)
          rw [hdc]
          have hgm : (gg : Int) - 1 = (P / Vd : Nat) := by omega
          obtain ⟨QQ, hQQ⟩ : ∃ QQ, P / Vd = QQ := ⟨_, rfl⟩
          rw [hQQ] at hgm FIN
          have HBR := Lib.hid hbr
          clear hbr hQQ
          gi_wp2_with fail
          refine (CallsIn.inRound l (callsIn_wide.2 (AD.out w2 HBR.out mm HW2.out.1 HW2.out.2))).mono ?_
          rintro e w3 ⟨⟨v3, rfl⟩, hw3, hc3⟩
          have hww := HW2.out.1.trans hw3
          obtain ⟨j0, j1, j2⟩ := CE.out w3 hww
          have FF := Lib.hid (FIN.out mm w3 hww hc3)
          clear hw3 hc3 hww
          gi_wp2_with fail
          exact FF.out
        · have hdc : decide (cy Z (gg * Vd) (ny + 1) = 1) = false := decide_eq_false (fun h => hbr (HZ34.out.1.1 h))
          rw [hdc]
          have hge : P / Vd = gg := by omega
          have FF := Lib.hid (FIN.out mm w2 HW2.out.1 (by rw [← HZ34.out.2 hge.symm]; exact HW2.out.2))
          rw [hge] at FF
          obtain ⟨j0, j1, j2⟩ := CE.out w2 HW2.out.1
          clear hbr hge
          gi_wp2_with fail
          exact FF.out
      case done =>
        rintro Dd W hDd ⟨h0, h1, h2, ⟨h3, h3c, h3f⟩, ⟨qs, h4, h4s, h4c⟩, h5, h6, h7⟩ hK
        rw [downL_length, Nat.sub_self] at h3c h4c
        have hw0 : wk U Vd 0 = U % Vd := by unfold wk; rw [Nat.pow_zero, Nat.div_one, Nat.mul_one, Nat.mod_one, Nat.add_zero]
        rw [hw0] at h3c
        have hrow : Row W (some ⟨B9 + 1, 0, none⟩) N N (B9 + 1) 0 (U % Vd) := ⟨Nat.le_refl _, fun _ => rfl, fun _ => h3, fun k hk => by
          rw [Nat.zero_add, h3c k hk], Nat.lt_of_le_of_lt (Nat.mod_le _ _) hU⟩
        have hqrow : Row W (some ⟨E, 0, none⟩) M M E 0 (U / Vd) := ⟨Nat.le_refl _, fun _ => rfl, fun _ => (Array.getElem?_eq_some_iff.1 h4).1, fun k hk => by
          rw [Nat.zero_add, cell_row h4, h4c k hk]; unfold qfB; rw [if_neg (by omega)], QFITS.out⟩
        have BP := Lib.hid (fun (W' : World) (h : W'.heap = W.heap) => byPiece_any (some ⟨B9 + 1, 0, none⟩) N N (B9 + 1) 0 (U % Vd) s (by omega) hs2 W' ⟨hrow.cap, hrow.at_, fun p => by rw [h]; exact hrow.lt p, fun k hk => (World.cell?_of_block (a := ⟨B9 + 1, 0 + k, none⟩) (by rw [h])).trans (hrow.cell k hk), hrow.fits⟩ (by omega))
        have c1 := cell_one h1
        have f1 := free_one h1
        have HH := Lib.hid (And.intro h0 (And.intro h1 (And.intro h3 (And.intro h4 (And.intro h7 (And.intro hK hqrow))))))
        clear h0 h1 h2 h3 h3c h3f h4 h4s h4c h5 h6 h7 hK hrow hqrow b0 b1 b2 b3 b4 b5 br bw hqs hcs0 hmk hmkM BK c5 hw0
        gi_wp2_with fail
        refine (callsIn_wide.2 (BP.out W rfl)).mono ?_
        rintro e w9 ⟨⟨v9, rfl, h9⟩, hb9⟩
        obtain ⟨sa, cap, b, o, rfl, hr9⟩ := h9
        obtain ⟨h0, h1, h3, h4, h7, hK, hqrow⟩ := HH.out
        have lt : ∀ {i : Nat} {x : Obj}, W.heap[i]? = some x → i < W.heap.size := fun h => (Array.getElem?_eq_some_iff.1 h).1
        have d0 := (hb9.block D (lt h0)).trans h0
        have d1 := (hb9.block (D + 1) (lt h1)).trans h1
        have d4 := (hb9.block E (lt h4)).trans h4
        have dK := (hb9.block Dd (lt hK)).trans hK
        have dq := hqrow.below hb9 (Nat.le_refl _)
        have dw : Below D w w9 := h7.trans (hb9.mono (by have := lt h0; omega))
        clear h0 h1 h3 h4 h7 hK hqrow HH BP c1 f1 hb9 lt
        have c9 := cell_one d1
        have f9 := free_one d1
        obtain ⟨B, hB⟩ : ∃ B, w9.setCell ⟨D + 1, 0, none⟩ (.slice sa (nd (U % Vd / s)) cap) = B := ⟨_, rfl⟩
        have e0 : B.heap[D]? = some (.cells #[.slice (some ⟨E, 0, none⟩) M M] 104) := by rw [← hB]; exact (set_else (by omega)).trans d0
        have e1 : B.heap[D + 1]? = some (.cells #[.slice sa (nd (U % Vd / s)) cap] 104) := by rw [← hB]; exact set_one d1
        have e4 : B.heap[E]? = some (.cells qs 98) := by rw [← hB]; exact (set_else (by omega)).trans d4
        have eK : B.heap[Dd]? = some (.deferred (some [])) := by rw [← hB]; exact (set_else (by omega)).trans dK
        have eq : Row B (some ⟨E, 0, none⟩) M M E 0 (U / Vd) := by rw [← hB]; exact row_set dq d1 (fun i e => by cases e) _
        have er : Row B sa (nd (U % Vd / s)) cap b o (U % Vd / s) := by rw [← hB]; exact row_set hr9 d1 (fun i e => by cases e) _
        have ew : Below D w B := by rw [← hB]; exact dw.setCell (by simp) _
        have TR := Lib.hid (fun (W' : World) (h : W'.heap = B.heap) => trimmed_any (some ⟨E, 0, none⟩) M M E 0 (U / Vd) W' ⟨eq.cap, eq.at_, fun p => by rw [h]; exact eq.lt p, fun k hk => (World.cell?_of_block (a := ⟨E, 0 + k, none⟩) (by rw [h])).trans (eq.cell k hk), eq.fits⟩ (by omega))
        have HRT := Lib.hid eq.trim
        have HER := Lib.hid er
        have x0 := cell_one e0
        have y0' := free_one e0
        have x1 := cell_one e1
        have y1' := free_one e1
        have HE := Lib.hid (And.intro e0 (And.intro e1 (And.intro e4 (And.intro eK ew))))
        obtain ⟨nr, hnr⟩ : ∃ nr, nd (U % Vd / s) = nr := ⟨_, rfl⟩
        rw [hnr] at hB x1 HER HE
        rw [hnr]
        have HNR := Lib.hid hnr
        clear hnr e0 e1 e4 eK eq er ew d0 d1 d4 dK dq dw hr9
        gi_upto_region 20 with fail
        try rw [hB]
        clear hB c9 f9
        gi_region_with (refine (callsIn_wide.2 (TR.out _ (by rfl))).mono ?_; rintro e w9 ⟨rfl, hw9⟩; subst w9)
        all_goals (obtain ⟨e0, e1, e4, eK, ew⟩ := HE.out; clear x0 y0' x1 y1'; have k0 : ((B.setCell ⟨D, 0, none⟩ (.slice (some ⟨E, 0, none⟩) (nd (U / Vd)) M)).setCell ⟨D + 1, 0, none⟩ (.slice sa nr cap)).drew.heap[D]? = some (.cells #[.slice (some ⟨E, 0, none⟩) (nd (U / Vd)) M] 104) := (set_else (by omega)).trans (set_one e0); have k1 : ((B.setCell ⟨D, 0, none⟩ (.slice (some ⟨E, 0, none⟩) (nd (U / Vd)) M)).setCell ⟨D + 1, 0, none⟩ (.slice sa nr cap)).drew.heap[D + 1]? = some (.cells #[.slice sa nr cap] 104) := set_one ((set_else (by omega)).trans e1); have k3 : ((B.setCell ⟨D, 0, none⟩ (.slice (some ⟨E, 0, none⟩) (nd (U / Vd)) M)).setCell ⟨D + 1, 0, none⟩ (.slice sa nr cap)).drew.heap[Dd]? = some (.deferred (some [])) := (set_else (by omega)).trans ((set_else (by omega)).trans eK); have kw : Below D w ((B.setCell ⟨D, 0, none⟩ (.slice (some ⟨E, 0, none⟩) (nd (U / Vd)) M)).setCell ⟨D + 1, 0, none⟩ (.slice sa nr cap)).drew := ((ew.setCell (p := ⟨D, 0, none⟩) (by simp) _).setCell (p := ⟨D + 1, 0, none⟩) (by simp) _).drew)
        all_goals (have kq : Row ((B.setCell ⟨D, 0, none⟩ (.slice (some ⟨E, 0, none⟩) (nd (U / Vd)) M)).setCell ⟨D + 1, 0, none⟩ (.slice sa nr cap)).drew (some ⟨E, 0, none⟩) (nd (U / Vd)) M E 0 (U / Vd) := (row_set (row_set HRT.out e0 (fun i e => by cases e) _) ((set_else (by omega)).trans e1) (fun i e => by cases e) _).below ((Below.refl _ _).drew) (Nat.le_refl _); have kr : Row ((B.setCell ⟨D, 0, none⟩ (.slice (some ⟨E, 0, none⟩) (nd (U / Vd)) M)).setCell ⟨D + 1, 0, none⟩ (.slice sa nr cap)).drew sa nr cap b o (U % Vd / s) := (row_set (row_set HER.out e0 (fun i e => by cases e) _) ((set_else (by omega)).trans e1) (fun i e => by cases e) _).below ((Below.refl _ _).drew) (Nat.le_refl _))
        all_goals (have KK := Lib.hid (And.intro k0 (And.intro k1 (And.intro k3 (And.intro kw (And.intro kq kr))))); clear e0 e1 e4 eK ew k0 k1 k3 kw kq kr; generalize ((B.setCell ⟨D, 0, none⟩ (.slice (some ⟨E, 0, none⟩) (nd (U / Vd)) M)).setCell ⟨D + 1, 0, none⟩ (.slice sa nr cap)).drew = A2 at *)
        all_goals gi_wp2
        all_goals (obtain ⟨k0, k1, k3, kw, kq, kr⟩ := KK.out; refine ⟨by simp, .inl ⟨_, _, rfl, run_takeDeferred k3, ?_⟩⟩)
        all_goals (have hst := Rg.Step.putObj (b := D) A2 _ (.deferred none) (by omega) k3 rfl; have z1 := cell_one (hst.same _ _ _ _ k0); have z2 := cell_one (hst.same _ _ _ _ k1))
        all_goals (exact ⟨.tuple #[.slice (some ⟨E, 0, none⟩) (nd (U / Vd)) M, .slice sa nr cap], by simp [results, Tryz.results117, go_sem, z1, z2], ⟨_, _, rfl, by rw [HQ.out.1]; exact ⟨_, _, _, _, rfl, row_step hst kq⟩, by rw [HQ.out.2]; exact ⟨sa, cap, b, o, by rw [HNR.out], by rw [HNR.out]; exact row_step hst kr⟩⟩, by rw [hD]; exact kw.trans hst.below⟩)
end Go.Proofs.YthdoadkdofgenaaGreatDoor
/- divideMagnitudes: the three arms together. -/
namespace Go.Proofs.YthdoadkdofgenaaGreatDoor
open Go Go.RowKit Go.Shelf

theorem divM_any (sx : Option Addr) (cx bx ox X : Nat) (sy : Option Addr) (cpy by_ oy Y : Nat) (hY : 0 < Y) (w : World) (hx : Row w sx (nd X) cx bx ox X) (hy : Row w sy (nd Y) cpy by_ oy Y) (hn : nd X ≤ 300000) :
    Calls Tryz.prog 117 #[.slice sx (nd X) cx, .slice sy (nd Y) cpy] w fun e w' => (∃ v1 v2, e = .returned (.tuple #[v1, v2]) ∧ Mag w' v1 (X / Y) ∧ Mag w' v2 (X % Y)) ∧ Below w.heap.size w w' := by
  have h1 : 1 ≤ nd Y := by have := Im.nd_pos bb2 hY; unfold nd; omega
  by_cases hl : nd X < nd Y
  · exact divM_less sx cx bx ox X sy cpy by_ oy Y hl w hx (by omega)
  · by_cases h2 : nd Y = 1
    · exact divM_one sx cx bx ox X sy cpy by_ oy Y h2 (by omega) w hx hy (by omega)
    · exact divM_long sx cx bx ox X sy cpy by_ oy Y (nd Y - 2) (nd X - nd Y) (by omega) (by omega) w hx hy hn
end Go.Proofs.YthdoadkdofgenaaGreatDoor
