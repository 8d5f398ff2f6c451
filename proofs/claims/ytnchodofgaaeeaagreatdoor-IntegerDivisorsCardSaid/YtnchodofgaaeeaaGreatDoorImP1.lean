/- Contracts of addBack and guessPiece. -/
import Derived.Test.YtnchodofgaaeeaaGreatDoorImJ
namespace Go.Proofs.YtnchodofgaaeeaaGreatDoor
open Go Go.RowKit Go.Shelf

theorem div_dgJ (x k : Nat) : x / BB ^ k = BB * (x / BB ^ (k + 1)) + dg x k := by
  unfold dg Im.dg
  rw [Nat.pow_succ, ← Nat.div_div_eq_div_mul]
  exact (Nat.div_add_mod _ _).symm
set_option maxRecDepth 100000 in
set_option maxHeartbeats 4000000 in
theorem addBack_any (ba oa n capa X : Nat) (sy : Option Addr) (ny cpy by_ oy y Z : Nat) (w : World) (hn : n ≤ 1048576) (hny : ny ≤ n) (hcap : n ≤ capa)
    (hX : ∀ k, k < n → w.cell? ⟨ba, oa + k, none⟩ = some (.int .u64 (dg X k : Nat))) (hfr : ∀ k, k < n → w.frozen? ⟨ba, oa + k, none⟩ = false)
    (hy : Row w sy ny cpy by_ oy y) (hne : 0 < ny → by_ ≠ ba) (hZ : Z % BB ^ n = (X + y) % BB ^ n) :
    Calls Tryz.prog 111 #[.slice (some ⟨ba, oa, none⟩) n capa, .slice sy ny cpy] w fun e w' => (∃ v, e = .returned v) ∧ Win ba oa n w w' ∧ ∀ k, k < n → w'.cell? ⟨ba, oa + k, none⟩ = some (.int .u64 (dg Z k : Nat)) := by
  have HX := Lib.hid hX
  have HF := Lib.hid hfr
  have HY := Lib.hid hy
  have hdig : ∀ k, k < n → (cy X y k + dg X k + dg y k) % 1000000000 = dg Z k := fun k hk => by
    rw [cy_digit]
    have hd : BB ^ (k + 1) ∣ BB ^ n := Nat.pow_dvd_pow _ (by omega)
    exact Im.dg_mod (by rw [← Nat.mod_mod_of_dvd (X + y) hd, ← hZ, Nat.mod_mod_of_dvd _ hd])
  have HDG := Lib.hid hdig
  have HD := Lib.hid (fun k (h : ny ≤ k) => show dg y k = 0 from Im.dg_high (Nat.lt_of_lt_of_le hy.fits (Nat.pow_le_pow_right (by unfold BB; omega) h)))
  have hcy := hy.cap
  clear hX hfr hy hZ hdig
  go_enter Tryz.func111, Tryz.ntmps111
  go_wp2_with fail
  go_loopw [4, 8] (fun c i wr => ∃ k : Nat, k ≤ n ∧ i = .int .i64 (k : Int) ∧ c = .int .u64 (cy X y k : Nat) ∧ Win ba oa n w wr ∧ (∀ j, j < k → wr.cell? ⟨ba, oa + j, none⟩ = some (.int .u64 (dg Z j : Nat))) ∧ ∀ j, k ≤ j → j < n → wr.cell? ⟨ba, oa + j, none⟩ = some (.int .u64 (dg X j : Nat))) (fun _ i _ => n - (intOf i).toNat)
  case atStart => exact ⟨0, Nat.zero_le _, rfl, by rw [cy_zero]; rfl, Win.refl _ _ _ _, fun j hj => absurd hj (Nat.not_lt_zero _), fun j _ hj => HX.out j hj⟩
  case round =>
    obtain ⟨k, hk, rfl, rfl, hw, hlo, hhi⟩ := hrel
    have HLO := Lib.hid hlo
    have HHI := Lib.hid hhi
    clear hlo hhi
    by_cases h1 : k < n
    · have hki : (k : Int) < (n : Int) := by omega
      have ca := HHI.out k (Nat.le_refl _) h1
      have cf : wr.frozen? ⟨ba, oa + k, none⟩ = false := (hw.frozen _).trans (HF.out k h1)
      have S := HDG.out k h1
      have N := cy_next X y k
      have l1 := cy_le X y k
      have l2 := dg_lt Z k
      have l3 := dg_lt X k
      have l4 := dg_lt y k
      obtain ⟨c2, hc2⟩ : ∃ c2, cy X y (k + 1) = c2 := ⟨_, rfl⟩
      have HC2 := Lib.hid hc2
      rw [hc2] at N
      by_cases h2 : k < ny
      · have hkj : (k : Int) < (ny : Int) := by omega
        have cb : wr.cell? ⟨by_, oy + k, none⟩ = some (.int .u64 (dg y k : Nat)) := (World.cell?_of_block (a := ⟨by_, oy + k, none⟩) (hw.same by_ (hne (by omega)))).trans (HY.out.cell k h2)
        obtain rfl := HY.out.at_ (by omega)
        obtain ⟨dz, hdz⟩ : ∃ dz, dg Z k = dz := ⟨_, rfl⟩
        rw [hdz] at S l2
        have hval : ∀ x : Int, x = (dz : Int) → (.int .u64 x : Value) = .int .u64 (dg Z k : Nat) := fun x hx => by rw [hx, hdz]
        have FC := Lib.hid (fun (x : Int) (hx : x = (dz : Int)) => fin_cells (dz := dg Z) (dx := dg X) h1 hw ca (hval x hx) HLO.out (fun j hj hjn => HHI.out j (by omega) hjn))
        clear hc2 hdz hval
        generalize cy X y k = c at *
        generalize dg X k = d1 at *
        generalize dg y k = d2 at *
        have hm : (((c : Nat) : Int) + ((d1 : Nat) : Int) + ((d2 : Nat) : Int)) % 1000000000 = (dz : Int) := by omega
        have hn2 : (((c : Nat) : Int) + ((d1 : Nat) : Int) + ((d2 : Nat) : Int)) / 1000000000 = (c2 : Int) := by omega
        clear S N
        go_wp2_with fail
        go_roundw
        case rel => exact ⟨k + 1, by omega, by go_num, by rw [HC2.out]; exact congrArg _ hn2, FC.out _ rfl⟩
        case measure => simp [intOf]; omega
      · have hkj : ¬ (k : Int) < (ny : Int) := by omega
        have hd0 := HD.out k (by omega)
        rw [hd0] at S N
        clear l4 hd0
        obtain ⟨dz, hdz⟩ : ∃ dz, dg Z k = dz := ⟨_, rfl⟩
        rw [hdz] at S l2
        have hval : ∀ x : Int, x = (dz : Int) → (.int .u64 x : Value) = .int .u64 (dg Z k : Nat) := fun x hx => by rw [hx, hdz]
        have FC := Lib.hid (fun (x : Int) (hx : x = (dz : Int)) => fin_cells (dz := dg Z) (dx := dg X) h1 hw ca (hval x hx) HLO.out (fun j hj hjn => HHI.out j (by omega) hjn))
        clear hc2 hdz hval
        generalize cy X y k = c at *
        generalize dg X k = d1 at *
        have hm : (((c : Nat) : Int) + ((d1 : Nat) : Int)) % 1000000000 = (dz : Int) := by omega
        have hn2 : (((c : Nat) : Int) + ((d1 : Nat) : Int)) / 1000000000 = (c2 : Int) := by omega
        clear S N
        go_wp2_with fail
        go_roundw
        case rel => exact ⟨k + 1, by omega, by go_num, by rw [HC2.out]; exact congrArg _ hn2, FC.out _ rfl⟩
        case measure => simp [intOf]; omega
    · obtain rfl : k = n := by omega
      have hki : ¬ (k : Int) < (k : Int) := by omega
      go_wp2
      go_end0
      exact ⟨⟨_, rfl⟩, hw, HLO.out⟩

/-- Three digits and two. -/
theorem top_three {P k : Nat} (h : P < BB ^ (k + 3)) : P / BB ^ k = (dg P (k + 2) * BB + dg P (k + 1)) * BB + dg P k := by
  have h1 := div_dgJ P k
  have h2 := div_dgJ P (k + 1)
  have h3 := div_dgJ P (k + 2)
  rw [show k + 1 + 1 = k + 2 from rfl] at h2
  rw [show k + 2 + 1 = k + 3 from rfl, Nat.div_eq_of_lt h, Nat.mul_zero, Nat.zero_add] at h3
  rw [h3] at h2
  rw [h2] at h1
  rw [h1, Nat.mul_comm BB (BB * dg P (k + 2) + dg P (k + 1)), Nat.mul_comm BB (dg P (k + 2))]
theorem top_two {V k : Nat} (h : V < BB ^ (k + 2)) : V / BB ^ k = dg V (k + 1) * BB + dg V k := by
  have h1 := div_dgJ V k
  have h2 := div_dgJ V (k + 1)
  rw [show k + 1 + 1 = k + 2 from rfl, Nat.div_eq_of_lt h, Nat.mul_zero, Nat.zero_add] at h2
  rw [h2] at h1
  rw [h1, Nat.mul_comm]
/-- What guessPiece returns. -/
def gsP (A B : Nat) : Nat := min (A / B) (BB - 1)
theorem gs_bounds {P V k : Nat} (hB : BB ≤ V / BB ^ k) (hq : P < V * BB) : P / V ≤ gsP (P / BB ^ k) (V / BB ^ k) ∧ gsP (P / BB ^ k) (V / BB ^ k) ≤ P / V + 1 := by
  have hp : 0 < BB ^ k := Nat.pow_pos (by unfold BB; omega)
  have hV : 0 < V := by
    rcases Nat.eq_zero_or_pos V with h | h
    · subst h; rw [Nat.zero_div] at hB; unfold BB at hB; omega
    · exact h
  have eP := Nat.div_add_mod P (BB ^ k)
  have eV := Nat.div_add_mod V (BB ^ k)
  have lP := Nat.mod_lt P hp
  have lV := Nat.mod_lt V hp
  have hq1 := Nat.div_mul_le_self P V
  have hq3 : P < (P / V + 1) * V := by have := Nat.div_add_mod P V; have := Nat.mod_lt P hV; rw [Nat.add_mul, Nat.one_mul, Nat.mul_comm]; omega
  have hq2 : P / V < BB := (Nat.div_lt_iff_lt_mul hV).2 (by rw [Nat.mul_comm]; exact hq)
  unfold gsP
  generalize P / V = q at *
  generalize P / BB ^ k = A at *
  generalize V / BB ^ k = B at *
  generalize P % BB ^ k = rp at *
  generalize V % BB ^ k = rv at *
  refine ⟨?_, ?_⟩
  · refine Nat.le_min.2 ⟨(Nat.le_div_iff_mul_le (by unfold BB at hB; omega)).2 ?_, by omega⟩
    rcases Nat.lt_or_ge A (q * B) with h | h
    · exfalso
      have h1 : BB ^ k * (A + 1) ≤ BB ^ k * (q * B) := Nat.mul_le_mul_left _ h
      have h2 : BB ^ k * (q * B) ≤ q * V := by rw [Nat.mul_left_comm]; exact Nat.mul_le_mul_left _ (by omega)
      rw [Nat.mul_add, Nat.mul_one] at h1
      omega
    · exact h
  · obtain ⟨g, hg⟩ : ∃ g, min (A / B) (BB - 1) = g := ⟨_, rfl⟩
    rw [hg]
    have g1 : g ≤ A / B := by rw [← hg]; exact Nat.min_le_left _ _
    have g2 : g ≤ BB - 1 := by rw [← hg]; exact Nat.min_le_right _ _
    have g3 : g * B ≤ A := (Nat.le_div_iff_mul_le (by unfold BB at hB; omega)).1 g1
    rcases Nat.lt_or_ge (q + 1) g with h | h
    · exfalso
      -- (g - 1) V <= P
      have h5 : (q + 1) * V ≤ P := by
        obtain ⟨m, hm⟩ : ∃ m, g = m + 1 := ⟨g - 1, by omega⟩
        have h6 : (q + 1) * V ≤ m * V := Nat.mul_le_mul_right _ (by omega)
        have h7 : m * V ≤ m * (BB ^ k * (B + 1)) := Nat.mul_le_mul_left _ (by rw [Nat.mul_add, Nat.mul_one]; omega)
        have h8 : m * (BB ^ k * (B + 1)) = BB ^ k * (m * B + m) := by rw [Nat.mul_left_comm, Nat.mul_add, Nat.mul_one]
        have h9 : m * B + m ≤ A := by rw [hm, Nat.add_mul, Nat.one_mul] at g3; omega
        have h10 : BB ^ k * (m * B + m) ≤ BB ^ k * A := Nat.mul_le_mul_left _ h9
        omega
      omega
    · exact h

set_option maxRecDepth 100000 in
set_option maxHeartbeats 4000000 in
theorem guess_any (sp : Option Addr) (cp bp op P : Nat) (sv_ : Option Addr) (n cv bv ov V : Nat) (w : World) (hp : Row w sp (n + 3) cp bp op P) (hv : Row w sv_ (n + 2) cv bv ov V) (hn : n ≤ 1000000) (hf : 1 ≤ dg V (n + 1)) :
    Calls Tryz.prog 109 #[.slice sp (n + 3 : Nat) cp, .slice sv_ (n + 2 : Nat) cv] w fun e w' => e = .returned (.int .u64 (gsP (P / BB ^ n) (V / BB ^ n) : Nat)) ∧ ∃ m, w' = w.drewN m := by
  have p2 := hp.cell (n + 2) (by omega)
  have p1 := hp.cell (n + 1) (by omega)
  have p0 := hp.cell n (by omega)
  have v1 := hv.cell (n + 1) (by omega)
  have v0 := hv.cell n (by omega)
  obtain rfl := hp.at_ (by omega)
  obtain rfl := hv.at_ (by omega)
  have e3 := top_three hp.fits
  have e2 := top_two hv.fits
  have k2 := dg_lt P (n + 2)
  have k1 := dg_lt P (n + 1)
  have k0 := dg_lt P n
  have l1 := dg_lt V (n + 1)
  have l0 := dg_lt V n
  have hcp := hp.cap
  have hcv := hv.cap
  rw [e3, e2]
  clear e3 e2 hp hv
  generalize dg P (n + 2) = a2 at *
  generalize dg P (n + 1) = a1 at *
  generalize dg P n = a0 at *
  generalize dg V (n + 1) = f1 at *
  generalize dg V n = f0 at *
  obtain ⟨H, hH⟩ : ∃ H, a2 * BB + a1 = H := ⟨_, rfl⟩
  have hHl : H < 1000000000000000000 := by rw [← hH]; unfold BB; omega
  have hHi : (a2 : Int) * 1000000000 + (a1 : Int) = (H : Int) := by rw [← hH]; unfold BB; omega
  obtain ⟨g, hg⟩ : ∃ g, gsP (H * BB + a0) (f1 * BB + f0) = g := ⟨_, rfl⟩
  rw [hH, hg]
  have hB : 0 < f1 * BB + f0 := by unfold BB; omega
  have HG1 := Lib.hid (fun x (h : (H * BB + a0) < x * (f1 * BB + f0)) (hx : g ≤ x) => show g + 1 ≤ x by
    have : (H * BB + a0) / (f1 * BB + f0) < x := (Nat.div_lt_iff_lt_mul hB).2 h
    have : g ≤ (H * BB + a0) / (f1 * BB + f0) := by rw [← hg]; exact Nat.min_le_left _ _
    omega)
  have HG2 := Lib.hid (fun x (h : x * (f1 * BB + f0) ≤ H * BB + a0) (hx : x ≤ BB - 1) => show x ≤ g by
    rw [← hg]; exact Nat.le_min.2 ⟨(Nat.le_div_iff_mul_le hB).2 h, hx⟩)
  have h3 : (H * BB + a0) / (f1 * BB) = H / f1 := by
    rw [Nat.mul_comm f1 BB, ← Nat.div_div_eq_div_mul, Nat.mul_comm H BB, Nat.mul_add_div (by unfold BB; omega), Nat.div_eq_of_lt (show a0 < BB from k0), Nat.add_zero]
  have hg0 : g ≤ H / f1 := by
    have h1 : g ≤ (H * BB + a0) / (f1 * BB + f0) := by rw [← hg]; exact Nat.min_le_left _ _
    have h2 : (H * BB + a0) / (f1 * BB + f0) ≤ (H * BB + a0) / (f1 * BB) := Nat.div_le_div_left (by omega) (by unfold BB; omega)
    rw [h3] at h2
    exact Nat.le_trans h1 h2
  clear h3
  have hg9 : g ≤ BB - 1 := by rw [← hg]; exact Nat.min_le_right _ _
  clear hH hg hB
  have hfq : (H : Int) / (f1 : Int) = ((H / f1 : Nat) : Int) := by simp
  obtain ⟨q0, hq0⟩ : ∃ q0, H / f1 = q0 := ⟨_, rfl⟩
  have hq0m : q0 * f1 ≤ H := by rw [← hq0]; exact Nat.div_mul_le_self _ _
  have hq0l : q0 < 1000000000000000000 := by rw [← hq0]; exact Nat.lt_of_le_of_lt (Nat.div_le_self _ _) hHl
  rw [hq0] at hg0 hfq
  obtain ⟨g0, hgm⟩ : ∃ g0, min q0 (BB - 1) = g0 := ⟨_, rfl⟩
  have hgmi : min (q0 : Int) 999999999 = (g0 : Int) := by rw [← hgm]; unfold BB; omega
  have hg00 : g ≤ g0 := by rw [← hgm]; exact Nat.le_min.2 ⟨hg0, hg9⟩
  have hg0l : g0 ≤ 999999999 := by rw [← hgm]; unfold BB; omega
  have hg0f : g0 * f1 ≤ H := Nat.le_trans (Nat.mul_le_mul_right _ (by rw [← hgm]; exact Nat.min_le_left _ _)) hq0m
  obtain ⟨gf, hgf⟩ : ∃ gf, g0 * f1 = gf := ⟨_, rfl⟩
  have hgfi : (g0 : Int) * (f1 : Int) = (gf : Int) := by rw [← hgf]; simp
  have hf1n : ¬ (f1 : Int) = 0 := by omega
  have hn1 : ((n + 2 : Nat) : Int) - 1 = ((n + 1 : Nat) : Int) := by omega
  have hn2 : ((n + 2 : Nat) : Int) - 2 = (n : Int) := by omega
  have hi1 : ((n + 1 : Nat) : Int) < ((n + 2 : Nat) : Int) := by omega
  have hi2 : (n : Int) < ((n + 2 : Nat) : Int) := by omega
  have hi3 : ((n + 2 : Nat) : Int) < ((n + 3 : Nat) : Int) := by omega
  have hi4 : ((n + 1 : Nat) : Int) < ((n + 3 : Nat) : Int) := by omega
  have hi5 : (n : Int) < ((n + 3 : Nat) : Int) := by omega
  rw [hgf] at hg0f
  have HGF := Lib.hid hgf
  clear hq0 hgm hgf hq0m hg0
  obtain ⟨N1, hN1⟩ : ∃ N1, n + 1 = N1 := ⟨_, rfl⟩
  obtain ⟨N2, hN2⟩ : ∃ N2, n + 2 = N2 := ⟨_, rfl⟩
  obtain ⟨N3, hN3⟩ : ∃ N3, n + 3 = N3 := ⟨_, rfl⟩
  rw [hN1] at hn1 hi1 hi4 p1 v1
  rw [hN2] at hn1 hn2 hi1 hi2 hi3 p2 hcv ⊢
  rw [hN3] at hi3 hi4 hi5 hcp ⊢
  have HN := Lib.hid (And.intro hN1 (And.intro hN2 hN3))
  clear hN1 hN2 hN3
  go_enter Tryz.func109, Tryz.ntmps109
  go_wp2_with (go_quiet (fail))
  go_loopw [9, 10] (fun x r wr => ∃ (x' r' m : Nat), x = .int .u64 (x' : Nat) ∧ r = .int .u64 (r' : Nat) ∧ g ≤ x' ∧ x' ≤ 999999999 ∧ x' * f1 + r' = H ∧ wr = w.drewN m) (fun x _ _ => (intOf x).toNat)
  case atStart => exact ⟨g0, H - gf, _, rfl, by congr 1; omega, hg00, hg0l, by rw [HGF.out]; omega, rfl⟩
  case round =>
    obtain ⟨x, r, m, rfl, rfl, h1, h2, h3, rfl⟩ := hrel
    have hBB : BB = 1000000000 := rfl
    have hprod : x * (f1 * BB + f0) = (x * f1) * BB + x * f0 := by rw [Nat.mul_add, Nat.mul_assoc]
    obtain ⟨p, hp⟩ : ∃ p, x * f0 = p := ⟨_, rfl⟩
    have hpi : (x : Int) * (f0 : Int) = (p : Int) := by rw [← hp]; simp
    have hpl : p ≤ 999999999 * 999999999 := by rw [← hp]; exact Nat.mul_le_mul h2 (by omega)
    rw [hp] at hprod
    obtain ⟨pf, hpf⟩ : ∃ pf, x * f1 = pf := ⟨_, rfl⟩
    rw [hpf] at hprod h3
    have HPF := Lib.hid hpf
    have hG1 := HG1.out x
    have hG2 := HG2.out x
    rw [hprod] at hG1 hG2
    clear hprod hp hpf
    by_cases c1 : r < 1000000000
    · have c1i : (r : Int) < 1000000000 := by omega
      by_cases c2 : r * 1000000000 + a0 < p
      · have c2i : (r : Int) * 1000000000 + (a0 : Int) < (p : Int) := by omega
        have hlt : H * 1000000000 + a0 < pf * 1000000000 + p := by rw [← h3, Nat.add_mul, Nat.add_assoc]; exact Nat.add_lt_add_left c2 _
        have hx := hG1 (by rw [hBB]; exact hlt) h1
        clear hlt
        obtain ⟨x2, hx2⟩ : ∃ x2, x2 + 1 = x := ⟨x - 1, by omega⟩
        obtain ⟨r2, hr2⟩ : ∃ r2, r + f1 = r2 := ⟨_, rfl⟩
        have hx1 : (x : Int) - 1 = (x2 : Int) := by omega
        have hr1 : (r : Int) + (f1 : Int) = (r2 : Int) := by omega
        have hnew : x2 * f1 + r2 = H := by
          have e := HPF.out
          rw [← hx2, Nat.add_mul, Nat.one_mul] at e
          omega
        have HNEW := Lib.hid hnew
        have hxl : g ≤ x2 := by omega
        have hxm : x2 ≤ 999999999 := by omega
        have hxs : x2 < x := by omega
        have hr3 : r2 < 2000000000 := by omega
        clear hG1 hG2 hnew hBB hx2 hr2
        go_wp2_with (go_quiet (fail))
        go_roundw
        case rel => exact ⟨x2, r2, _, rfl, rfl, hxl, hxm, HNEW.out, rfl⟩
        case measure => simp [intOf]; omega
      · have c2i : ¬ (r : Int) * 1000000000 + (a0 : Int) < (p : Int) := by omega
        have hx := hG2 (by rw [hBB]; omega) (by unfold BB; omega)
        obtain rfl : x = g := by omega
        clear hG1 hG2 hBB
        go_wp2_with (go_quiet (fail))
        go_ret
        exact ⟨rfl, _, rfl⟩
    · have c1i : ¬ (r : Int) < 1000000000 := by omega
      have hx := hG2 (by rw [hBB]; omega) (by unfold BB; omega)
      obtain rfl : x = g := by omega
      clear hG1 hG2 hBB
      go_wp2_with (go_quiet (fail))
      go_ret
      exact ⟨rfl, _, rfl⟩
end Go.Proofs.YtnchodofgaaeeaaGreatDoor
