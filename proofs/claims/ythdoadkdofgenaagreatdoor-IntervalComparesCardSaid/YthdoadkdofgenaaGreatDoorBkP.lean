/- Contracts of addBack and guessPiece. -/
import Derived.Test.YthdoadkdofgenaaGreatDoorImM
import Derived.Test.YthdoadkdofgenaaGreatDoorImN
import Derived.Sort.QuietIn
import Derived.BigRegionIn
import Derived.Sort.CutIn
import Derived.Stop.RegionWithIn
import Derived.Test.YthdoadkdofgenaaGreatDoorImF
namespace Go.Proofs.YthdoadkdofgenaaGreatDoor
open Go Go.RowKit Go.Shelf

theorem div_dgJ (x k : Nat) : x / BB ^ k = BB * (x / BB ^ (k + 1)) + dg x k := by
  unfold dg Im.dg
  rw [Nat.pow_succ, ← Nat.div_div_eq_div_mul]
  exact (Nat.div_add_mod _ _).symm
set_option maxRecDepth 100000 in
set_option maxHeartbeats 4000000 in
theorem addBack_any (ba oa n capa X : Nat) (sy : Option Addr) (ny cpy by_ oy y Z : Nat) (w : World) (hn : n ≤ 1048576) (hny : ny ≤ n) (hcap : n ≤ capa)
    (hX : ∀ k, k < n → w.cell? ⟨ba, oa + k, none⟩ = some (.int .u64 (dg X k : Nat))) (hfr : ∀ k, k < n → w.frozen? ⟨ba, oa + k, none⟩ = false)
    (hy : Row w sy ny cpy by_ oy y) (hne : 0 < ny → by_ ≠ ba) (hZ : Z % BB ^ n = (X + y) % BB ^ n) :
    Calls Tryz.prog 137 #[.slice (some ⟨ba, oa, none⟩) n capa, .slice sy ny cpy] w fun e w' => (∃ v, e = .returned v) ∧ Win ba oa n w w' ∧ ∀ k, k < n → w'.cell? ⟨ba, oa + k, none⟩ = some (.int .u64 (dg Z k : Nat)) := by
  have HX := Lib.hid hX
  have HF := Lib.hid hfr
  have HY := Lib.hid hy
  have hdig : ∀ k, k < n → (cy X y k + dg X k + dg y k) % 1000000000 = dg Z k := fun k hk => by
    rw [cy_digit]
    have hd : BB ^ (k + 1) ∣ BB ^ n := Nat.pow_dvd_pow _ (by omega)
    exact Im.dg_mod (by rw [← Nat.mod_mod_of_dvd (X + y) hd, ← hZ, Nat.mod_mod_of_dvd _ hd])
  have HDG := Lib.hid hdig
  have HD := Lib.hid (fun k (h : ny ≤ k) => show dg y k = 0 from Im.dg_high (Nat.lt_of_lt_of_le hy.fits (Nat.pow_le_pow_right (by unfold BB; omega) h)))
  have hcy := hy.cap
  clear hX hfr hy hZ hdig
  go_enter Tryz.func137, Tryz.ntmps137
  go_wp2_with fail
  go_loopw [4, 8] (fun c i wr => ∃ k : Nat, k ≤ n ∧ i = .int .i64 (k : Int) ∧ c = .int .u64 (cy X y k : Nat) ∧ Win ba oa n w wr ∧ (∀ j, j < k → wr.cell? ⟨ba, oa + j, none⟩ = some (.int .u64 (dg Z j : Nat))) ∧ ∀ j, k ≤ j → j < n → wr.cell? ⟨ba, oa + j, none⟩ = some (.int .u64 (dg X j : Nat))) (fun _ i _ => n - (intOf i).toNat)
  case atStart => exact ⟨0, Nat.zero_le _, rfl, by rw [cy_zero]; rfl, Win.refl _ _ _ _, fun j hj => absurd hj (Nat.not_lt_zero _), fun j _ hj => HX.out j hj⟩
  case round =>
    obtain ⟨k, hk, rfl, rfl, hw, hlo, hhi⟩ := hrel
    have HLO := Lib.hid hlo
    have HHI := Lib.hid hhi
    clear hlo hhi
    by_cases h1 : k < n
    · have hki : (k : Int) < (n : Int) := by omega
      have ca := HHI.out k (Nat.le_refl _) h1
      have cf : wr.frozen? ⟨ba, oa + k, none⟩ = false := (hw.frozen _).trans (HF.out k h1)
      have S := HDG.out k h1
      have N := cy_next X y k
      have l1 := cy_le X y k
      have l2 := dg_lt Z k
      have l3 := dg_lt X k
      have l4 := dg_lt y k
      obtain ⟨c2, hc2⟩ : ∃ c2, cy X y (k + 1) = c2 := ⟨_, rfl⟩
      have HC2 := Lib.hid hc2
      rw [hc2] at N
      by_cases h2 : k < ny
      · have hkj : (k : Int) < (ny : Int) := by omega
        have cb : wr.cell? ⟨by_, oy + k, none⟩ = some (.int .u64 (dg y k : Nat)) := (World.cell?_of_block (a := ⟨by_, oy + k, none⟩) (hw.same by_ (hne (by omega)))).trans (HY.out.cell k h2)
        obtain rfl := HY.out.at_ (by omega)
        obtain ⟨dz, hdz⟩ : ∃ dz, dg Z k = dz := ⟨_, rfl⟩
        rw [hdz] at S l2
        have hval : ∀ x : Int, x = (dz : Int) → (.int .u64 x : Value) = .int .u64 (dg Z k : Nat) := fun x hx => by rw [hx, hdz]
        have FC := Lib.hid (fun (x : Int) (hx : x = (dz : Int)) => fin_cells (dz := dg Z) (dx := dg X) h1 hw ca (hval x hx) HLO.out (fun j hj hjn => HHI.out j (by omega) hjn))
        clear hc2 hdz hval
        generalize cy X y k = c at *
        generalize dg X k = d1 at *
        generalize dg y k = d2 at *
        have hm : (((c : Nat) : Int) + ((d1 : Nat) : Int) + ((d2 : Nat) : Int)) % 1000000000 = (dz : Int) := by omega
        have hn2 : (((c : Nat) : Int) + ((d1 : Nat) : Int) + ((d2 : Nat) : Int)) / 1000000000 = (c2 : Int) := by omega
        clear S N
        go_wp2_with fail
        go_roundw
        case rel => exact ⟨k + 1, by omega, by go_num, by rw [HC2.out]; exact congrArg _ hn2, FC.out _ rfl⟩
        case measure => simp [intOf]; omega
      · have hkj : ¬ (k : Int) < (ny : Int) := by omega
        have hd0 := HD.out k (by omega)
        rw [hd0] at S N
        clear l4 hd0
        obtain ⟨dz, hdz⟩ : ∃ dz, dg Z k = dz := ⟨_, rfl⟩
        rw [hdz] at S l2
        have hval : ∀ x : Int, x = (dz : Int) → (.int .u64 x : Value) = .int .u64 (dg Z k : Nat) := fun x hx => by rw [hx, hdz]
        have FC := Lib.hid (fun (x : Int) (hx : x = (dz : Int)) => fin_cells (dz := dg Z) (dx := dg X) h1 hw ca (hval x hx) HLO.out (fun j hj hjn => HHI.out j (by omega) hjn))
        clear hc2 hdz hval
        generalize cy X y k = c at *
        generalize dg X k = d1 at *
        have hm : (((c : Nat) : Int) + ((d1 : Nat) : Int)) % 1000000000 = (dz : Int) := by omega
        have hn2 : (((c : Nat) : Int) + ((d1 : Nat) : Int)) / 1000000000 = (c2 : Int) := by omega
        clear S N
        go_wp2_with fail
        go_roundw
        case rel => exact ⟨k + 1, by omega, by go_num, by rw [HC2.out]; exact congrArg _ hn2, FC.out _ rfl⟩
        case measure => simp [intOf]; omega
    · obtain rfl : k = n := by omega
      have hki : ¬ (k : Int) < (k : Int) := by omega
      go_wp2
      go_end0
      exact ⟨⟨_, rfl⟩, hw, HLO.out⟩

/-- Three digits and two. -/
theorem top_three {P k : Nat} (h : P < BB ^ (k + 3)) : P / BB ^ k = (dg P (k + 2) * BB + dg P (k + 1)) * BB + dg P k := by
  have h1 := div_dgJ P k
  have h2 := div_dgJ P (k + 1)
  have h3 := div_dgJ P (k + 2)
  rw [show k + 1 + 1 = k + 2 from rfl] at h2
  rw [show k + 2 + 1 = k + 3 from rfl, Nat.div_eq_of_lt h, Nat.mul_zero, Nat.zero_add] at h3
  rw [h3] at h2
  rw [h2] at h1
  rw [h1, Nat.mul_comm BB (BB * dg P (k + 2) + dg P (k + 1)), Nat.mul_comm BB (dg P (k + 2))]
theorem top_two {V k : Nat} (h : V < BB ^ (k + 2)) : V / BB ^ k = dg V (k + 1) * BB + dg V k := by
  have h1 := div_dgJ V k
  have h2 := div_dgJ V (k + 1)
  rw [show k + 1 + 1 = k + 2 from rfl, Nat.div_eq_of_lt h, Nat.mul_zero, Nat.zero_add] at h2
  rw [h2] at h1
  rw [h1, Nat.mul_comm]
/-- What guessPiece returns. -/
def gsP (A B : Nat) : Nat := min (A / B) (BB - 1)
theorem gs_bounds {P V k : Nat} (hB : BB ≤ V / BB ^ k) (hq : P < V * BB) : P / V ≤ gsP (P / BB ^ k) (V / BB ^ k) ∧ gsP (P / BB ^ k) (V / BB ^ k) ≤ P / V + 1 := by
  have hp : 0 < BB ^ k := Nat.pow_pos (by unfold BB; omega)
  have hV : 0 < V := by
    rcases Nat.eq_zero_or_pos V with h | h
    · subst h; rw [Nat.zero_div] at hB; unfold BB at hB; omega
    · exact h
  have eP := Nat.div_add_mod P (BB ^ k)
  have eV := Nat.div_add_mod V (BB ^ k)
  have lP := Nat.mod_lt P hp
  have lV := Nat.mod_lt V hp
  have hq1 := Nat.div_mul_le_self P V
  have hq3 : P < (P / V + 1) * V := by have := Nat.div_add_mod P V; have := Nat.mod_lt P hV; rw [Nat.add_mul, Nat.one_mul, Nat.mul_comm]; omega
  have hq2 : P / V < BB := (Nat.div_lt_iff_lt_mul hV).2 (by rw [Nat.mul_comm]; exact hq)
  unfold gsP
  generalize P / V = q at *
  generalize P / BB ^ k = A at *
  generalize V / BB ^ k = B at *
  generalize P % BB ^ k = rp at *
  generalize V % BB ^ k = rv at *
  refine ⟨?_, ?_⟩
  · refine Nat.le_min.2 ⟨(Nat.le_div_iff_mul_le (by unfold BB at hB; omega)).2 ?_, by omega⟩
    rcases Nat.lt_or_ge A (q * B) with h | h
    · exfalso
      have h1 : BB ^ k * (A + 1) ≤ BB ^ k * (q * B) := Nat.mul_le_mul_left _ h
      have h2 : BB ^ k * (q * B) ≤ q * V := by rw [Nat.mul_left_comm]; exact Nat.mul_le_mul_left _ (by omega)
      rw [Nat.mul_add, Nat.mul_one] at h1
      omega
    · exact h
  · obtain ⟨g, hg⟩ : ∃ g, min (A / B) (BB - 1) = g := ⟨_, rfl⟩
    rw [hg]
    have g1 : g ≤ A / B := by rw [← hg]; exact Nat.min_le_left _ _
    have g2 : g ≤ BB - 1 := by rw [← hg]; exact Nat.min_le_right _ _
    have g3 : g * B ≤ A := (Nat.le_div_iff_mul_le (by unfold BB at hB; omega)).1 g1
    rcases Nat.lt_or_ge (q + 1) g with h | h
    · exfalso
      -- (g - 1) V <= P
      have h5 : (q + 1) * V ≤ P := by
        obtain ⟨m, hm⟩ : ∃ m, g = m + 1 := ⟨g - 1, by omega⟩
        have h6 : (q + 1) * V ≤ m * V := Nat.mul_le_mul_right _ (by omega)
        have h7 : m * V ≤ m * (BB ^ k * (B + 1)) := Nat.mul_le_mul_left _ (by rw [Nat.mul_add, Nat.mul_one]; omega)
        have h8 : m * (BB ^ k * (B + 1)) = BB ^ k * (m * B + m) := by rw [Nat.mul_left_comm, Nat.mul_add, Nat.mul_one]
        have h9 : m * B + m ≤ A := by rw [hm, Nat.add_mul, Nat.one_mul] at g3; omega
        have h10 : BB ^ k * (m * B + m) ≤ BB ^ k * A := Nat.mul_le_mul_left _ h9
        omega
      omega
    · exact h

set_option maxRecDepth 100000 in
set_option maxHeartbeats 4000000 in
theorem guess_any (sp : Option Addr) (cp bp op P : Nat) (sv_ : Option Addr) (n cv bv ov V : Nat) (w : World) (hp : Row w sp (n + 3) cp bp op P) (hv : Row w sv_ (n + 2) cv bv ov V) (hn : n ≤ 1000000) (hf : 1 ≤ dg V (n + 1)) :
    Calls Tryz.prog 136 #[.slice sp (n + 3 : Nat) cp, .slice sv_ (n + 2 : Nat) cv] w fun e w' => e = .returned (.int .u64 (gsP (P / BB ^ n) (V / BB ^ n) : Nat)) ∧ ∃ m, w' = w.drewN m := by
  have p2 := hp.cell (n + 2) (by omega)
  have p1 := hp.cell (n + 1) (by omega)
  have p0 := hp.cell n (by omega)
  have v1 := hv.cell (n + 1) (by omega)
  have v0 := hv.cell n (by omega)
  obtain rfl := hp.at_ (by omega)
  obtain rfl := hv.at_ (by omega)
  have e3 := top_three hp.fits
  have e2 := top_two hv.fits
  have k2 := dg_lt P (n + 2)
  have k1 := dg_lt P (n + 1)
  have k0 := dg_lt P n
  have l1 := dg_lt V (n + 1)
  have l0 := dg_lt V n
  have hcp := hp.cap
  have hcv := hv.cap
  rw [e3, e2]
  clear e3 e2 hp hv
  generalize dg P (n + 2) = a2 at *
  generalize dg P (n + 1) = a1 at *
  generalize dg P n = a0 at *
  generalize dg V (n + 1) = f1 at *
  generalize dg V n = f0 at *
  obtain ⟨H, hH⟩ : ∃ H, a2 * BB + a1 = H := ⟨_, rfl⟩
  have hHl : H < 1000000000000000000 := by rw [← hH]; unfold BB; omega
  have hHi : (a2 : Int) * 1000000000 + (a1 : Int) = (H : Int) := by rw [← hH]; unfold BB; omega
  obtain ⟨g, hg⟩ : ∃ g, gsP (H * BB + a0) (f1 * BB + f0) = g := ⟨_, rfl⟩
  rw [hH, hg]
  have hB : 0 < f1 * BB + f0 := by unfold BB; omega
  have HG1 := Lib.hid (fun x (h : (H * BB + a0) < x * (f1 * BB + f0)) (hx : g ≤ x) => show g + 1 ≤ x by
    have : (H * BB + a0) / (f1 * BB + f0) < x := (Nat.div_lt_iff_lt_mul hB).2 h
    have : g ≤ (H * BB + a0) / (f1 * BB + f0) := by rw [← hg]; exact Nat.min_le_left _ _
    omega)
  have HG2 := Lib.hid (fun x (h : x * (f1 * BB + f0) ≤ H * BB + a0) (hx : x ≤ BB - 1) => show x ≤ g by
    rw [← hg]; exact Nat.le_min.2 ⟨(Nat.le_div_iff_mul_le hB).2 h, hx⟩)
  have h3 : (H * BB + a0) / (f1 * BB) = H / f1 := by
    rw [Nat.mul_comm f1 BB, ← Nat.div_div_eq_div_mul, Nat.mul_comm H BB, Nat.mul_add_div (by unfold BB; omega), Nat.div_eq_of_lt (show a0 < BB from k0), Nat.add_zero]
  have hg0 : g ≤ H / f1 := by
    have h1 : g ≤ (H * BB + a0) / (f1 * BB + f0) := by rw [← hg]; exact Nat.min_le_left _ _
    have h2 : (H * BB + a0) / (f1 * BB + f0) ≤ (H * BB + a0) / (f1 * BB) := Nat.div_le_div_left (by omega) (by unfold BB; omega)
    rw [h3] at h2
    exact Nat.le_trans h1 h2
  clear h3
  have hg9 : g ≤ BB - 1 := by rw [← hg]; exact Nat.min_le_right _ _
  clear hH hg hB
  have hfq : (H : Int) / (f1 : Int) = ((H / f1 : Nat) : Int) := by simp
  obtain ⟨q0, hq0⟩ : ∃ q0, H / f1 = q0 := ⟨_, rfl⟩
  have hq0m : q0 * f1 ≤ H := by rw [← hq0]; exact Nat.div_mul_le_self _ _
  have hq0l : q0 < 1000000000000000000 := by rw [← hq0]; exact Nat.lt_of_le_of_lt (Nat.div_le_self _ _) hHl
  rw [hq0] at hg0 hfq
  obtain ⟨g0, hgm⟩ : ∃ g0, min q0 (BB - 1) = g0 := ⟨_, rfl⟩
  have hgmi : min (q0 : Int) 999999999 = (g0 : Int) := by rw [← hgm]; unfold BB; omega
  have hg00 : g ≤ g0 := by rw [← hgm]; exact Nat.le_min.2 ⟨hg0, hg9⟩
  have hg0l : g0 ≤ 999999999 := by rw [← hgm]; unfold BB; omega
  have hg0f : g0 * f1 ≤ H := Nat.le_trans (Nat.mul_le_mul_right _ (by rw [← hgm]; exact Nat.min_le_left _ _)) hq0m
  obtain ⟨gf, hgf⟩ : ∃ gf, g0 * f1 = gf := ⟨_, rfl⟩
  have hgfi : (g0 : Int) * (f1 : Int) = (gf : Int) := by rw [← hgf]; simp
  have hf1n : ¬ (f1 : Int) = 0 := by omega
  have hn1 : ((n + 2 : Nat) : Int) - 1 = ((n + 1 : Nat) : Int) := by omega
  have hn2 : ((n + 2 : Nat) : Int) - 2 = (n : Int) := by omega
  have hi1 : ((n + 1 : Nat) : Int) < ((n + 2 : Nat) : Int) := by omega
  have hi2 : (n : Int) < ((n + 2 : Nat) : Int) := by omega
  have hi3 : ((n + 2 : Nat) : Int) < ((n + 3 : Nat) : Int) := by omega
  have hi4 : ((n + 1 : Nat) : Int) < ((n + 3 : Nat) : Int) := by omega
  have hi5 : (n : Int) < ((n + 3 : Nat) : Int) := by omega
  rw [hgf] at hg0f
  have HGF := Lib.hid hgf
  clear hq0 hgm hgf hq0m hg0
  obtain ⟨N1, hN1⟩ : ∃ N1, n + 1 = N1 := ⟨_, rfl⟩
  obtain ⟨N2, hN2⟩ : ∃ N2, n + 2 = N2 := ⟨_, rfl⟩
  obtain ⟨N3, hN3⟩ : ∃ N3, n + 3 = N3 := ⟨_, rfl⟩
  rw [hN1] at hn1 hi1 hi4 p1 v1
  rw [hN2] at hn1 hn2 hi1 hi2 hi3 p2 hcv ⊢
  rw [hN3] at hi3 hi4 hi5 hcp ⊢
  have HN := Lib.hid (And.intro hN1 (And.intro hN2 hN3))
  clear hN1 hN2 hN3
  go_enter Tryz.func136, Tryz.ntmps136
  go_wp2_with (go_quiet (fail))
  go_loopw [9, 10] (fun x r wr => ∃ (x' r' m : Nat), x = .int .u64 (x' : Nat) ∧ r = .int .u64 (r' : Nat) ∧ g ≤ x' ∧ x' ≤ 999999999 ∧ x' * f1 + r' = H ∧ wr = w.drewN m) (fun x _ _ => (intOf x).toNat)
  case atStart => exact ⟨g0, H - gf, _, rfl, by congr 1; omega, hg00, hg0l, by rw [HGF.out]; omega, rfl⟩
  case round =>
    obtain ⟨x, r, m, rfl, rfl, h1, h2, h3, rfl⟩ := hrel
    have hBB : BB = 1000000000 := rfl
    have hprod : x * (f1 * BB + f0) = (x * f1) * BB + x * f0 := by rw [Nat.mul_add, Nat.mul_assoc]
    obtain ⟨p, hp⟩ : ∃ p, x * f0 = p := ⟨_, rfl⟩
    have hpi : (x : Int) * (f0 : Int) = (p : Int) := by rw [← hp]; simp
    have hpl : p ≤ 999999999 * 999999999 := by rw [← hp]; exact Nat.mul_le_mul h2 (by omega)
    rw [hp] at hprod
    obtain ⟨pf, hpf⟩ : ∃ pf, x * f1 = pf := ⟨_, rfl⟩
    rw [hpf] at hprod h3
    have HPF := Lib.hid hpf
    have hG1 := HG1.out x
    have hG2 := HG2.out x
    rw [hprod] at hG1 hG2
    clear hprod hp hpf
    by_cases c1 : r < 1000000000
    · have c1i : (r : Int) < 1000000000 := by omega
      by_cases c2 : r * 1000000000 + a0 < p
      · have c2i : (r : Int) * 1000000000 + (a0 : Int) < (p : Int) := by omega
        have hlt : H * 1000000000 + a0 < pf * 1000000000 + p := by rw [← h3, Nat.add_mul, Nat.add_assoc]; exact Nat.add_lt_add_left c2 _
        have hx := hG1 (by rw [hBB]; exact hlt) h1
        clear hlt
        obtain ⟨x2, hx2⟩ : ∃ x2, x2 + 1 = x := ⟨x - 1, by omega⟩
        obtain ⟨r2, hr2⟩ : ∃ r2, r + f1 = r2 := ⟨_, rfl⟩
        have hx1 : (x : Int) - 1 = (x2 : Int) := by omega
        have hr1 : (r : Int) + (f1 : Int) = (r2 : Int) := by omega
        have hnew : x2 * f1 + r2 = H := by
          have e := HPF.out
          rw [← hx2, Nat.add_mul, Nat.one_mul] at e
          omega
        have HNEW := Lib.hid hnew
        have hxl : g ≤ x2 := by omega
        have hxm : x2 ≤ 999999999 := by omega
        have hxs : x2 < x := by omega
        have hr3 : r2 < 2000000000 := by omega
        clear hG1 hG2 hnew hBB hx2 hr2
        go_wp2_with (go_quiet (fail))
        go_roundw
        case rel => exact ⟨x2, r2, _, rfl, rfl, hxl, hxm, HNEW.out, rfl⟩
        case measure => simp [intOf]; omega
      · have c2i : ¬ (r : Int) * 1000000000 + (a0 : Int) < (p : Int) := by omega
        have hx := hG2 (by rw [hBB]; omega) (by unfold BB; omega)
        obtain rfl : x = g := by omega
        clear hG1 hG2 hBB
        go_wp2_with (go_quiet (fail))
        go_ret
        exact ⟨rfl, _, rfl⟩
    · have c1i : ¬ (r : Int) < 1000000000 := by omega
      have hx := hG2 (by rw [hBB]; omega) (by unfold BB; omega)
      obtain rfl : x = g := by omega
      clear hG1 hG2 hBB
      go_wp2_with (go_quiet (fail))
      go_ret
      exact ⟨rfl, _, rfl⟩
end Go.Proofs.YthdoadkdofgenaaGreatDoor
/- The contract of divideByPiece. -/
namespace Go.Proofs.YthdoadkdofgenaaGreatDoor
open Go Go.RowKit Go.Shelf
attribute [local go_sem] Oper.semAt_some wide_fn wide_depth

theorem quot_stepB {X Y i : Nat} (hY : 0 < Y) : (BB * (X / BB ^ (i + 1) % Y) + dg X i) / Y = X / BB ^ i / Y - BB * (X / BB ^ (i + 1) / Y) ∧ (BB * (X / BB ^ (i + 1) % Y) + dg X i) / Y = dg (X / Y) i ∧ (BB * (X / BB ^ (i + 1) % Y) + dg X i) % Y = X / BB ^ i % Y := by
  have h1 := div_dgJ X i
  have h2 := div_dgJ (X / Y) i
  rw [Nat.div_div_eq_div_mul, Nat.mul_comm Y, ← Nat.div_div_eq_div_mul, Nat.div_div_eq_div_mul X Y (BB ^ (i + 1)), Nat.mul_comm Y, ← Nat.div_div_eq_div_mul] at h2
  rw [h1] at h2 ⊢
  have h3 := Nat.div_add_mod (X / BB ^ (i + 1)) Y
  generalize X / BB ^ (i + 1) = B at *
  generalize dg X i = d at *
  generalize B / Y = b at *
  generalize B % Y = r at *
  have e : BB * B + d = Y * (BB * b) + (BB * r + d) := by rw [← h3, Nat.mul_add, Nat.mul_left_comm]; omega
  rw [e] at h2 ⊢
  rw [Nat.mul_add_div hY] at h2 ⊢
  exact ⟨by omega, by omega, (Nat.mul_add_mod _ _ _).symm⟩
theorem set_row {W : World} {b k : Nat} {cs : Array Value} {v : Value} {T : TypeId} (h : W.heap[b]? = some (.cells cs T)) : (W.setCell ⟨b, k, none⟩ v).heap[b]? = some (.cells (cs.setIfInBounds k v) T) := by
  simp only [World.setCell, Array.getElem?_modify, if_true, h, Option.map_some]
  rfl
theorem cell_row {W : World} {b k : Nat} {cs : Array Value} {T : TypeId} (h : W.heap[b]? = some (.cells cs T)) : W.cell? ⟨b, k, none⟩ = cs[k]? := by rw [Lib.cell_of_heap h]
theorem free_row {W : World} {b k : Nat} {cs : Array Value} {T : TypeId} (h : W.heap[b]? = some (.cells cs T)) : W.frozen? ⟨b, k, none⟩ = false := by simp [World.frozen?, h]
/-- The quotient's cells while it is made. -/
def qfB (Q k j : Nat) : Nat := if j < k then 0 else dg Q j

set_option maxRecDepth 100000 in
set_option maxHeartbeats 4000000 in
theorem byPiece_any (sx : Option Addr) (n cx bx ox X d : Nat) (hd : 0 < d) (hd9 : d < 1000000000) (w : World) (hx : Row w sx n cx bx ox X) (hn : n ≤ 1000000) :
    Calls Tryz.prog 135 #[.slice sx n cx, .int .u64 (d : Nat)] w fun e w' => (∃ v, e = .returned (.tuple #[v, .int .u64 (X % d : Nat)]) ∧ Mag w' v (X / d)) ∧ Below w.heap.size w w' := by
  obtain ⟨i0, hi0, hz0, hz1, hz2⟩ := info_parts info_u64
  have BK := Lib.hid (fun W => backward_any sx n cx W)
  have HX := Lib.hid hx
  clear hx
  have hmk : ∀ W : World, (Instr.makeSlice 104 (.int .i64 (n : Int)) (.int .i64 (n : Int))).run Tryz.prog W = .ok (.slice (some ⟨W.heap.size, 0, none⟩) n n) (W.alloc (.cells (madeCells #[.int .u64 0] (n * 1)) 98)) := fun W => by
    have := run_makeSlice (P := Tryz.prog) W 104 98 i0 (.int .u64 0) Tryz.underlying104 hi0 hz0 .i64 .i64 (n : Int) (n : Int) (by omega) (by omega) (by rw [hz1]; simp; omega) (by rw [hz2]; omega) (by omega)
    rw [hz1] at this
    simpa [Value.cells] using this
  obtain ⟨D, hD⟩ : ∃ D, w.heap.size = D := ⟨_, rfl⟩
  refine (callsIn_wide (n := 5)).1 ?_
  refine callsIn_of_wp_marks Tryz.func135 rfl trivial ?_ rfl
  simp only [Tryz.ntmps135, List.size_toArray, List.length_cons, List.length_nil, Nat.reduceAdd, Nat.reduceSub, Array.replicate_succ, Array.replicate_zero, List.push_toArray, List.append_toArray, List.nil_append, List.cons_append]
  gi_wp2_with fail
  refine (callsIn_wide.2 (BK.out _)).mono ?_
  rintro e w' ⟨rfl, rfl⟩
  gi_wp2_with fail
  obtain ⟨V, hV⟩ : ∃ V, (((((w.alloc (.cells #[.int .u64 (d : Nat)] 98)).alloc (.cells #[.slice (some ⟨D + 1 + 1 + 1, 0, none⟩) n n] 104)).alloc (.cells #[.int .u64 0] 98)).alloc (.cells (madeCells #[.int .u64 0] n) 98)).alloc (.cells #[.slice sx n cx] 104)) = V := ⟨_, rfl⟩
  have hwV : Below D w V := by rw [← hV]; exact (((((Below.refl _ w).alloc (by omega) _).alloc (by simp; omega) _).alloc (by simp; omega) _).alloc (by simp; omega) _).alloc (by simp; omega) _
  have h0V : V.heap[D]? = some (.cells #[.int .u64 (d : Nat)] 98) := by rw [← hV]; exact heap_up (heap_up (heap_up (heap_up (heap_at hD.symm))))
  have h1V : V.heap[D + 1]? = some (.cells #[.slice (some ⟨D + 1 + 1 + 1, 0, none⟩) n n] 104) := by rw [← hV]; exact heap_up (heap_up (heap_up (heap_at (by simp [hD]))))
  have h2V : V.heap[D + 1 + 1]? = some (.cells #[.int .u64 0] 98) := by rw [← hV]; exact heap_up (heap_up (heap_at (by simp [hD])))
  have h3V : V.heap[D + 1 + 1 + 1]? = some (.cells (madeCells #[.int .u64 0] n) 98) := by rw [← hV]; exact heap_up (heap_at (by simp [hD]))
  have h4V : V.heap[D + 1 + 1 + 1 + 1]? = some (.cells #[.slice sx n cx] 104) := by rw [← hV]; exact heap_at (by simp [hD])
  have hzV : V.heap.size = D + 5 := by rw [← hV]; simp [hD]
  rw [hV]
  clear hV hmk
  have hcs : (madeCells #[Value.int .u64 0] n).size = n ∧ ∀ j, j < n → (madeCells #[Value.int .u64 0] n)[j]? = some (.int .u64 (qfB (X / d) n j : Nat)) := by
    refine ⟨by rw [← Array.length_toList]; have := toList_madeCells_one (.int .u64 0) n; rw [this]; simp, fun j hj => ?_⟩
    have := toList_madeCells_one (.int .u64 0) n
    rw [← Array.getElem?_toList, this, List.getElem?_replicate, if_pos hj]
    unfold qfB; rw [if_pos hj]; rfl
  have HST := Lib.hid (fun i => quot_stepB (X := X) (i := i) hd)
  have HML := Lib.hid (fun k => Nat.mod_lt (X / BB ^ k) hd)
  refine Rg.range_all rfl (by omega) (gf := 120) (lb := #[.pointer (some ⟨D + 1 + 1 + 1 + 1, 0, none⟩)]) rfl trivial (enters_of Tryz.func120 (by kernel_rfl) rfl)
    (backward_gives (D + 1 + 1 + 1 + 1) sx bx ox n cx (fun k => (dg X k : Nat)) (by omega) 4 V) (fun _ => rfl)
    (fun b => b = D + 1 + 1 ∨ b = D + 1 + 1 + 1) (by show ¬ (V.heap.size = _ ∨ V.heap.size = _); omega) (by show ¬ (V.heap.size + 1 = _ ∨ V.heap.size + 1 = _); omega)
    (fun pre W => W.heap[D]? = some (.cells #[.int .u64 (d : Nat)] 98) ∧ W.heap[D + 1]? = some (.cells #[.slice (some ⟨D + 1 + 1 + 1, 0, none⟩) n n] 104) ∧ W.heap[D + 1 + 1]? = some (.cells #[.int .u64 (X / BB ^ (n - pre.length) % d : Nat)] 98) ∧ (∃ cs : Array Value, W.heap[D + 1 + 1 + 1]? = some (.cells cs 98) ∧ cs.size = n ∧ ∀ j, j < n → cs[j]? = some (.int .u64 (qfB (X / d) (n - pre.length) j : Nat))) ∧ W.heap[D + 1 + 1 + 1 + 1]? = some (.cells #[.slice sx n cx] 104) ∧ Below D w W)
    (fun _ _ _ => False)
    (fun s A B ⟨h0, h1, h2, ⟨cs, h3, h3'⟩, h4, h5⟩ st => ⟨st.same _ _ _ _ h0, st.same _ _ _ _ h1, st.same _ _ _ _ h2, ⟨cs, st.same _ _ _ _ h3, h3'⟩, st.same _ _ _ _ h4, h5.trans (st.below.mono (by omega))⟩)
    (fun _ _ _ _ h _ => h)
    (fun s A ⟨_, _, _, _, h4, h5⟩ => ⟨cell_one h4, HX.out.at_, fun k hk => (h5.cell (p := ⟨bx, ox + k, none⟩) (by have := HX.out.lt (by omega); show bx < D; omega)).trans (HX.out.cell k hk)⟩)
    ⟨h0V, h1V, by rw [h2V, List.length_nil, Nat.sub_zero, Nat.div_eq_of_lt HX.out.fits, Nat.zero_mod]; rfl, ⟨_, h3V, hcs⟩, h4V, hwV⟩
    (fun q => { tmps := #[.slice sx n cx, .int .u64 (d : Nat), undef, .pointer (some ⟨D, 0, none⟩), .pointer (some ⟨D + 1, 0, none⟩), .pointer (some ⟨D + 1 + 1, 0, none⟩), .int .i64 (q.1 : Nat), .int .u64 q.2, .slice sx n cx, .int .i64 n, .slice (some ⟨D + 1 + 1 + 1, 0, none⟩) n n, .slice sx n cx, .func (.func 120) #[] #[.pointer (some ⟨D + 1 + 1 + 1 + 1, 0, none⟩)], .int .i64 (q.1 : Nat), .int .u64 q.2, undef, undef, undef, undef, undef, undef, undef, undef, undef, undef, undef, undef, undef, undef, undef, undef], defers := [] }) ?assign ?body ?done ?stop
  case assign =>
    intro l q W K hK
    gi_wp2
    exact hK
  case body =>
    rintro l pre q W ⟨h0, h1, h2, ⟨cs, h3, h3s, h3c⟩, h4, h5⟩ hpost hszW
    obtain ⟨hlen, _, hq⟩ := downL_at _ n hpost
    subst hq
    obtain ⟨_, hs2, hs3⟩ := HST.out (n - 1 - pre.length)
    have hml := HML.out (n - pre.length)
    rw [show n - 1 - pre.length + 1 = n - pre.length by omega] at hs2 hs3
    have hx9 := dg_lt X (n - 1 - pre.length)
    have HPL := Lib.hid (show n - (pre ++ [(n - 1 - pre.length, (dg X (n - 1 - pre.length) : Int))]).length = n - 1 - pre.length by rw [List.length_append, List.length_singleton]; omega)
    obtain ⟨R, hR⟩ : ∃ R, X / BB ^ (n - pre.length) % d = R := ⟨_, rfl⟩
    rw [hR] at hs2 hs3 hml h2
    obtain ⟨j, hj⟩ : ∃ j : Nat, n - 1 - pre.length = j := ⟨_, rfl⟩
    rw [hj] at hs2 hs3 hx9 HPL ⊢
    have hjn : j < n := by omega
    have hji : (j : Int) < (n : Int) := by omega
    have hqf : qfB (X / d) (n - pre.length) j = 0 := by unfold qfB; rw [if_pos (by omega)]
    have hqk : ∀ i, i < n → i ≠ j → qfB (X / d) j i = qfB (X / d) (n - pre.length) i := fun i _ hi => by
      unfold qfB
      by_cases h9 : i < j
      · rw [if_pos h9, if_pos (by omega)]
      · rw [if_neg h9, if_neg (by omega)]
    have hqj : qfB (X / d) j j = dg (X / d) j := by unfold qfB; rw [if_neg (by omega)]
    have hcj := h3c j hjn
    rw [hqf] at hcj
    obtain ⟨L, hL⟩ : ∃ L, dg (X / d) j = L := ⟨_, rfl⟩
    have hLl : L < 1000000000 := by rw [← hL]; exact dg_lt _ _
    rw [hL] at hs2 hqj
    obtain ⟨R2, hR2⟩ : ∃ R2, X / BB ^ j % d = R2 := ⟨_, rfl⟩
    have hR2l : R2 < d := by rw [← hR2]; exact HML.out j
    rw [hR2] at hs3
    obtain ⟨x, hx⟩ : ∃ x, dg X j = x := ⟨_, rfl⟩
    rw [hx] at hs2 hs3 hx9 HPL ⊢
    obtain ⟨T, hT⟩ : ∃ T, BB * R + x = T := ⟨_, rfl⟩
    rw [hT] at hs2 hs3
    have hTi : (R : Int) * 1000000000 + (x : Int) = (T : Int) := by rw [← hT]; unfold BB; omega
    have hTl : T < 1000000000000000000 := by rw [← hT]; unfold BB; omega
    have hRl : (R : Int) * 1000000000 < 1000000000000000000 := by omega
    have hTL : (T : Int) / (d : Int) = (L : Int) := by rw [← hs2]; simp
    have hTR : (T : Int) % (d : Int) = (R2 : Int) := by rw [← hs3]; simp
    have hd0 : ¬ (d : Int) = 0 := by omega
    have HH := Lib.hid (And.intro h0 (And.intro h1 (And.intro h2 (And.intro h3 (And.intro h4 h5)))))
    have HQ := Lib.hid (And.intro h3s (And.intro h3c (And.intro hqk hqj)))
    have HR2 := Lib.hid hR2
    have c2 := cell_one h2
    have f2 := free_one h2
    have hh2 := set_one h2 (x := .int .u64 (T : Nat))
    have hh0 : (W.setCell ⟨D + 1 + 1, 0, none⟩ (.int .u64 (T : Nat))).heap[D]? = _ := (set_else (by omega)).trans h0
    have hh1 : (W.setCell ⟨D + 1 + 1, 0, none⟩ (.int .u64 (T : Nat))).heap[D + 1]? = _ := (set_else (by omega)).trans h1
    have hh3 : (W.setCell ⟨D + 1 + 1, 0, none⟩ (.int .u64 (T : Nat))).heap[D + 1 + 1 + 1]? = _ := (set_else (by omega)).trans h3
    have hh4 : (W.setCell ⟨D + 1 + 1, 0, none⟩ (.int .u64 (T : Nat))).heap[D + 1 + 1 + 1 + 1]? = _ := (set_else (by omega)).trans h4
    have hh5 : Below D w (W.setCell ⟨D + 1 + 1, 0, none⟩ (.int .u64 (T : Nat))) := h5.setCell (by simp; omega) _
    have hrd : Rg.Round (fun b => b = D + 1 + 1 ∨ b = D + 1 + 1 + 1) W (W.setCell ⟨D + 1 + 1, 0, none⟩ (.int .u64 (T : Nat))) := (Rg.Round.refl _ W).set (.inl rfl) _
    have HHH := Lib.hid (And.intro hh0 (And.intro hh1 (And.intro hh2 (And.intro hh3 (And.intro hh4 (And.intro hh5 hrd))))))
    clear h0 h1 h2 h3 h4 h5 h3s h3c hqk hqj hqf hh0 hh1 hh2 hh3 hh4 hh5 hrd hs2 hs3 hR2 hL hx hT hR hj
    have FIN := Lib.hid (fun (W3 : World) (K : W3.heap[D]? = some (.cells #[.int .u64 (d : Nat)] 98) ∧ W3.heap[D + 1]? = some (.cells #[.slice (some ⟨D + 1 + 1 + 1, 0, none⟩) n n] 104) ∧ W3.heap[D + 1 + 1]? = some (.cells #[.int .u64 (T : Nat)] 98) ∧ W3.heap[D + 1 + 1 + 1]? = some (.cells (cs.setIfInBounds j (.int .u64 (L : Nat))) 98) ∧ W3.heap[D + 1 + 1 + 1 + 1]? = some (.cells #[.slice sx n cx] 104) ∧ Below D w W3 ∧ Rg.Round (fun b => b = D + 1 + 1 ∨ b = D + 1 + 1 + 1) W W3) => by
      obtain ⟨k0, k1, k2, k3, k4, k5, krd⟩ := K
      obtain ⟨h3s, h3c, hqk, hqj⟩ := HQ.out
      have r : Rg.Round (fun b => b = D + 1 + 1 ∨ b = D + 1 + 1 + 1) W (W3.setCell ⟨D + 1 + 1, 0, none⟩ (.int .u64 (R2 : Nat))).drew := ⟨(krd.set (p := ⟨D + 1 + 1, 0, none⟩) (.inl rfl) (.int .u64 (R2 : Nat))).size, (krd.set (p := ⟨D + 1 + 1, 0, none⟩) (.inl rfl) (.int .u64 (R2 : Nat))).same⟩
      refine And.intro r (And.intro (a := (W3.setCell ⟨D + 1 + 1, 0, none⟩ (.int .u64 (R2 : Nat))).drew.heap[D]? = some (.cells #[.int .u64 (d : Nat)] 98)) ((set_else (by omega)).trans k0) (And.intro (a := (W3.setCell ⟨D + 1 + 1, 0, none⟩ (.int .u64 (R2 : Nat))).drew.heap[D + 1]? = some (.cells #[.slice (some ⟨D + 1 + 1 + 1, 0, none⟩) n n] 104)) ((set_else (by omega)).trans k1) (And.intro (a := (W3.setCell ⟨D + 1 + 1, 0, none⟩ (.int .u64 (R2 : Nat))).drew.heap[D + 1 + 1]? = some (.cells #[.int .u64 (X / BB ^ (n - (pre ++ [(j, (x : Int))]).length) % d : Nat)] 98)) ?_ (And.intro (a := ∃ cs : Array Value, (W3.setCell ⟨D + 1 + 1, 0, none⟩ (.int .u64 (R2 : Nat))).drew.heap[D + 1 + 1 + 1]? = some (.cells cs 98) ∧ cs.size = n ∧ ∀ i, i < n → cs[i]? = some (.int .u64 (qfB (X / d) (n - (pre ++ [(j, (x : Int))]).length) i : Nat))) ⟨_, (set_else (by omega)).trans k3, by simp [h3s], fun i hi => ?_⟩ (And.intro (a := (W3.setCell ⟨D + 1 + 1, 0, none⟩ (.int .u64 (R2 : Nat))).drew.heap[D + 1 + 1 + 1 + 1]? = some (.cells #[.slice sx n cx] 104)) ((set_else (by omega)).trans k4) (show Below D w (W3.setCell ⟨D + 1 + 1, 0, none⟩ (.int .u64 (R2 : Nat))).drew from (k5.setCell (p := ⟨D + 1 + 1, 0, none⟩) (by simp; omega) _).drew))))))
      · rw [HPL.out, HR2.out]; exact set_one k2
      · rw [HPL.out]
        by_cases hij : j = i
        · subst hij
          rw [Array.getElem?_setIfInBounds_self_of_lt (by omega), hqj]
        · rw [Array.getElem?_setIfInBounds_ne hij, h3c i hi, hqk i hi (fun e => hij e.symm)])
    gi_upto_region 6 with fail
    obtain ⟨hh0, hh1, hh2, hh3, hh4, hh5, hrd⟩ := HHH.out
    generalize W.setCell ⟨D + 1 + 1, 0, none⟩ (.int .u64 (T : Nat)) = W2 at *
    have d0 := cell_one hh0
    have d1 := cell_one hh1
    have d2 := cell_one hh2
    have g2 := free_one hh2
    have d3 := (cell_row (k := j) hh3).trans hcj
    have g3 := free_row (k := j) hh3
    have HHH2 := Lib.hid (And.intro hh0 (And.intro hh1 (And.intro hh2 (And.intro hh3 (And.intro hh4 (And.intro hh5 hrd))))))
    clear HHH hh0 hh1 hh2 hh3 hh4 hh5 hrd c2 f2 hcj
    have hzW2 : D + 5 + 2 ≤ W.heap.size := by omega
    have hwL : IntKind.u64.wrap (L : Int) = (L : Int) := IntWalk.u64_in _ (by omega)
    clear hpost hszW hlen hml hRl hTi hTl hx9 h0V h1V h2V h3V h4V hwV hcs
    have hdn : ¬ d = 0 := by omega
    gi_region
    all_goals (obtain ⟨hh0, hh1, hh2, hh3, hh4, hh5, hrd⟩ := HHH2.out; clear d0 d1 d2 d3 g2 g3)
    all_goals (have k2 : (W2.setCell ⟨D + 1 + 1 + 1, j, none⟩ (.int .u64 (L : Nat))).heap[D + 1 + 1]? = _ := (set_else (by omega)).trans hh2; have k0 : (W2.setCell ⟨D + 1 + 1 + 1, j, none⟩ (.int .u64 (L : Nat))).heap[D]? = _ := (set_else (by omega)).trans hh0; have k1 : (W2.setCell ⟨D + 1 + 1 + 1, j, none⟩ (.int .u64 (L : Nat))).heap[D + 1]? = _ := (set_else (by omega)).trans hh1; have k4 : (W2.setCell ⟨D + 1 + 1 + 1, j, none⟩ (.int .u64 (L : Nat))).heap[D + 1 + 1 + 1 + 1]? = _ := (set_else (by omega)).trans hh4; have k3 := set_row (k := j) (v := .int .u64 (L : Nat)) hh3)
    all_goals (have KK := Lib.hid (And.intro k0 (And.intro k1 (And.intro k2 (And.intro k3 (And.intro k4 (And.intro (hh5.setCell (p := ⟨D + 1 + 1 + 1, j, none⟩) (by simp; omega) (.int .u64 (L : Nat))) (hrd.set (p := ⟨D + 1 + 1 + 1, j, none⟩) (.inr rfl) (.int .u64 (L : Nat))))))))); clear hh0 hh1 hh2 hh3 hh4 hh5 hrd; have e0 := cell_one k0; have e2 := cell_one k2; have z2 := free_one k2; clear k0 k1 k2 k3 k4 HHH2; generalize (W2.setCell ⟨D + 1 + 1 + 1, j, none⟩ (.int .u64 (L : Nat))) = W3 at *)
    all_goals gi_wp2
    all_goals exact FIN.out W3 KK.out
  case done =>
    rintro Dd W hDd ⟨h0, h1, h2, ⟨cs, h3, h3s, h3c⟩, h4, h5⟩ hK
    rw [downL_length, Nat.sub_self] at h2 h3c
    rw [Nat.pow_zero, Nat.div_one] at h2
    obtain ⟨R2, hR2⟩ : ∃ R2, X % d = R2 := ⟨_, rfl⟩
    rw [hR2] at h2
    have HR2 := Lib.hid hR2
    clear hR2
    have hrow : Row W (some ⟨D + 1 + 1 + 1, 0, none⟩) n n (D + 1 + 1 + 1) 0 (X / d) := ⟨Nat.le_refl _, fun _ => rfl, fun _ => (Array.getElem?_eq_some_iff.1 h3).1, fun k hk => by
      rw [Nat.zero_add, cell_row h3, h3c k hk]; unfold qfB; rw [if_neg (by omega)], Nat.lt_of_le_of_lt (Nat.div_le_self _ _) HX.out.fits⟩
    have TR := Lib.hid (fun (W' : World) (h : W'.heap = W.heap) => trimmed_any (some ⟨D + 1 + 1 + 1, 0, none⟩) n n (D + 1 + 1 + 1) 0 (X / d) W' ⟨hrow.cap, hrow.at_, fun p => by rw [h]; exact hrow.lt p, fun k hk => (World.cell?_of_block (a := ⟨D + 1 + 1 + 1, 0 + k, none⟩) (by rw [h])).trans (hrow.cell k hk), hrow.fits⟩ (by omega))
    have HRT := Lib.hid hrow.trim
    have c1 := cell_one h1
    have f1 := free_one h1
    have c2 := cell_one h2
    have f2 := free_one h2
    have HH := Lib.hid (And.intro h1 (And.intro h2 (And.intro h3 (And.intro h5 hK))))
    clear h0 h1 h2 h3 h3s h3c h4 h5 hK hrow h0V h1V h2V h3V h4V hwV hcs
    gi_upto_region 8 with fail
    gi_region_with (refine (callsIn_wide.2 (TR.out _ (by rfl))).mono ?_; rintro e w9 ⟨rfl, hw9⟩; subst w9)
    all_goals (obtain ⟨h1, h2, h3, h5, hK⟩ := HH.out; clear c1 f1 c2 f2; have k1 : ((W.setCell ⟨D + 1, 0, none⟩ (.slice (some ⟨D + 1 + 1 + 1, 0, none⟩) (nd (X / d)) n)).setCell ⟨D + 1 + 1, 0, none⟩ (.int .u64 (R2 : Nat))).drew.heap[D + 1]? = some (.cells #[.slice (some ⟨D + 1 + 1 + 1, 0, none⟩) (nd (X / d)) n] 104) := (set_else (by omega)).trans (set_one h1); have k2 : ((W.setCell ⟨D + 1, 0, none⟩ (.slice (some ⟨D + 1 + 1 + 1, 0, none⟩) (nd (X / d)) n)).setCell ⟨D + 1 + 1, 0, none⟩ (.int .u64 (R2 : Nat))).drew.heap[D + 1 + 1]? = some (.cells #[.int .u64 (R2 : Nat)] 98) := set_one ((set_else (by omega)).trans h2); have k3 : ((W.setCell ⟨D + 1, 0, none⟩ (.slice (some ⟨D + 1 + 1 + 1, 0, none⟩) (nd (X / d)) n)).setCell ⟨D + 1 + 1, 0, none⟩ (.int .u64 (R2 : Nat))).drew.heap[Dd]? = _ := (set_else (by omega)).trans ((set_else (by omega)).trans hK); have k4 : ((W.setCell ⟨D + 1, 0, none⟩ (.slice (some ⟨D + 1 + 1 + 1, 0, none⟩) (nd (X / d)) n)).setCell ⟨D + 1 + 1, 0, none⟩ (.int .u64 (R2 : Nat))).drew.heap[D + 1 + 1 + 1]? = some (.cells cs 98) := (set_else (by omega)).trans ((set_else (by omega)).trans h3); have k5 : Below D w ((W.setCell ⟨D + 1, 0, none⟩ (.slice (some ⟨D + 1 + 1 + 1, 0, none⟩) (nd (X / d)) n)).setCell ⟨D + 1 + 1, 0, none⟩ (.int .u64 (R2 : Nat))).drew := ((h5.setCell (p := ⟨D + 1, 0, none⟩) (by simp) _).setCell (p := ⟨D + 1 + 1, 0, none⟩) (by simp; omega) _).drew)
    all_goals (have kr : Row ((W.setCell ⟨D + 1, 0, none⟩ (.slice (some ⟨D + 1 + 1 + 1, 0, none⟩) (nd (X / d)) n)).setCell ⟨D + 1 + 1, 0, none⟩ (.int .u64 (R2 : Nat))).drew (some ⟨D + 1 + 1 + 1, 0, none⟩) (nd (X / d)) n (D + 1 + 1 + 1) 0 (X / d) := (((HRT.out.set ⟨D + 1, 0, none⟩ (fun _ => (show D + 1 + 1 + 1 ≠ D + 1 by omega)) _).set ⟨D + 1 + 1, 0, none⟩ (fun _ => (show D + 1 + 1 + 1 ≠ D + 1 + 1 by omega)) _).below ((Below.refl _ _).drew) (Nat.le_refl _)))
    all_goals (have KK := Lib.hid (And.intro k1 (And.intro k2 (And.intro k3 (And.intro k4 (And.intro k5 kr))))); clear h1 h2 h3 h5 hK k1 k2 k3 k4 k5 kr; generalize ((W.setCell ⟨D + 1, 0, none⟩ (.slice (some ⟨D + 1 + 1 + 1, 0, none⟩) (nd (X / d)) n)).setCell ⟨D + 1 + 1, 0, none⟩ (.int .u64 (R2 : Nat))).drew = A at *)
    all_goals gi_wp2
    all_goals (obtain ⟨k1, k2, k3, k4, k5, kr⟩ := KK.out; refine ⟨by simp, .inl ⟨_, _, rfl, run_takeDeferred k3, ?_⟩⟩)
    all_goals (have hst := Rg.Step.putObj (b := D) A _ (.deferred none) (by omega) k3 rfl; have y1 := cell_one (hst.same _ _ _ _ k1); have y2 := cell_one (hst.same _ _ _ _ k2))
    all_goals (exact ⟨.tuple #[.slice (some ⟨D + 1 + 1 + 1, 0, none⟩) (nd (X / d)) n, .int .u64 (R2 : Nat)], by simp [results, Tryz.results135, go_sem, y1, y2], ⟨_, by rw [HR2.out], some ⟨D + 1 + 1 + 1, 0, none⟩, n, D + 1 + 1 + 1, 0, rfl, ⟨kr.cap, kr.at_, fun h => by have := kr.lt h; have := hst.below.size; omega, fun k hk => (World.cell?_of_block (a := ⟨D + 1 + 1 + 1, 0 + k, none⟩) ((hst.same _ _ _ _ k4).trans k4.symm)).trans (kr.cell k hk), kr.fits⟩⟩, by rw [hD]; exact k5.trans hst.below⟩)
  case stop =>
    rintro Dd c pre W hDd _ h hK
    exact h.elim
end Go.Proofs.YthdoadkdofgenaaGreatDoor
/- divideMagnitudes: the two short arms. -/
namespace Go.Proofs.YthdoadkdofgenaaGreatDoor
open Go Go.RowKit Go.Shelf

theorem mag_zero (W : World) : Mag W (.slice none 0 0) 0 := ⟨none, 0, 0, 0, by rw [nd_zero], by rw [nd_zero]; exact ⟨Nat.le_refl _, fun p => absurd p (Nat.lt_irrefl _), fun p => absurd p (Nat.lt_irrefl _), fun k hk => absurd hk (Nat.not_lt_zero _), Nat.one_pos⟩⟩
theorem mag_set {W : World} {v : Value} {x : Nat} (h : Mag W v x) {b : Nat} {c : Value} {T : TypeId} (hb : W.heap[b]? = some (.cells #[c] T)) (hc : ∀ i : Int, c ≠ .int .u64 i) (u : Value) : Mag (W.setCell ⟨b, 0, none⟩ u) v x := by
  obtain ⟨sa, cap, b', o, h1, h2⟩ := h
  refine ⟨sa, cap, b', o, h1, h2.set ⟨b, 0, none⟩ (fun h0 e => ?_) u⟩
  have e2 : b' = b := e
  subst e2
  have h3 := h2.cell 0 h0
  simp [World.cell?, hb] at h3
  rcases o with _ | o
  · simp at h3; exact hc _ h3
  · simp at h3
theorem row_piece (W : World) {d : Nat} (hd : d < 1000000000) : Row (W.alloc (.cells #[.int .u64 (d : Nat)] 98)) (some ⟨W.heap.size, 0, none⟩) 1 1 W.heap.size 0 d :=
  ⟨Nat.le_refl _, fun _ => rfl, fun _ => by simp, fun k hk => by
    obtain rfl : k = 0 := by omega
    have e : dg d 0 = d := by unfold dg Im.dg; rw [Nat.pow_zero, Nat.div_one]; exact Nat.mod_eq_of_lt hd
    rw [e]; simp, by rw [Nat.pow_one]; exact hd⟩
theorem clone_mag (sx : Option Addr) (cx bx ox X : Nat) (w : World) (hx : Row w sx (nd X) cx bx ox X) (hn : nd X ≤ 1000000) :
    Calls Tryz.prog 126 #[.slice sx (nd X) cx] w fun e w' => (∃ v, e = .returned v ∧ Mag w' v X) ∧ Below w.heap.size w w' := by
  rcases Nat.eq_zero_or_pos (nd X) with h0 | h0
  · obtain rfl := nd_pos_iff.1 h0
    rw [nd_zero]
    have C : Calls Tryz.prog 126 #[.slice sx 0 cx] w fun e w' => (∃ sa cap, e = .returned (.slice sa 0 cap)) ∧ Below w.heap.size w w' := by
      cases sx with
      | none => exact clone_none cx w
      | some a => exact clone_empty a cx w
    refine C.mono ?_
    rintro e w' ⟨⟨sa, cap, rfl⟩, hb⟩
    exact ⟨⟨_, rfl, sa, cap, 0, 0, by rw [nd_zero], by rw [nd_zero]; exact ⟨Nat.zero_le _, fun p => absurd p (Nat.lt_irrefl _), fun p => absurd p (Nat.lt_irrefl _), fun k hk => absurd hk (Nat.not_lt_zero _), Nat.one_pos⟩⟩, hb⟩
  · obtain rfl := hx.at_ h0
    refine (clone_some bx ox cx (nd X) X w hx h0 (by omega)).mono ?_
    rintro e w' ⟨⟨v, rfl, hv⟩, hb⟩
    obtain ⟨sa, cap, b, rfl, hR, _⟩ := row_of hv hx.fits
    exact ⟨⟨_, rfl, sa, cap, b, 0, rfl, hR⟩, hb⟩
theorem divM_less (sx : Option Addr) (cx bx ox X : Nat) (sy : Option Addr) (cpy _by _oy Y : Nat) (hl : nd X < nd Y) (w : World) (hx : Row w sx (nd X) cx bx ox X) (hn : nd X ≤ 1000000) :
    Calls Tryz.prog 117 #[.slice sx (nd X) cx, .slice sy (nd Y) cpy] w fun e w' => (∃ v1 v2, e = .returned (.tuple #[v1, v2]) ∧ Mag w' v1 (X / Y) ∧ Mag w' v2 (X % Y)) ∧ Below w.heap.size w w' := by
  have hXY := lt_of_nd hl
  rw [Nat.div_eq_of_lt hXY, Nat.mod_eq_of_lt hXY]
  have CL := Lib.hid (fun W (hb : Below w.heap.size w W) => clone_mag sx cx bx ox X W (hx.below hb (Nat.le_refl _)) hn)
  have hli : (nd X : Int) < (nd Y : Int) := by omega
  clear hx hXY hl
  generalize nd X = nx at *
  generalize nd Y = ny at *
  obtain ⟨D, hD⟩ : ∃ D, w.heap.size = D := ⟨_, rfl⟩
  go_enter Tryz.func117, Tryz.ntmps117
  go_wp2_with fail
  obtain ⟨V, hV⟩ : ∃ V, ((w.alloc (.cells #[.slice none 0 0] 104)).alloc (.cells #[.slice none 0 0] 104)) = V := ⟨_, rfl⟩
  have hwV : Below D w V := by rw [← hV]; exact ((Below.refl _ w).alloc (by omega) _).alloc (by simp; omega) _
  have h0V : V.heap[D]? = some (.cells #[.slice none 0 0] 104) := by rw [← hV]; exact heap_up (heap_at hD.symm)
  have h1V : V.heap[D + 1]? = some (.cells #[.slice none 0 0] 104) := by rw [← hV]; exact heap_at (by simp [hD])
  have hzV : V.heap.size = D + 2 := by rw [← hV]; simp [hD]
  rw [hV]
  clear hV
  refine (CL.out V (by rw [hD]; exact hwV)).mono ?_
  rintro e w2 ⟨⟨v2, rfl, h2⟩, hb2⟩
  have h0 := (hb2.block D (by omega)).trans h0V
  have h1 := (hb2.block (D + 1) (by omega)).trans h1V
  have hw2 := hwV.trans (hb2.mono (by omega))
  have c0 := cell_one h0
  have f0 := free_one h0
  have c1 := cell_one h1
  have f1 := free_one h1
  have m1 : Mag ((w2.setCell ⟨D, 0, none⟩ (.slice none 0 0)).setCell ⟨D + 1, 0, none⟩ v2) v2 X := mag_set (mag_set h2 h0 (fun i e => by cases e) _) ((set_else (by omega)).trans h1) (fun i e => by cases e) _
  have HM := Lib.hid m1
  have HW := Lib.hid ((hw2.setCell (p := ⟨D, 0, none⟩) (by simp) (.slice none 0 0)).setCell (p := ⟨D + 1, 0, none⟩) (by simp) v2)
  obtain ⟨sa, cap, b, o, rfl, _⟩ := h2
  generalize nd X = nX at *
  clear h0 h1 hw2 m1 h0V h1V hwV
  go_wp2
  refine bodyPost_ret (v := .tuple #[.slice none 0 0, .slice sa nX cap]) (by simp [results, Tryz.results117, go_sem, c0, c1]) rfl ⟨⟨_, _, rfl, mag_zero _, HM.out⟩, by rw [hD]; exact HW.out⟩
theorem divM_one (sx : Option Addr) (cx bx ox X : Nat) (sy : Option Addr) (cpy by_ oy Y : Nat) (h1y : nd Y = 1) (hl : 1 ≤ nd X) (w : World) (hx : Row w sx (nd X) cx bx ox X) (hy : Row w sy (nd Y) cpy by_ oy Y) (hn : nd X ≤ 1000000) :
    Calls Tryz.prog 117 #[.slice sx (nd X) cx, .slice sy (nd Y) cpy] w fun e w' => (∃ v1 v2, e = .returned (.tuple #[v1, v2]) ∧ Mag w' v1 (X / Y) ∧ Mag w' v2 (X % Y)) ∧ Below w.heap.size w w' := by
  rw [h1y] at hy ⊢
  have hY0 : 0 < Y := by
    rcases Nat.eq_zero_or_pos Y with h | h
    · rw [h, nd_zero] at h1y; omega
    · exact h
  have hYl : Y < 1000000000 := by have := hy.fits; rw [Nat.pow_one] at this; exact this
  have hd0 : dg Y 0 = Y := by unfold dg Im.dg; rw [Nat.pow_zero, Nat.div_one]; exact Nat.mod_eq_of_lt hYl
  have cy := hy.cell 0 (by omega)
  rw [hd0, Nat.add_zero] at cy
  have hbl := hy.lt (by omega)
  have hcpy := hy.cap
  obtain rfl := hy.at_ (by omega)
  have BP := Lib.hid (fun W (hb : Below w.heap.size w W) => byPiece_any sx (nd X) cx bx ox X Y hY0 hYl W (hx.below hb (Nat.le_refl _)) hn)
  have hml := Nat.mod_lt X hY0
  have hc1 : ¬ ((nd X : Nat) : Int) < 1 := by omega
  obtain ⟨R, hR⟩ : ∃ R, X % Y = R := ⟨_, rfl⟩
  rw [hR] at BP hml ⊢
  have hR9 : R < 1000000000 := by omega
  have TR := Lib.hid (fun W => trimmed_any (some ⟨W.heap.size, 0, none⟩) 1 1 W.heap.size 0 R (W.alloc (.cells #[.int .u64 (R : Nat)] 98)) (row_piece W hR9) (by omega))
  have TM := Lib.hid (fun W => show Mag (W.alloc (.cells #[.int .u64 (R : Nat)] 98)) (.slice (some ⟨W.heap.size, 0, none⟩) (nd R) 1) R from ⟨_, _, W.heap.size, 0, rfl, (row_piece W hR9).trim⟩)
  clear hx hy hd0 hR hml
  generalize nd X = nx at *
  obtain ⟨D, hD⟩ : ∃ D, w.heap.size = D := ⟨_, rfl⟩
  have hlx : ¬ (nx : Int) < 1 := by omega
  go_enter Tryz.func117, Tryz.ntmps117
  have cy2 := (((Below.refl _ w).alloc (Nat.le_refl _) (.cells #[.slice none 0 0] 104)).alloc (by simp) (.cells #[.slice none 0 0] 104)).cell (p := ⟨by_, oy, none⟩) hbl |>.trans cy
  go_wp2_with fail
  obtain ⟨V, hV⟩ : ∃ V, ((w.alloc (.cells #[.slice none 0 0] 104)).alloc (.cells #[.slice none 0 0] 104)) = V := ⟨_, rfl⟩
  have hwV : Below D w V := by rw [← hV]; exact ((Below.refl _ w).alloc (by omega) _).alloc (by simp; omega) _
  have h0V : V.heap[D]? = some (.cells #[.slice none 0 0] 104) := by rw [← hV]; exact heap_up (heap_at hD.symm)
  have h1V : V.heap[D + 1]? = some (.cells #[.slice none 0 0] 104) := by rw [← hV]; exact heap_at (by simp [hD])
  have hzV : V.heap.size = D + 2 := by rw [← hV]; simp [hD]
  rw [hV]
  clear hV cy2 cy
  refine (BP.out V (by rw [hD]; exact hwV)).mono ?_
  rintro e w2 ⟨⟨v2, rfl, h2⟩, hb2⟩
  obtain ⟨sa, cap, b, o, rfl, hr2⟩ := h2
  go_wp2_with fail
  have hba : Below V.heap.size V (w2.alloc (.cells #[.int .u64 (R : Nat)] 98)) := hb2.alloc hb2.size _
  have h0 := (hba.block D (by omega)).trans h0V
  have h1 := (hba.block (D + 1) (by omega)).trans h1V
  have hw2 := hwV.trans (hba.mono (by omega))
  have hQ : Mag (w2.alloc (.cells #[.int .u64 (R : Nat)] 98)) (.slice sa (nd (X / Y)) cap) (X / Y) := ⟨sa, cap, b, o, rfl, hr2.below ((Below.refl _ _).alloc (Nat.le_refl _) _) (Nat.le_refl _)⟩
  have hRm := TM.out w2
  refine (TR.out w2).mono ?_
  rintro e w3 ⟨rfl, hw3⟩
  subst w3
  obtain ⟨E, hE⟩ : ∃ E, w2.heap.size = E := ⟨_, rfl⟩
  rw [hE] at hRm ⊢
  have hEV : D + 2 ≤ E := by have := hb2.size; omega
  generalize w2.alloc (.cells #[.int .u64 (R : Nat)] 98) = A at *
  have c0 := cell_one h0
  have f0 := free_one h0
  have c1 := cell_one h1
  have f1 := free_one h1
  have HM1 := Lib.hid (show Mag ((A.setCell ⟨D, 0, none⟩ (.slice sa (nd (X / Y)) cap)).setCell ⟨D + 1, 0, none⟩ (.slice (some ⟨E, 0, none⟩) (nd R) 1)) (.slice sa (nd (X / Y)) cap) (X / Y) from mag_set (mag_set hQ h0 (fun i e => by cases e) _) ((set_else (by omega)).trans h1) (fun i e => by cases e) _)
  have HM2 := Lib.hid (show Mag ((A.setCell ⟨D, 0, none⟩ (.slice sa (nd (X / Y)) cap)).setCell ⟨D + 1, 0, none⟩ (.slice (some ⟨E, 0, none⟩) (nd R) 1)) (.slice (some ⟨E, 0, none⟩) (nd R) 1) R from mag_set (mag_set hRm h0 (fun i e => by cases e) _) ((set_else (by omega)).trans h1) (fun i e => by cases e) _)
  have HW := Lib.hid ((hw2.setCell (p := ⟨D, 0, none⟩) (by simp) (.slice sa (nd (X / Y)) cap)).setCell (p := ⟨D + 1, 0, none⟩) (by simp) (.slice (some ⟨E, 0, none⟩) (nd R) 1))
  generalize nd (X / Y) = nq at *
  generalize nd R = nr at *
  clear h0 h1 hw2 hQ hRm h0V h1V hwV hr2 hba hb2 TR TM BP hE
  go_wp2
  refine bodyPost_ret (v := .tuple #[.slice sa nq cap, .slice (some ⟨E, 0, none⟩) nr 1]) (by simp [results, Tryz.results117, go_sem, c0, c1]) rfl ⟨⟨_, _, rfl, HM1.out, HM2.out⟩, by rw [hD]; exact HW.out⟩
end Go.Proofs.YthdoadkdofgenaaGreatDoor
/- A range over a function whose body may write what the iterator has read already: what the iterator still reads may turn from round to round. -/
namespace Go.Proofs.YthdoadkdofgenaaGreatDoor.Rg
open Go Go.RowKit Go.Shelf

/-- What an iterator's contract says to its caller: whatever J the caller keeps between rounds, so it abides the iterator's steps: the elements of xs come, in order, until a round says 'no more'. -/
def GivesP {α : Type} (F : Fence) (n : Nat) (P : Program) (g : Nat) (lb : Array Value) (encs : α → Array Value) (xs : List α) (w : World) (Kp : List α → World → Prop) : Prop :=
  ∀ (l : Nat) (J Jx : List α → World → Prop) (W : World), Below w.heap.size w W →
    (∀ s A B, J s A → Step W.heap.size A B → J s B) → (∀ s A B, Jx s A → Step W.heap.size A B → Jx s B) → (∀ s A, J s A → Kp s A) →
    (∀ pre x A, J pre A → (∃ post, xs = pre ++ x :: post) → YieldAt F (n - 1) P l (encs x) A fun e B => (e = .returned (.bool true) ∧ J (pre ++ [x]) B) ∨ (e = .returned (.bool false) ∧ Jx (pre ++ [x]) B)) →
    J [] W →
    CallsIn F n P g (#[.func (.yield l) #[] #[]] ++ lb) W fun e W' => (∃ v, e = .returned v) ∧ (J xs W' ∨ ∃ pre, (∃ post, xs = pre ++ post) ∧ Jx pre W')

variable {F : Fence} {n : Nat} {P : Program}

theorem range_allP {α : Type} {g : Operand} {ps : Array Tmp} {assign body : Code} {Q : Exit → Act → World → Prop} {a : Act} {w : World}
    (hro : F.round = none) (h1 : 1 ≤ n) {gf : Nat} {lb : Array Value} (hg : a.eval g = .func (.func gf) #[] lb) (hFg : F.fn gf) (eg : ∀ args w, (callFunc gf args).run P w = .ok (.enter gf args) w)
    {encs : α → Array Value} {xs : List α} {Kp : List α → World → Prop} (hseq : GivesP F (n - 1) P gf lb encs xs w Kp) (hps : ∀ x, (encs x).size = ps.size)
    (S : Nat → Prop) (hS0 : ¬ S w.heap.size) (hS1 : ¬ S (w.heap.size + 1))
    (I : List α → World → Prop) (Ix : Code → List α → World → Prop) (hI : ∀ s A B, I s A → Step w.heap.size A B → I s B) (hIx : ∀ c s A B, Ix c s A → Step w.heap.size A B → Ix c s B) (hK : ∀ s A, I s A → Kp s A) (h0 : I [] w) (a₁ : α → Act)
    (hassign : ∀ (l : Nat) (x : α) (W : World) (K : Act → World → Prop), K (a₁ x) W →
      assign.wpIn (F.inRound l) (n - 1 - 1) P (Exit.then K (fun _ _ _ => False)) { tmps := (ps.zip (encs x)).foldl (fun t (p, v) => t.setIfInBounds p v) a.tmps, defers := [] } W)
    (hbody : ∀ (l : Nat) (pre : List α) (x : α) (W : World), I pre W → (∃ post, xs = pre ++ x :: post) → w.heap.size + 2 ≤ W.heap.size → body.wpIn (F.inRound l) (n - 1 - 1) P (ends S I Ix (pre ++ [x]) W) (a₁ x) W)
    (hdone : ∀ (D : Nat) (W : World), w.heap.size ≤ D → I xs W → W.heap[D]? = some (.deferred (some [])) → Q .normal { a with defers := { target := .collected D, args := #[] } :: a.defers } W)
    (hstop : ∀ (D : Nat) (c : Code) (pre : List α) (W : World), w.heap.size ≤ D → (∃ post, xs = pre ++ post) → Ix c pre W → W.heap[D]? = some (.deferred (some [])) → c.wpIn F n P Q { a with defers := { target := .collected D, args := #[] } :: a.defers } W) :
    (Code.rangeFunc g ps assign body).wpIn F n P Q a w := by
  refine wpIn_rangeFunc fun fn hfn => ?_
  rw [hro]
  obtain ⟨rec, hrec⟩ : ∃ rec : LoopState → Option Code → Loop, rec = fun st pe => { state := st, pending := pe, fn, tmps := a.tmps, params := ps, assign, body, defers := w.heap.size } := ⟨_, rfl⟩
  obtain ⟨V, hV⟩ : ∃ V, (w.alloc (.deferred (some []))).alloc (.loop (rec .ready none)) = V := ⟨_, rfl⟩
  have hL : V.heap[w.heap.size + 1]? = some (.loop (rec .ready none)) := by
    rw [← hV]; have := World.alloc_heap_new (w.alloc (.deferred (some []))) (.loop (rec .ready none)); rwa [World.size_alloc] at this
  have hKd : V.heap[w.heap.size]? = some (.deferred (some [])) := by
    rw [← hV]; exact (Below.heap_alloc _ _ _ (by simp)).trans (World.alloc_heap_new w _)
  have hwV : Below w.heap.size w V := by rw [← hV]; exact ((Below.refl _ w).alloc (Nat.le_refl _) _).alloc (by simp) _
  have hszV : V.heap.size = w.heap.size + 2 := by rw [← hV]; simp
  refine ⟨w.heap.size + 1, [{ target := .collected w.heap.size, args := #[] }], V, { target := .fn (.func gf) lb, args := #[.func (.yield (w.heap.size + 1)) #[] #[]] }, V, gf,
    #[.func (.yield (w.heap.size + 1)) #[] #[]] ++ lb, V, ?_, ?_, ?_, ?_, fun _ => h1, ?_⟩
  · rw [← hV, hrec]; exact run_enterLoop_outer _ _ _ _ _
  · simp only [resolve, hg]
    simp [go_sem]
  · intro f' hf'; simp [Target.leads] at hf'; subst hf'; exact hFg
  · simp [invoke, go_sem, eg]
  · refine (hseq (w.heap.size + 1) (fun pre W => I pre W ∧ W.heap[w.heap.size + 1]? = some (.loop (rec .ready none)) ∧ W.heap[w.heap.size]? = some (.deferred (some [])))
      (fun pre W => ∃ c, Ix c pre W ∧ W.heap[w.heap.size + 1]? = some (.loop (rec .done (some c))) ∧ W.heap[w.heap.size]? = some (.deferred (some []))) V hwV
      (fun s A B hs st => ⟨hI s A B hs.1 (st.mono (by omega)), heap_below st.below (by omega) hs.2.1, heap_below st.below (by omega) hs.2.2⟩)
      (fun s A B hs st => by
        obtain ⟨c, hc, hl, hk⟩ := hs
        exact ⟨c, hIx c s A B hc (st.mono (by omega)), heap_below st.below (by omega) hl, heap_below st.below (by omega) hk⟩)
      (fun s A hs => hK s A hs.1)
      ?_ ⟨hI [] w V h0 (Step.of_below (Nat.le_refl _) hwV), hL, hKd⟩).mono ?_
    · rintro pre x W ⟨hi, hl, hk⟩ hx
      have hlt : w.heap.size + 1 < W.heap.size := (Array.getElem?_eq_some_iff.1 hl).1
      have hy := run_yield (P := P) (args := encs x) hl (by rw [hrec]; exact hps x)
      rw [hrec] at hy
      refine ⟨fn, _, assign, body, hy, roundIn_of_wpIn hfn (hassign _ x W _ ⟨_, run_beginRound hl (by rw [hrec]), ?_⟩)⟩
      refine wpIn_mono (hbody _ pre x _ (hI pre W _ hi (Step.putObj W _ _ (by omega) hl rfl)) hx (by simp; omega)) ?_
      have fin : ∀ (jump : Option Code) (W3 : World), Round S (W.putObj (w.heap.size + 1) (.loop { rec .ready none with state := .busy })) W3 →
          (Instr.endRound (w.heap.size + 1) jump).run P W3 = .ok (.bool jump.isNone) (W3.putObj (w.heap.size + 1) (.loop (rec (if jump.isNone then .ready else .done) jump))) ∧
          W3.heap[w.heap.size + 1]? = some (.loop { rec .ready none with state := .busy }) ∧
          (W3.putObj (w.heap.size + 1) (.loop (rec (if jump.isNone then .ready else .done) jump))).heap[w.heap.size + 1]? = some (.loop (rec (if jump.isNone then .ready else .done) jump)) ∧
          (W3.putObj (w.heap.size + 1) (.loop (rec (if jump.isNone then .ready else .done) jump))).heap[w.heap.size]? = some (.deferred (some [])) := fun jump W3 hr3 => by
        have hl3 := hr3.same _ _ (World.putObj_heap_same (o := .loop { rec .ready none with state := .busy }) hlt) hS1 rfl
        have hk3 := hr3.same w.heap.size _ ((World.putObj_heap_other (by omega)).trans hk) hS0 rfl
        have he := run_endRound (P := P) jump hl3
        rw [hrec] at he ⊢
        exact ⟨he, by rw [hrec] at hl3; exact hl3, World.putObj_heap_same (Array.getElem?_eq_some_iff.1 hl3).1, (World.putObj_heap_other (by omega)).trans hk3⟩
      rintro e a3 W3 hp
      cases e with
      | normal =>
        obtain ⟨hr3, hi3⟩ := hp
        obtain ⟨he, hl3, hl4, hk4⟩ := fin none W3 hr3
        exact ⟨_, _, he, .inl ⟨rfl, hI _ _ _ hi3 (Step.putObj W3 _ _ (by omega) hl3 rfl), hl4, hk4⟩⟩
      | ret =>
        obtain ⟨hr3, hi3⟩ := hp
        obtain ⟨he, hl3, hl4, hk4⟩ := fin (some .ret) W3 hr3
        exact ⟨_, _, he, .inr ⟨rfl, .ret, hIx _ _ _ _ hi3 (Step.putObj W3 _ _ (by omega) hl3 rfl), hl4, hk4⟩⟩
      | exit id =>
        obtain ⟨hr3, hi3⟩ := hp
        obtain ⟨he, hl3, hl4, hk4⟩ := fin (some (.exit id)) W3 hr3
        exact ⟨_, _, he, .inr ⟨rfl, .exit id, hIx _ _ _ _ hi3 (Step.putObj W3 _ _ (by omega) hl3 rfl), hl4, hk4⟩⟩
      | goto t => exact hp.elim
      | panic ch => exact hp.elim
      | outgrown => exact hp.elim
    · rintro e W2 ⟨⟨v, rfl⟩, (⟨hi, hl, hk⟩ | ⟨pre, hpre, c, hi, hl, hk⟩)⟩
      · have he := run_endLoop (P := P) hl (by rw [hrec]; simp)
        rw [hrec] at he
        exact ⟨none, _, he, hdone _ _ (Nat.le_refl _) (hI xs W2 _ hi (Step.putObj W2 _ _ (by omega) hl rfl)) ((World.putObj_heap_other (by omega)).trans hk)⟩
      · have he := run_endLoop (P := P) hl (by rw [hrec]; simp)
        rw [hrec] at he
        exact ⟨some c, _, he, hstop _ c pre _ (Nat.le_refl _) hpre (hIx c pre W2 _ hi (Step.putObj W2 _ _ (by omega) hl rfl)) ((World.putObj_heap_other (by omega)).trans hk)⟩
end Go.Proofs.YthdoadkdofgenaaGreatDoor.Rg
/- slices.Backward over a slice of which the loop's body writes what has come already. -/
namespace Go.Proofs.YthdoadkdofgenaaGreatDoor
open Go Go.RowKit Go.Shelf
attribute [local go_sem] Oper.semAt_some wide_fn wide_depth

/-- What the iterator reads between two rounds, s having come. -/
def BkP (Bs : Nat) (sa : Option Addr) (B off n cap : Nat) (X : Nat → Int) (s : List (Nat × Int)) (A : World) : Prop :=
  A.cell? ⟨Bs, 0, none⟩ = some (.slice sa n cap) ∧ (0 < n → sa = some ⟨B, off, none⟩) ∧ ∀ k, k + s.length < n → A.cell? ⟨B, off + k, none⟩ = some (.int .u64 (X k))

set_option maxRecDepth 100000 in
set_option maxHeartbeats 2000000 in
theorem backward_givesP (Bs : Nat) (sa : Option Addr) (B off n cap : Nat) (X : Nat → Int) (hn : n ≤ 1099511627776) (d : Nat) (w : World) :
    Rg.GivesP Fence.wide d Tryz.prog 120 #[.pointer (some ⟨Bs, 0, none⟩)] (fun x : Nat × Int => #[.int .i64 (x.1 : Nat), .int .u64 x.2]) (downL X n n) w (BkP Bs sa B off n cap X) := by
  intro l J Jx W hbW hJ hJx hK hY h0
  show CallsIn Fence.wide d Tryz.prog 120 #[.func (.yield l) #[] #[], .pointer (some ⟨Bs, 0, none⟩)] W _
  have c0 := (hK _ _ h0).1
  have hnw : IntKind.i64.wrap ((n : Int) - 1) = (n : Int) - 1 := by rw [IntKind.wrap_i64]; omega
  have hnn : (n : Int) ≤ 1099511627776 := by omega
  refine callsIn_of_wp Tryz.func120 rfl trivial ?_ rfl
  simp only [Tryz.ntmps120, List.size_toArray, List.length_cons, List.length_nil, Nat.reduceAdd, Nat.reduceSub, Array.replicate_succ, Array.replicate_zero, List.push_toArray, List.append_toArray, List.nil_append, List.cons_append]
  gi_wp2
  gi_loopw [3] (fun i wr => ∃ r : Nat, r ≤ n ∧ i = .int .i64 ((n : Int) - 1 - (r : Int)) ∧ J (downL X n r) wr) (fun i _ => ((intOf i) + 1).toNat)
  case atStart => exact ⟨0, Nat.zero_le _, by simp, h0⟩
  case round =>
    obtain ⟨r, hr, rfl, hJs⟩ := hrel
    clear c0 hnw
    by_cases h1 : r < n
    · obtain ⟨k, hk⟩ : ∃ k : Nat, n - 1 - r = k := ⟨_, rfl⟩
      have hki : (n : Int) - 1 - (r : Int) = (k : Int) := by omega
      obtain ⟨c0, c1, c2⟩ := hK _ _ hJs
      obtain rfl := c1 (by omega)
      have hx := c2 k (by rw [downL_length]; omega)
      have hkn : (k : Int) < (n : Int) := by omega
      obtain ⟨fn, tmps, assign, body, hy, hR⟩ := hY (downL X n r) (n - 1 - r, X (n - 1 - r)) wr hJs (downL_split X n r h1)
      have hS := Lib.hid (downL_succ X n r)
      rw [hk] at hy hR hS
      dsimp only at hy
      rw [hki]
      have HKI := Lib.hid hki
      generalize X k = x at *
      clear c1 c2 hk hki
      gi_wp2_with fail
      refine hR.mono ?_
      rintro e W3 (⟨rfl, hJ3⟩ | ⟨rfl, hJx3⟩)
      · gi_wp2
        go_roundw
        case rel => exact ⟨r + 1, by omega, by rw [← HKI.out]; congr 1; omega, by rw [hS.out]; exact hJ3⟩
        case measure => simp [intOf]
      · gi_wp2
        refine bodyPost_ret (results_none rfl _ _ _) rfl ?_
        obtain ⟨post, hp⟩ := downL_split X n r h1
        exact ⟨⟨_, rfl⟩, .inr ⟨_, ⟨post, by rw [hp, ← hS.out, downL_succ]; simp⟩, hJx3⟩⟩
    · obtain rfl : r = n := by omega
      have hm : ¬ (0 : Int) ≤ (r : Int) - 1 - (r : Int) := by omega
      gi_wp2
      go_end0
      exact ⟨⟨_, rfl⟩, .inl hJs⟩
end Go.Proofs.YthdoadkdofgenaaGreatDoor
