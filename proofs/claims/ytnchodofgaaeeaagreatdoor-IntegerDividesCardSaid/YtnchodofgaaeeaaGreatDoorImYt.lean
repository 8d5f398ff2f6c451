/- The reference's Gcd. -/
import Derived.Test.YtnchodofgaaeeaaGreatDoorImYr
namespace Go.Proofs.YtnchodofgaaeeaaGreatDoor
open Go Go.RowKit Go.Shelf

def strOf : Value → ByteArray
  | .string s => s
  | _ => ⟨#[]⟩
theorem dvR_lt (x y : Int) (hy : y ≠ 0) : (dvR x y).natAbs < y.natAbs := by
  obtain ⟨h1, h2⟩ := dv_ends x y hy
  rcases Int.lt_or_gt_of_ne hy with h | h
  · have := h2 h; omega
  · have := h1 h; omega
theorem dvR_gcd (x y : Int) : Int.gcd y (dvR x y) = Int.gcd x y := by
  have h := dv_sum x y
  have e : dvR x y = x - dvQ x y * y := by omega
  rw [e, Int.gcd_comm x y]
  apply Nat.dvd_antisymm
  · refine Int.dvd_gcd (Int.gcd_dvd_left ..) ?_
    have h1 := Int.gcd_dvd_right (a := y) (b := x - dvQ x y * y)
    have h2 := Int.dvd_mul_of_dvd_right (b := dvQ x y) (Int.gcd_dvd_left (a := y) (b := x - dvQ x y * y))
    have h3 := Int.dvd_add h1 h2
    rwa [show x - dvQ x y * y + dvQ x y * y = x by omega] at h3
  · refine Int.dvd_gcd (Int.gcd_dvd_left ..) ?_
    have h1 := Int.gcd_dvd_right (a := y) (b := x)
    have h2 := Int.dvd_mul_of_dvd_right (b := dvQ x y) (Int.gcd_dvd_left (a := y) (b := x))
    exact Int.dvd_sub h1 h2
theorem gcd_tmod (a b : Int) : Int.gcd b (a.tmod b) = Int.gcd b a := by
  have h : a.tmod b = a - a.tdiv b * b := by have := Int.mul_tdiv_add_tmod a b; rw [Int.mul_comm] at this; omega
  rw [h]
  apply Nat.dvd_antisymm
  · refine Int.dvd_gcd (Int.gcd_dvd_left ..) ?_
    have h1 := Int.gcd_dvd_right (a := b) (b := a - a.tdiv b * b)
    have h2 := Int.dvd_mul_of_dvd_right (b := a.tdiv b) (Int.gcd_dvd_left (a := b) (b := a - a.tdiv b * b))
    have h3 := Int.dvd_add h1 h2
    rwa [show a - a.tdiv b * b + a.tdiv b * b = a by omega] at h3
  · refine Int.dvd_gcd (Int.gcd_dvd_left ..) ?_
    have h1 := Int.gcd_dvd_right (a := b) (b := a)
    have h2 := Int.dvd_mul_of_dvd_right (b := a.tdiv b) (Int.gcd_dvd_left (a := b) (b := a))
    exact Int.dvd_sub h1 h2
theorem abs_tz {s : ByteArray} (h : Cn s) : (ByteArray.mk (Im.dgs s.data.toList).toArray) = tz ((iv s).natAbs : Int) := by
  cases hm : mns s.data.toList with
  | true =>
    have h1 : iv s < 0 := by have := mns_iff h.canon; rw [hm] at this; simpa using this.symm
    rw [show ((iv s).natAbs : Int) = -iv s by omega]
    exact (neg_minus h.canon hm).symm
  | false =>
    have h1 : ¬ iv s < 0 := by have := mns_iff h.canon; rw [hm] at this; simpa using this.symm
    rw [show ((iv s).natAbs : Int) = iv s by omega, tz_iv h.canon]
    have hd : Im.dgs s.data.toList = s.data.toList := by
      unfold mns at hm
      rw [← trim_dgs, trim_one, if_neg (by simpa using hm)]
    exact (bytes_ext hd.symm).symm
set_option maxRecDepth 100000 in
set_option maxHeartbeats 2000000 in
theorem rgcd_c (s t : ByteArray) (hs : Cn s) (ht : Cn t) (ls : s.size ≤ 8000) (lt : t.size ≤ 8000) (w : World) (G : Gi w) :
    Calls Tryz.prog 42 #[.string s, .string t] w fun e w' => e = .returned (.string (tz (Int.gcd (iv s) (iv t) : Nat))) ∧ Below w.heap.size w w' := by
  obtain ⟨N, hN⟩ : ∃ N, N = 8000 := ⟨_, rfl⟩
  have DM := Lib.hid (fun (x y : ByteArray) (hx : Cn x) (hy : Cn y) (lx : x.size ≤ N + 1) (ly : y.size ≤ N + 1) (h0 : iv y ≠ 0) W G => rdiv_c x y hx hy (by omega) (by omega) h0 W G)
  have ZN := Lib.hid (fun (z : Int) (h : z.natAbs < 10 ^ N) => And.intro (cn_tz h (by omega) (by omega)) (len_tz h (by omega)))
  have CU := Lib.hid (fun (x : ByteArray) (h : x.size ≤ N + 1) W => cut_any x (by omega) W)
  obtain ⟨g, hg⟩ : ∃ g : Nat, Int.gcd (iv s) (iv t) = g := ⟨_, rfl⟩
  have hb : (iv t).natAbs < 10 ^ N := Nat.lt_of_lt_of_le (iv_lt_size ht) (Nat.pow_le_pow_right (by decide) (by omega))
  have h0 := Lib.hid (show ∃ x y : ByteArray, Value.string s = .string x ∧ Value.string t = .string y ∧ Cn x ∧ Cn y ∧ x.size ≤ N + 1 ∧ y.size ≤ N + 1 ∧ (iv y).natAbs < 10 ^ N ∧ Int.gcd (iv x) (iv y) = g from ⟨s, t, rfl, rfl, hs, ht, by omega, by omega, hb, hg⟩)
  rw [hg]
  clear hs ht hb hg ls lt
  obtain ⟨D, hD⟩ : ∃ D, w.heap.size = D := ⟨_, rfl⟩
  go_enter Tryz.func42, Tryz.ntmps42
  go_wp2_with fail
  go_loopw [0, 1] (fun a b wr => ∃ x y : ByteArray, a = .string x ∧ b = .string y ∧ Cn x ∧ Cn y ∧ x.size ≤ N + 1 ∧ y.size ≤ N + 1 ∧ (iv y).natAbs < 10 ^ N ∧ Int.gcd (iv x) (iv y) = g ∧ Below D w wr) (fun _ b _ => (iv (strOf b)).natAbs)
  case atStart =>
    obtain ⟨x, y, e1, e2, h1, h2, h3, h4, h5, h6⟩ := h0.out
    exact ⟨x, y, e1, e2, h1, h2, h3, h4, h5, h6, Below.refl _ _⟩
  case round =>
    obtain ⟨x, y, rfl, rfl, cx, cy, lx, ly, hyb, hgc, hw⟩ := hrel
    have GW := G.below (hD ▸ hw)
    by_cases hy0 : y.data.toList = [48]
    · obtain rfl : y = ⟨#[48]⟩ := ext_bytes hy0
      have hg2 : (iv x).natAbs = g := by rw [← hgc, show iv ⟨#[48]⟩ = 0 from iv_zero rfl]; simp
      have CX := Lib.hid (CU.out x lx)
      have HT := Lib.hid (show (ByteArray.mk (Im.dgs x.data.toList).toArray) = tz (g : Int) by
        rw [← hg2]
        exact abs_tz cx)
      clear cx cy lx ly hyb hgc hy0 hg2
      generalize Im.dgs x.data.toList = dx at *
      generalize mns x.data.toList = mx at *
      go_wp2_with fail
      refine (CX.out _).mono ?_
      rintro e w2 ⟨rfl, k, rfl⟩
      go_wp2
      go_ret
      exact ⟨by rw [HT.out]; rfl, by rw [hD]; exact hw.trans ((drew_below _ _).mono (by have := hw.size; omega))⟩
    · have hne : ¬ iv y = 0 := fun e => hy0 ((zero_iv cy.canon).2 e)
      have h0' : ¬ y.toList = [48] := by rw [toList_eq]; exact hy0
      have h0b : (y.toList == [48]) = false := by rw [beq_eq_false_iff_ne]; exact h0'
      have h0s : ¬ y = ⟨#[48]⟩ := fun e => hy0 (by rw [e])
      have hl := dvR_lt (iv x) (iv y) hne
      have hg2 := (dvR_gcd (iv x) (iv y)).trans hgc
      obtain ⟨z1, z2⟩ := ZN.out (dvR (iv x) (iv y)) (by omega)
      have DMM := Lib.hid (DM.out x y cx cy lx ly hne)
      have HL := Lib.hid (show (iv (tz (dvR (iv x) (iv y)))).natAbs < (iv y).natAbs by rw [iv_tz]; exact hl)
      have HG := Lib.hid (show Int.gcd (iv y) (iv (tz (dvR (iv x) (iv y)))) = g by rw [iv_tz]; exact hg2)
      have HC := Lib.hid (And.intro cy (And.intro z1 (And.intro ly (And.intro z2 (Nat.lt_of_lt_of_le (Nat.lt_of_le_of_lt (Nat.le_of_lt (HL.out)) hyb) (Nat.le_refl _))))))
      clear cx cy lx ly hyb hgc hl hg2 z1 z2 hne hy0
      generalize tz (dvR (iv x) (iv y)) = rr at *
      generalize tz (dvQ (iv x) (iv y)) = qq at *
      go_wp2_with fail
      refine (DMM.out _ GW).mono ?_
      rintro e w2 ⟨rfl, b2⟩
      have hw2 := hw.trans (b2.mono (by have := hw.size; omega))
      go_wp2_with fail
      go_roundw
      case rel => exact ⟨y, rr, rfl, rfl, HC.out.1, HC.out.2.1, HC.out.2.2.1, HC.out.2.2.2.1, HC.out.2.2.2.2, HG.out, hw2⟩
      case measure => exact HL.out
end Go.Proofs.YtnchodofgaaeeaaGreatDoor
