/- raise: the potentials change. -/
import Derived.Test.YtojgfpnecdngfaaMtC
namespace Go.Proofs.Ytojgfpnecdngfaa
open Go Go.RowKit

/-- The potentials of the rows, and of the columns, when the first k columns are seen. -/
def raR (row : Nat) (kn : Nat → Bool) (o d : Nat → Int) (L : Int) (r : Nat → Int) : Nat → Nat → Int
  | 0 => fun i => if i = row then r row + L else r i
  | k + 1 => fun i => if kn k = true ∧ i = (o k).toNat then raR row kn o d L r k i + (L - d k) else raR row kn o d L r k i
def raC (kn : Nat → Bool) (d : Nat → Int) (L : Int) (c : Nat → Int) (k : Nat) : Nat → Int := fun j => if j < k ∧ kn j = true then c j - (L - d j) else c j
theorem raR_yes {row : Nat} {kn : Nat → Bool} {o d : Nat → Int} {L : Int} {r : Nat → Int} {k : Nat} (h : kn k = true) (i : Nat) :
    raR row kn o d L r (k + 1) i = if i = (o k).toNat then raR row kn o d L r k (o k).toNat + (L - d k) else raR row kn o d L r k i := by
  show (if kn k = true ∧ i = (o k).toNat then _ else _) = _
  by_cases e : i = (o k).toNat
  · rw [if_pos ⟨h, e⟩, if_pos e, e]
  · rw [if_neg (fun h' => e h'.2), if_neg e]
theorem raR_no {row : Nat} {kn : Nat → Bool} {o d : Nat → Int} {L : Int} {r : Nat → Int} {k : Nat} (h : kn k = false) (i : Nat) : raR row kn o d L r (k + 1) i = raR row kn o d L r k i := by
  show (if kn k = true ∧ i = (o k).toNat then _ else _) = _
  rw [if_neg (fun h' => by rw [h] at h'; exact absurd h'.1 (by decide))]
theorem raC_yes {kn : Nat → Bool} {d : Nat → Int} {L : Int} {c : Nat → Int} {k : Nat} (h : kn k = true) (j : Nat) : raC kn d L c (k + 1) j = if j = k then c k - (L - d k) else raC kn d L c k j := by
  unfold raC
  by_cases e : j = k
  · subst e; rw [if_pos ⟨by omega, h⟩, if_pos rfl]
  · rw [if_neg e]
    by_cases h : j < k ∧ kn j = true
    · rw [if_pos h, if_pos ⟨by omega, h.2⟩]
    · rw [if_neg h, if_neg (fun h' => h ⟨by omega, h'.2⟩)]
theorem raC_no {kn : Nat → Bool} {d : Nat → Int} {L : Int} {c : Nat → Int} {k : Nat} (h : kn k = false) (j : Nat) : raC kn d L c (k + 1) j = raC kn d L c k j := by
  unfold raC
  by_cases e : j = k
  · subst e; rw [if_neg (fun h' => by rw [h] at h'; exact absurd h'.2 (by decide)), if_neg (by omega)]
  · by_cases h : j < k ∧ kn j = true
    · rw [if_pos h, if_pos ⟨by omega, h.2⟩]
    · rw [if_neg h, if_neg (fun h' => h ⟨by omega, h'.2⟩)]
theorem raC_self (kn : Nat → Bool) (d : Nat → Int) (L : Int) (c : Nat → Int) (k : Nat) : raC kn d L c k k = c k := by unfold raC; rw [if_neg (by omega)]
theorem raC_zero (kn : Nat → Bool) (d : Nat → Int) (L : Int) (c : Nat → Int) (j : Nat) : raC kn d L c 0 j = c j := by unfold raC; rw [if_neg (by omega)]

set_option maxRecDepth 100000 in
set_option maxHeartbeats 8000000 in
theorem raise_c (Sb gR gC gO gD gB gK m n row : Nat) (A : Option Addr) (cm : Nat) (r c o d : Nat → Int) (kn : Nat → Bool) (L : Int) (w : World)
    (hm : m ≤ 1000) (hn : n ≤ 1000000) (hrow : row < m) (hS : w.heap[Sb]? = some (searchO A cm gR gC gO m n))
    (hR : IR w gR m r) (hC : IR w gC n c) (hO : IR w gO n o) (hD : IR w gD n d) (hK : BR w gK n kn)
    (hne : gR ≠ gC ∧ gR ≠ gO ∧ gR ≠ gD ∧ gR ≠ gK ∧ gR ≠ Sb ∧ gC ≠ gO ∧ gC ≠ gD ∧ gC ≠ gK ∧ gC ≠ Sb)
    (hr : -1000000000000 ≤ r row ∧ r row ≤ 1000000000000) (hL : -1000000000000 ≤ L ∧ L ≤ 1000000000000)
    (hc : ∀ k, k < n → kn k = true → (-1000000000000 ≤ c k ∧ c k ≤ 1000000000000) ∧ (-1000000000000 ≤ d k ∧ d k ≤ 1000000000000) ∧ (∃ i : Nat, i < m ∧ o k = (i : Int)) ∧
      -1000000000000 ≤ raR row kn o d L r k (o k).toNat ∧ raR row kn o d L r k (o k).toNat ≤ 1000000000000) :
    Calls Try.prog 56 #[.pointer (some ⟨Sb, 0, none⟩), wayV gD gB gK n, .int .i64 (row : Int), .int .i64 L] w fun e w' => (∃ v, e = .returned v) ∧
      IR w' gR m (raR row kn o d L r n) ∧ IR w' gC n (raC kn d L c n) ∧ Kp (fun k => k = gR ∨ k = gC) w w' := by
  obtain ⟨W1, hW1⟩ : ∃ W : World, w.alloc (.cells #[.slice (some ⟨gD, 0, none⟩) n n, .slice (some ⟨gB, 0, none⟩) n n, .slice (some ⟨gK, 0, none⟩) n n] 86) = W := ⟨_, rfl⟩
  have hb1 : Below w.heap.size w W1 := by rw [← hW1]; exact (Below.refl _ _).alloc (Nat.le_refl _) _
  have hbox : W1.heap[w.heap.size]? = some (.cells #[.slice (some ⟨gD, 0, none⟩) n n, .slice (some ⟨gB, 0, none⟩) n n, .slice (some ⟨gK, 0, none⟩) n n] 86) := by rw [← hW1]; exact heap_newM _ _
  obtain ⟨n1, n2, n3, n4, n5, n6, n7, n8, n9⟩ := hne
  have zR := hR.lt
  have zC := hC.lt
  have zS : Sb < w.heap.size := (Array.getElem?_eq_some_iff.1 hS).1
  have hri : (row : Int) < (m : Int) := by omega
  have hS1 : W1.heap[Sb]? = some (searchO A cm gR gC gO m n) := (hb1.block Sb zS).trans hS
  have y1 : W1.cell? ⟨Sb, 1, none⟩ = some (.slice (some ⟨gR, 0, none⟩) m m) := by simp [World.cell?, hS1]
  have R1 := row_below hR hb1
  have y3 := R1.cell hrow
  have y4 := R1.frozen row
  have q0 := wrap_in (q := r row + L) (by omega) (by omega)
  have yK : W1.cell? ⟨w.heap.size, 2, none⟩ = some (.slice (some ⟨gK, 0, none⟩) n n) := by simp [World.cell?, hbox]
  have R2 : IR (W1.setCell ⟨gR, row, none⟩ (.int .i64 (r row + L))) gR m (raR row kn o d L r 0) := row_congr (row_set R1 (r row + L)) (fun i _ => rfl)
  have P2 : Kp (fun k => k = gR ∨ k = gC) W1 (W1.setCell ⟨gR, row, none⟩ (.int .i64 (r row + L))) := (Kp.refl _ _).setCell (p := ⟨gR, row, none⟩) (.inl (.inl rfl)) _
  have HP := Lib.hid (And.intro hb1 (And.intro hbox (And.intro hS1 (And.intro (row_below hC hb1) (And.intro (row_below hO hb1) (And.intro (row_below hD hb1) (And.intro (row_below hK hb1) (And.intro R2 P2))))))))
  have HC := Lib.hid hc
  have KP1 := Lib.hid (Kp.of_below (ex := fun k => k = gR ∨ k = gC) hb1)
  clear hR hC hO hD hK hS hc hb1 hbox R1 hS1 R2 P2
  go_enter Try.func56, Try.ntmps56
  go_wp2_with fail
  try rw [hW1]
  go_wp2_with fail
  go_loopw [23] (fun i wr => ∃ k : Nat, k ≤ n ∧ i = .int .i64 (k : Int) ∧ IR wr gR m (raR row kn o d L r k) ∧ IR wr gC n (raC kn d L c k) ∧ Kp (fun k => k = gR ∨ k = gC) W1 wr) (fun i _ => n - (intOf i).toNat)
  case atStart => exact ⟨0, Nat.zero_le _, rfl, HP.out.2.2.2.2.2.2.2.1, (row_congr (HP.out.2.2.2.1.setOther (a := ⟨gR, row, none⟩) (Ne.symm n1) _) (fun j _ => (raC_zero kn d L c j).symm)), HP.out.2.2.2.2.2.2.2.2⟩
  case round =>
    obtain ⟨k, hk, rfl, hR, hC, hkp⟩ := hrel
    have hbx := hkp.heap HP.out.2.1 (show ¬ (w.heap.size = gR ∨ w.heap.size = gC) by omega)
    have hSS := hkp.heap HP.out.2.2.1 (show ¬ (Sb = gR ∨ Sb = gC) by omega)
    have hO := hkp.row HP.out.2.2.2.2.1 (show ¬ (gO = gR ∨ gO = gC) by omega)
    have hD := hkp.row HP.out.2.2.2.2.2.1 (show ¬ (gD = gR ∨ gD = gC) by omega)
    have hKn := hkp.row HP.out.2.2.2.2.2.2.1 (show ¬ (gK = gR ∨ gK = gC) by omega)
    have HH := Lib.hid (And.intro hR (And.intro hC hkp))
    by_cases hkn : k < n
    · have hki : (k : Int) < (n : Int) := by omega
      have q3 := wrap_in (q := (k : Int) + 1) (by omega) (by omega)
      have xk := hKn.cell hkn
      have HCk := Lib.hid (HC.out k hkn)
      cases hkk : kn k
      · rw [hkk] at xk
        have U1 := fun i => raR_no (row := row) (o := o) (d := d) (L := L) (r := r) hkk i
        have U2 := fun j => raC_no (d := d) (L := L) (c := c) hkk j
        have UU := Lib.hid (And.intro U1 U2)
        clear hbx hSS hR hC hO hD hKn hkp hkk U1 U2
        go_wp2_with fail
        go_roundw
        case rel => exact ⟨k + 1, by omega, rfl, row_congr HH.out.1 (fun i _ => (UU.out.1 i).symm), row_congr HH.out.2.1 (fun i _ => (UU.out.2 i).symm), HH.out.2.2⟩
        case measure => simp [intOf]; omega
      · rw [hkk] at xk
        obtain ⟨⟨c1, c2⟩, ⟨d1, d2⟩, ⟨i, him, hoi⟩, r1, r2⟩ := HCk.out hkk
        have U1 := fun i => raR_yes (row := row) (o := o) (d := d) (L := L) (r := r) hkk i
        have U2 := fun j => raC_yes (d := d) (L := L) (c := c) hkk j
        have xo := hO.cell hkn
        rw [hoi] at xo
        rw [hoi, Int.toNat_natCast] at r1 r2 U1
        have UU := Lib.hid (And.intro U1 U2)
        have xd := hD.cell hkn
        have xc := hC.cell hkn
        rw [raC_self] at xc
        have xr := hR.cell him
        have fr := hR.frozen i
        have fc := hC.frozen k
        have s1 : wr.cell? ⟨Sb, 1, none⟩ = some (.slice (some ⟨gR, 0, none⟩) m m) := by simp [World.cell?, hSS]
        have s2 : wr.cell? ⟨Sb, 2, none⟩ = some (.slice (some ⟨gC, 0, none⟩) n n) := by simp [World.cell?, hSS]
        have s3 : wr.cell? ⟨Sb, 3, none⟩ = some (.slice (some ⟨gO, 0, none⟩) n n) := by simp [World.cell?, hSS]
        have b0 : wr.cell? ⟨w.heap.size, 0, none⟩ = some (.slice (some ⟨gD, 0, none⟩) n n) := by simp [World.cell?, hbx]
        have n10 : gR ≠ w.heap.size := by omega
        have n11 : gC ≠ w.heap.size := by omega
        have hii : (i : Int) < (m : Int) := by omega
        obtain ⟨rk, hrk⟩ : ∃ q, raR row kn o d L r k i = q := ⟨_, rfl⟩
        rw [hrk] at r1 r2 xr
        have q1 := wrap_in (q := L - d k) (by omega) (by omega)
        have q2 := wrap_in (q := rk + (L - d k)) (by omega) (by omega)
        have q4 := wrap_in (q := c k - (L - d k)) (by omega) (by omega)
        have RK := Lib.hid hrk
        clear hbx hSS hR hC hO hD hKn hkp hkk U1 U2 hrk hoi r1 r2 c1 c2 d1 d2
        go_wp2_with fail
        go_region
        go_wp2_with fail
        go_region
        go_wp2_with fail
        have R1 := row_set HH.out.1 (k := i) (rk + (L - d k))
        have C1 := row_set (HH.out.2.1.setOther (a := ⟨gR, i, none⟩) (Ne.symm n1) (.int .i64 (rk + (L - d k)))) (k := k) (c k - (L - d k))
        have P1 := (HH.out.2.2.setCell (p := ⟨gR, i, none⟩) (.inl (.inl rfl)) (.int .i64 (rk + (L - d k)))).setCell (p := ⟨gC, k, none⟩) (.inl (.inr rfl)) (.int .i64 (c k - (L - d k)))
        go_roundw
        case rel =>
          refine ⟨k + 1, by omega, rfl, ?_, ?_, ?_⟩
          · refine row_congr (f := fun j => if j = i then rk + (L - d k) else raR row kn o d L r k j) ?_ (fun j _ => by rw [UU.out.1 j, RK.out])
            exact (World.rowIs.setOther R1 (a := ⟨gC, k, none⟩) n1 _).drew
          · refine row_congr ?_ (fun j _ => (UU.out.2 j).symm)
            exact C1.drew
          · exact P1.drew.drew
        case measure => simp [intOf]; omega
    · obtain rfl : k = n := by omega
      have hki : ¬ (k : Int) < (k : Int) := by omega
      clear hbx hSS hR hC hO hD hKn hkp
      go_wp2_with fail
      go_end0
      exact ⟨⟨_, rfl⟩, HH.out.1, HH.out.2.1, KP1.out.trans HH.out.2.2⟩
end Go.Proofs.Ytojgfpnecdngfaa
