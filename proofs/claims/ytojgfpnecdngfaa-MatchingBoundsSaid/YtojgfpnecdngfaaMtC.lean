/- extend: the ways go on from a row. -/
import Derived.Test.YtojgfpnecdngfaaMtB
namespace Go.Proofs.Ytojgfpnecdngfaa
open Go Go.RowKit

/-- The distances, and the columns before, when the first k columns are seen. -/
def exD (kn : Nat → Bool) (st d : Nat → Int) (k : Nat) : Nat → Int := fun j => if j < k ∧ kn j = false ∧ st j < d j then st j else d j
def exB (kn : Nat → Bool) (st d b : Nat → Int) (beh : Int) (k : Nat) : Nat → Int := fun j => if j < k ∧ kn j = false ∧ st j < d j then beh else b j
theorem exD_zero (kn : Nat → Bool) (st d : Nat → Int) (j : Nat) : exD kn st d 0 j = d j := by unfold exD; rw [if_neg (by omega)]
theorem exB_zero (kn : Nat → Bool) (st d b : Nat → Int) (beh : Int) (j : Nat) : exB kn st d b beh 0 j = b j := by unfold exB; rw [if_neg (by omega)]
theorem exD_yes {kn : Nat → Bool} {st d : Nat → Int} {k : Nat} (h1 : kn k = false) (h2 : st k < d k) (j : Nat) : exD kn st d (k + 1) j = if j = k then st k else exD kn st d k j := by
  unfold exD
  by_cases e : j = k
  · subst e; rw [if_pos rfl, if_pos ⟨by omega, h1, h2⟩]
  · rw [if_neg e]
    by_cases h : j < k ∧ kn j = false ∧ st j < d j
    · rw [if_pos h, if_pos ⟨by omega, h.2⟩]
    · rw [if_neg h, if_neg (fun h' => h ⟨by omega, h'.2⟩)]
theorem exB_yes {kn : Nat → Bool} {st d b : Nat → Int} {beh : Int} {k : Nat} (h1 : kn k = false) (h2 : st k < d k) (j : Nat) : exB kn st d b beh (k + 1) j = if j = k then beh else exB kn st d b beh k j := by
  unfold exB
  by_cases e : j = k
  · subst e; rw [if_pos rfl, if_pos ⟨by omega, h1, h2⟩]
  · rw [if_neg e]
    by_cases h : j < k ∧ kn j = false ∧ st j < d j
    · rw [if_pos h, if_pos ⟨by omega, h.2⟩]
    · rw [if_neg h, if_neg (fun h' => h ⟨by omega, h'.2⟩)]
theorem exD_no {kn : Nat → Bool} {st d : Nat → Int} {k : Nat} (h : ¬ (kn k = false ∧ st k < d k)) (j : Nat) : exD kn st d (k + 1) j = exD kn st d k j := by
  unfold exD
  by_cases e : j = k
  · subst e; rw [if_neg (fun h' => h h'.2), if_neg (by omega)]
  · by_cases h : j < k ∧ kn j = false ∧ st j < d j
    · rw [if_pos h, if_pos ⟨by omega, h.2⟩]
    · rw [if_neg h, if_neg (fun h' => h ⟨by omega, h'.2⟩)]
theorem exB_no {kn : Nat → Bool} {st d b : Nat → Int} {beh : Int} {k : Nat} (h : ¬ (kn k = false ∧ st k < d k)) (j : Nat) : exB kn st d b beh (k + 1) j = exB kn st d b beh k j := by
  unfold exB
  by_cases e : j = k
  · subst e; rw [if_neg (fun h' => h h'.2), if_neg (by omega)]
  · by_cases h : j < k ∧ kn j = false ∧ st j < d j
    · rw [if_pos h, if_pos ⟨by omega, h.2⟩]
    · rw [if_neg h, if_neg (fun h' => h ⟨by omega, h'.2⟩)]
theorem exD_self (kn : Nat → Bool) (st d : Nat → Int) (k : Nat) : exD kn st d k k = d k := by unfold exD; rw [if_neg (by omega)]
theorem row_set {w : World} {g n k : Nat} {f : Nat → Int} (h : IR w g n f) (v : Int) : IR (w.setCell ⟨g, k, none⟩ (.int .i64 v)) g n (fun j => if j = k then v else f j) :=
  (h.set k (.int .i64 v)).congr fun i _ => by by_cases e : i = k <;> simp [e]
theorem row_congr {w : World} {g n : Nat} {f f' : Nat → Int} (h : IR w g n f) (e : ∀ i, i < n → f i = f' i) : IR w g n f' := h.congr fun i hi => by rw [e i hi]


theorem heap_newM (X : World) (o : Obj) : (X.alloc o).heap[X.heap.size]? = some o := by show (X.heap.push o)[X.heap.size]? = _; simp
theorem hbox_cell {w : World} {b : Nat} {x y z : Value} {T : TypeId} (h : w.heap[b]? = some (.cells #[x, y, z] T)) : w.cell? ⟨b, 0, none⟩ = some x := by simp [World.cell?, h]
abbrev searchO (A : Option Addr) (cm gR gC gO m n : Nat) : Obj := .cells #[.slice A m cm, .slice (some ⟨gR, 0, none⟩) m m, .slice (some ⟨gC, 0, none⟩) n n, .slice (some ⟨gO, 0, none⟩) n n] 75

set_option maxRecDepth 100000 in
set_option maxHeartbeats 4000000 in
theorem extend_c (Sb gR gC gO gD gB gK m n row B : Nat) (A : Option Addr) (cm : Nat) (cost : Nat → Nat → Int) (r c d b : Nat → Int) (kn : Nat → Bool) (beh start bh : Int) (hbh : Hid (bh = beh)) (w : World)
    (hm : m ≤ 1000) (hn : n ≤ 1000000) (hrow : row < m) (hS : w.heap[Sb]? = some (searchO A cm gR gC gO m n)) (hT : Tb w B A m (fun _ => n) cost)
    (hR : IR w gR m r) (hC : IR w gC n c) (hD : IR w gD n d) (hB : IR w gB n b) (hK : BR w gK n kn)
    (hne : gD ≠ gB ∧ gD ≠ gC ∧ gB ≠ gC ∧ gD ≠ gK ∧ gB ≠ gK ∧ gD ≠ Sb ∧ gB ≠ Sb ∧ B ≤ gD ∧ B ≤ gB)
    (hst : (beh = -1 ∧ start = - r row) ∨ ∃ x : Nat, x < n ∧ beh = (x : Int) ∧ start = - r row + d x)
    (hr : -1000000000000 ≤ r row ∧ r row ≤ 1000000000000) (hs : -2000000000000 ≤ start ∧ start ≤ 2000000000000)
    (hc : ∀ k, k < n → (-1000000000000 ≤ c k ∧ c k ≤ 1000000000000) ∧ -1000000000000 ≤ cost row k ∧ cost row k ≤ 1000000000000) :
    Calls Try.prog 53 #[.pointer (some ⟨Sb, 0, none⟩), wayV gD gB gK n, .int .i64 (row : Int), .int .i64 beh] w fun e w' => (∃ v, e = .returned v) ∧
      IR w' gD n (exD kn (fun k => start + cost row k - c k) d n) ∧ IR w' gB n (exB kn (fun k => start + cost row k - c k) d b bh n) ∧ Kp (fun k => k = gD ∨ k = gB) w w' := by
  obtain ⟨a, Ai, ci, rfl, hab, ha, hRd⟩ := hT row hrow
  dsimp only at ha hRd
  obtain ⟨W1, hW1⟩ : ∃ W : World, w.alloc (.cells #[.slice (some ⟨gD, 0, none⟩) n n, .slice (some ⟨gB, 0, none⟩) n n, .slice (some ⟨gK, 0, none⟩) n n] 86) = W := ⟨_, rfl⟩
  have hb1 : Below w.heap.size w W1 := by rw [← hW1]; exact (Below.refl _ _).alloc (Nat.le_refl _) _
  have hbox : W1.heap[w.heap.size]? = some (.cells #[.slice (some ⟨gD, 0, none⟩) n n, .slice (some ⟨gB, 0, none⟩) n n, .slice (some ⟨gK, 0, none⟩) n n] 86) := by rw [← hW1]; exact heap_newM _ _
  have zlt : w.heap.size < W1.heap.size := by rw [← hW1]; simp
  obtain ⟨n1, n2, n3, n4, n5, n6, n7, n8, n9⟩ := hne
  have zD := hD.lt
  have zB := hB.lt
  have zS : Sb < w.heap.size := (Array.getElem?_eq_some_iff.1 hS).1
  have HS := Lib.hid hS
  have hri : (row : Int) < (m : Int) := by omega
  have y0 : W1.cell? ⟨Sb, 0, none⟩ = some (.slice (some a) m cm) := by rw [hb1.cell (p := ⟨Sb, 0, none⟩) zS]; simp [World.cell?, hS]
  have y1 : W1.cell? ⟨Sb, 1, none⟩ = some (.slice (some ⟨gR, 0, none⟩) m m) := by rw [hb1.cell (p := ⟨Sb, 1, none⟩) zS]; simp [World.cell?, hS]
  have y3 := (row_below hR hb1).cell hrow
  have y4 : W1.cell? (a.add row) = some (.slice Ai n ci) := (hb1.cell (p := a.add row) (by rw [block_add]; omega)).trans ha
  have HP := Lib.hid (And.intro (hb1) (And.intro hbox (And.intro zlt (And.intro (hT.below hb1 (by omega)) (And.intro (row_below hR hb1) (And.intro (row_below hC hb1) (And.intro (row_below hD hb1) (And.intro (row_below hB hb1) (row_below hK hb1)))))))))
  have HC := Lib.hid hc
  have HRD := Lib.hid hRd
  have ST : Hid ((beh = -1 ∧ start = - r row) ∨ ∃ x : Nat, x < n ∧ beh = (x : Int) ∧ start = - r row + d x) := Lib.hid hst
  have KP1 := Lib.hid (Kp.of_below (ex := fun k => k = gD ∨ k = gB) hb1)
  clear hR hC hD hB hK hS hT hc ha hRd hb1 hbox
  rcases hst with ⟨rfl, hsx⟩ | ⟨x, hx, rfl, hsx⟩
  case' inl =>
    have q0 : IntKind.i64.wrap (- r row) = start := by rw [hsx]; exact wrap_in (by omega) (by omega)
    clear hsx
  case' inr =>
    have c5 := HP.out.2.2.2.2.2.2.1.cell hx
    have cb0 := hbox_cell HP.out.2.1
    have hxi : (x : Int) < (n : Int) := by omega
    have hxne : ((x : Int) != -1) = true := by simp
    have q0 := wrap_in (q := - r row) (by omega) (by omega)
    have q5 : IntKind.i64.wrap (- r row + d x) = start := by rw [← hsx]; exact wrap_in (by omega) (by omega)
    clear hsx
  all_goals
    have HR0 := Lib.hid hr
    clear hr
    go_enter Try.func53, Try.ntmps53
    go_wp2_with fail
    try rw [hW1]
    go_loopw [37] (fun i wr => ∃ k : Nat, k ≤ n ∧ i = .int .i64 (k : Int) ∧ IR wr gD n (exD kn (fun k => start + cost row k - c k) d k) ∧ IR wr gB n (exB kn (fun k => start + cost row k - c k) d b bh k) ∧ Kp (fun k => k = gD ∨ k = gB) W1 wr) (fun i _ => n - (intOf i).toNat)
    case atStart => exact ⟨0, Nat.zero_le _, rfl, row_congr HP.out.2.2.2.2.2.2.1 fun i _ => (exD_zero _ _ _ i).symm, row_congr HP.out.2.2.2.2.2.2.2.1 fun i _ => (exB_zero _ _ _ _ _ i).symm, Kp.refl _ _⟩
    case round =>
      obtain ⟨k, hk, rfl, hD, hB, hkp⟩ := hrel
      have hbx := hkp.heap HP.out.2.1 (show ¬ (w.heap.size = gD ∨ w.heap.size = gB) by omega)
      have hSS := hkp.heap ((HP.out.1.block Sb zS).trans HS.out) (show ¬ (Sb = gD ∨ Sb = gB) by omega)
      have hC := hkp.row HP.out.2.2.2.2.2.1 (show ¬ (gC = gD ∨ gC = gB) by omega)
      have hKn := hkp.row HP.out.2.2.2.2.2.2.2.2 (show ¬ (gK = gD ∨ gK = gB) by omega)
      have hT2 := HP.out.2.2.2.1.kp hkp (by have := HP.out.1.size; omega) (fun k hk => by omega)
      have HH := Lib.hid (And.intro hD (And.intro hB hkp))
      have zDr := hD.lt
      have zBr := hB.lt
      have zbx := (Array.getElem?_eq_some_iff.1 hbx).1
      by_cases hkn : k < n
      · have hki : (k : Int) < (n : Int) := by omega
        obtain ⟨a', Ai', ci', e1, _, e2, hRd'⟩ := hT2 row hrow
        have HQ := HRD.out k hkn
        obtain ⟨b1, rfl, hb1b, hb1c⟩ := HQ
        have x0 : wr.cell? (b1.add k) = some (.int .i64 (cost row k)) := by
          have := (World.cell?_of_block (w := W1) (a := b1.add k) (hkp.block _ (by rw [block_add]; have := HP.out.1.size; omega) (by rw [block_add]; omega)))
          rw [this, HP.out.1.cell (p := b1.add k) (by rw [block_add]; omega)]
          exact hb1c
        have x1 : wr.cell? ⟨Sb, 2, none⟩ = some (.slice (some ⟨gC, 0, none⟩) n n) := by simp [World.cell?, hSS]
        have x2 := hC.cell hkn
        have x3 := hD.cell hkn
        have x4 := hB.cell hkn
        have x5 := hD.frozen k
        have x6 := hB.frozen k
        have x7 : wr.cell? ⟨w.heap.size, 0, none⟩ = some (.slice (some ⟨gD, 0, none⟩) n n) := by simp [World.cell?, hbx]
        have x8 : wr.cell? ⟨w.heap.size, 1, none⟩ = some (.slice (some ⟨gB, 0, none⟩) n n) := by simp [World.cell?, hbx]
        have x9 : wr.cell? ⟨w.heap.size, 2, none⟩ = some (.slice (some ⟨gK, 0, none⟩) n n) := by simp [World.cell?, hbx]
        have hst' : ∃ sk, start + cost row k - c k = sk := ⟨_, rfl⟩
        obtain ⟨sk, hsk⟩ := hst'
        have hck := HC.out k hkn
        have q1 := wrap_in (q := start + cost row k) (by omega) (by omega)
        have q2 : IntKind.i64.wrap (start + cost row k - c k) = sk := by rw [← hsk]; exact wrap_in (by omega) (by omega)
        have q3 := wrap_in (q := (k : Int) + 1) (by omega) (by omega)
        have SK := Lib.hid (show (fun k => start + cost row k - c k) k = sk from hsk)
        rw [exD_self] at x3
        have HN := Lib.hid (And.intro hs hck)
        clear hbx hSS hC hD hB hkp hT2 hsk hs hck e1 e2 hRd' hb1c
        cases hkk : kn k
        · have KK := Lib.hid hkk
          have FR2 := Lib.hid (show ∀ W, BR W gK n kn → Calls Try.prog 55 #[wayV gD gB gK n, .int .i64 (k : Int)] W fun e w' => e = .returned (.bool true) ∧ Below W.heap.size W w' from fun W h => by have := free_c gD gB gK n k kn W hkn hn h; rw [hkk] at this; exact this)
          have HKn := Lib.hid hKn
          clear hkk hKn
          by_cases hlt : sk < d k
          · go_wp2_with (first | (go_at_call 55; refine (FR2.out _ HKn.out).mono ?_; rintro e w1 ⟨rfl, hb1⟩; have m3 := (hb1.cell (p := ⟨gD, k, none⟩) zDr).trans x3; have m4 := (hb1.cell (p := ⟨gB, k, none⟩) zBr).trans x4; have m5 := (hb1.frozen (p := ⟨gD, k, none⟩) zDr).trans x5; have m6 := (hb1.frozen (p := ⟨gB, k, none⟩) zBr).trans x6; have m7 := (hb1.cell (p := ⟨w.heap.size, 0, none⟩) zbx).trans x7; have m8 := (hb1.cell (p := ⟨w.heap.size, 1, none⟩) zbx).trans x8))
            go_region
            all_goals
              go_wp2
              have D1 := row_below HH.out.1 hb1
              have B1 := row_below HH.out.2.1 hb1
              have P1 := HH.out.2.2.trans (Kp.of_below hb1)
              have U1 := fun i => (exD_yes (kn := kn) (st := fun k => start + cost row k - c k) (d := d) KK.out (by rw [SK.out]; exact hlt) i)
              have U2 := fun i => (exB_yes (kn := kn) (st := fun k => start + cost row k - c k) (d := d) (b := b) (beh := bh) KK.out (by rw [SK.out]; exact hlt) i)
              rw [SK.out, hbh.out] at *
              go_roundw
              case rel =>
                refine ⟨k + 1, by omega, rfl, ?_, ?_, ?_⟩
                · refine row_congr ?_ (fun i _ => (U1 i).symm)
                  first | exact ((row_set D1 sk).setOther (a := ⟨gB, k, none⟩) n1 _).drew | exact (row_set (World.rowIs.setOther D1 (a := ⟨gB, k, none⟩) n1 _) sk).drew
                · refine row_congr ?_ (fun i _ => (U2 i).symm)
                  first | exact ((row_set B1 _).setOther (a := ⟨gD, k, none⟩) (Ne.symm n1) _).drew | exact (row_set (World.rowIs.setOther B1 (a := ⟨gD, k, none⟩) (Ne.symm n1) _) _).drew
                · first | exact ((P1.setCell (p := ⟨gD, k, none⟩) (.inl (.inl rfl)) _).setCell (p := ⟨gB, k, none⟩) (.inl (.inr rfl)) _).drew | exact ((P1.setCell (p := ⟨gB, k, none⟩) (.inl (.inr rfl)) _).setCell (p := ⟨gD, k, none⟩) (.inl (.inl rfl)) _).drew
              case measure => simp [intOf]; omega
          · go_wp2_with (first | (go_at_call 55; refine (FR2.out _ HKn.out).mono ?_; rintro e w1 ⟨rfl, hb1⟩; have m3 := (hb1.cell (p := ⟨gD, k, none⟩) zDr).trans x3; have m7 := (hb1.cell (p := ⟨w.heap.size, 0, none⟩) zbx).trans x7))
            have D1 := row_below HH.out.1 hb1
            have B1 := row_below HH.out.2.1 hb1
            have P1 := HH.out.2.2.trans (Kp.of_below hb1)
            have U1 := fun i => (exD_no (kn := kn) (st := fun k => start + cost row k - c k) (d := d) (k := k) (fun h => by have := h.2; rw [SK.out] at this; omega) i)
            have U2 := fun i => (exB_no (kn := kn) (st := fun k => start + cost row k - c k) (d := d) (b := b) (beh := bh) (k := k) (fun h => by have := h.2; rw [SK.out] at this; omega) i)
            go_roundw
            case rel => exact ⟨k + 1, by omega, rfl, row_congr D1 (fun i _ => (U1 i).symm), row_congr B1 (fun i _ => (U2 i).symm), P1⟩
            case measure => simp [intOf]; omega
        · have KK := Lib.hid hkk
          have FR2 := Lib.hid (show ∀ W, BR W gK n kn → Calls Try.prog 55 #[wayV gD gB gK n, .int .i64 (k : Int)] W fun e w' => e = .returned (.bool false) ∧ Below W.heap.size W w' from fun W h => by have := free_c gD gB gK n k kn W hkn hn h; rw [hkk] at this; exact this)
          have HKn := Lib.hid hKn
          clear hkk hKn
          go_wp2_with (first | (go_at_call 55; refine (FR2.out _ HKn.out).mono ?_; rintro e w1 ⟨rfl, hb1⟩; have m3 := (hb1.cell (p := ⟨gD, k, none⟩) zDr).trans x3; have m7 := (hb1.cell (p := ⟨w.heap.size, 0, none⟩) zbx).trans x7))
          have D1 := row_below HH.out.1 hb1
          have B1 := row_below HH.out.2.1 hb1
          have P1 := HH.out.2.2.trans (Kp.of_below hb1)
          have U1 := fun i => (exD_no (kn := kn) (st := fun k => start + cost row k - c k) (d := d) (k := k) (fun h => by have := KK.out; rw [h.1] at this; cases this) i)
          have U2 := fun i => (exB_no (kn := kn) (st := fun k => start + cost row k - c k) (d := d) (b := b) (beh := bh) (k := k) (fun h => by have := KK.out; rw [h.1] at this; cases this) i)
          go_roundw
          case rel => exact ⟨k + 1, by omega, rfl, row_congr D1 (fun i _ => (U1 i).symm), row_congr B1 (fun i _ => (U2 i).symm), P1⟩
          case measure => simp [intOf]; omega
      · obtain rfl : k = n := by omega
        have hki : ¬ (k : Int) < (k : Int) := by omega
        clear hbx hSS hC hD hB hkp hT2
        go_wp2_with fail
        go_end0
        exact ⟨⟨_, rfl⟩, HH.out.1, HH.out.2.1, KP1.out.trans HH.out.2.2⟩
end Go.Proofs.Ytojgfpnecdngfaa
