/- DivMod and Gcd over texts. -/
import Derived.Test.YtnchodofgaaeeaaGreatDoorImP7
import Derived.Test.YtnchodofgaaeeaaGreatDoorImYt
namespace Go.Proofs.YtnchodofgaaeeaaGreatDoor
open Go Go.RowKit Go.Shelf

theorem nd_le {x y : Int} (h : x.natAbs ≤ y.natAbs) : nd x.natAbs ≤ nd y.natAbs := Im.nd_mono bb2 h
theorem nd_dvQ (x y : Int) (_h0 : y ≠ 0) : nd (dvQ x y).natAbs ≤ nd x.natAbs + 1 := by
  have h1 : (dvQ x y).natAbs ≤ x.natAbs + 1 := by
    have := Int.natAbs_tdiv_le_natAbs x y
    unfold dvQ
    split <;> omega
  have h7 : Im.nd BB (x.natAbs + 1) ≤ Im.nd BB x.natAbs + 1 := by
    refine Im.nd_le bb2 ?_
    have := Im.lt_pow_nd bb2 x.natAbs
    rw [Nat.pow_succ]
    have : BB ^ Im.nd BB x.natAbs * 2 ≤ BB ^ Im.nd BB x.natAbs * BB := Nat.mul_le_mul_left _ bb2
    omega
  exact Nat.le_trans (Im.nd_mono bb2 h1) h7

def DmR (w : World) (E : Nat) (m1 m2 : Bool) (sx sy' : Option Addr) (l1 l2 cx cy' : Nat) (q r : Int) (A : World) : Prop :=
  Below w.heap.size w A ∧ A.heap[E]? = some (.cells #[.bool m1, .slice sx l1 cx] 80) ∧ A.heap[E + 1]? = some (.cells #[.bool m2, .slice sy' l2 cy'] 80) ∧ Num A (.agg #[.bool m1, .slice sx l1 cx]) q ∧ Num A (.agg #[.bool m2, .slice sy' l2 cy']) r
theorem DmR_up (w : World) (E : Nat) (m1 m2 : Bool) (sx sy' : Option Addr) (l1 l2 cx cy' : Nat) (q r : Int) (A B : World) (hb : Below A.heap.size A B) (h : DmR w E m1 m2 sx sy' l1 l2 cx cy' q r A) : DmR w E m1 m2 sx sy' l1 l2 cx cy' q r B :=
  ⟨h.1.trans (hb.mono h.1.size), (hb.block E (Array.getElem?_eq_some_iff.1 h.2.1).1).trans h.2.1, (hb.block (E + 1) (Array.getElem?_eq_some_iff.1 h.2.2.1).1).trans h.2.2.1, h.2.2.2.1.call hb, h.2.2.2.2.call hb⟩
def dmI (a b : Value) (q r : Int) : Nat → Value → World → Prop
  | 0, v, _ => v = a
  | 1, v, _ => v = .string (tz q)
  | 2, v, _ => v = b
  | 3, v, _ => v = .string (tz r)
  | 4, v, _ => v = .string (tz q)
  | 5, v, _ => v = .string (tz r)
  | 6, v, _ => v = .int .i64 0
  | _, _, _ => True
theorem dmI_up (a b : Value) (q r : Int) : ∀ (j : Nat) (v : Value) (A B : World), Below A.heap.size A B → dmI a b q r j v A → dmI a b q r j v B
  | 0, _, _, _, _, h => h
  | 1, _, _, _, _, h => h
  | 2, _, _, _, _, h => h
  | 3, _, _, _, _, h => h
  | 4, _, _, _, _, h => h
  | 5, _, _, _, _, h => h
  | 6, _, _, _, _, h => h
  | _ + 7, _, _, _, _, _ => trivial

set_option maxRecDepth 100000 in
set_option maxHeartbeats 4000000 in
theorem div_big (s t : ByteArray) (hs : Cn s) (ht : Cn t) (hb : (smallB s.data.toList && smallB t.data.toList) = false) (h0 : iv t ≠ 0) (w : World) (G : Gi w) :
    Calls Tryz.prog 39 #[.string s, .string t] w fun e w' => e = .returned (.tuple #[.string (tz (dvQ (iv s) (iv t))), .string (tz (dvR (iv s) (iv t))), .int .i64 0]) ∧ Below w.heap.size w w' := by
  have SG := Lib.hid (fun W => sign_c t ht W)
  have P := Lib.hid (fun W => pair_any s t (by have := hs.size; omega) (by have := ht.size; omega) W)
  rw [hb] at P
  have RA := Lib.hid (fun W => read_c s hs W)
  have RB := Lib.hid (fun W => read_c t ht W)
  have n1 := nd_iv hs
  have n2 := nd_iv ht
  have n3 := nd_dvQ (iv s) (iv t) h0
  have n4 := nd_le (Nat.le_of_lt (dvR_lt (iv s) (iv t) h0))
  have DV := Lib.hid (fun (u v : Value) (W : World) (hu : Num W u (iv s)) (hv : Num W v (iv t)) => divide_any u v (iv s) (iv t) W hu hv h0 (by omega) (by omega))
  have TX := Lib.hid (fun (u : Value) (z : Int) (W : World) (h : Num W u z) (hz : nd z.natAbs ≤ 200000) (G : Gi W) => text_any u z W h (by omega) G)
  have hsg : ¬ sgn (iv t) = 0 := fun e => h0 (sgn_zero.1 e)
  have N3 := Lib.hid (show nd (dvQ (iv s) (iv t)).natAbs ≤ 200000 by omega)
  have N4 := Lib.hid (show nd (dvR (iv s) (iv t)).natAbs ≤ 200000 by omega)
  clear hs ht hb n1 n2 n3 n4 h0
  generalize iv s = x at *
  generalize iv t = y at *
  generalize dvQ x y = q at *
  generalize dvR x y = r at *
  generalize sgn y = sy at *
  go_enter Tryz.func39, Tryz.ntmps39
  go_wp2_with fail
  refine (SG.out _).mono ?_
  rintro e w1 ⟨rfl, hb1⟩
  go_wp2_with fail
  refine (P.out _).mono ?_
  rintro e w2 ⟨rfl, hb2⟩
  have hb12 := hb1.trans (hb2.mono hb1.size)
  go_wp2_with fail
  refine (RA.out _).mono ?_
  rintro e w3 ⟨⟨v3, rfl, h3⟩, hb3⟩
  have hb13 := hb12.trans (hb3.mono hb12.size)
  go_wp2_with fail
  refine (RB.out _).mono ?_
  rintro e w4 ⟨⟨v4, rfl, h4⟩, hb4⟩
  have hb14 := hb13.trans (hb4.mono hb13.size)
  have h3' := h3.call hb4
  go_wp2_with fail
  refine (DV.out v3 v4 _ h3' h4).mono ?_
  rintro e w5 ⟨⟨v5, v6, rfl, h5, h6⟩, hb5⟩
  have hb15 := hb14.trans (hb5.mono hb14.size)
  obtain ⟨m1, X1, sx, cx, bx, ox, rfl, hx, hzx⟩ := num_open h5
  obtain ⟨m2, X2, sy', cy', by_, oy, rfl, hy, hzy⟩ := num_open h6
  generalize nd X1 = l1 at *
  generalize nd X2 = l2 at *
  go_wp2_with fail
  obtain ⟨E, hE⟩ : ∃ E, w5.heap.size = E := ⟨_, rfl⟩
  rw [hE]
  obtain ⟨W0, hW0⟩ : ∃ W0, ((w5.alloc (.cells #[.bool m1, .slice sx l1 cx] 80)).alloc (.cells #[.bool m2, .slice sy' l2 cy'] 80)) = W0 := ⟨_, rfl⟩
  have hbw : Below w5.heap.size w5 W0 := by rw [← hW0]; exact ((Below.refl _ _).alloc (by omega) _).alloc (by simp) _
  have HR := Lib.hid (show (DmR w E m1 m2 sx sy' l1 l2 cx cy' q r) W0 from ⟨hb15.trans (hbw.mono hb15.size), by rw [← hW0]; exact heap_up (heap_at hE.symm), by rw [← hW0]; exact heap_at (by simp [hE]), h5.call hbw, h6.call hbw⟩)
  rw [hW0]
  clear hW0 hbw h5 h6 hx hy hb15 hb14 hb13 hb12 hb1 hb2 hb3 hb4 hb5 h3 h3' h4 SG P RA RB DV hzx hzy hE
  refine wp_region_slots_at rfl rfl (fun base ys => ((((((base.set 57 (ys 0)).set 58 (ys 1)).set 59 (ys 2)).set 60 (ys 3)).set 4 (ys 4)).set 5 (ys 5)).set 6 (ys 6)) (BelowI _ (DmR w E m1 m2 sx sy' l1 l2 cx cy' q r) (dmI (.agg #[.bool m1, .slice sx l1 cx]) (.agg #[.bool m2, .slice sy' l2 cy']) q r)) (fun | 4 => .string ⟨#[]⟩ | 5 => .string ⟨#[]⟩ | 6 => .int .i64 0 | _ => undef) (by kernel_rfl) (below_start ((DmR_up w E m1 m2 sx sy' l1 l2 cx cy' q r) W0 W0.drew ⟨rfl, rfl, rfl, Nat.le_refl _, fun _ _ => rfl⟩ HR.out)) ?h
  case h =>
    intro F hF
    simp only [List.set_cons_succ, List.set_cons_zero] at hF
    subst hF
    refine ⟨rfl, ?_, ?_⟩
    refine ⟨?_, ?_⟩
    · refine SlotStep.below (DmR_up w E m1 m2 sx sy' l1 l2 cx cy' q r) (dmI_up (.agg #[.bool m1, .slice sx l1 cx]) (.agg #[.bool m2, .slice sy' l2 cy']) q r) ?_
      intro ys W hR hd K hK
      have c0 := cells_fst hR.2.1
      have c1 := cells_snd hR.2.1
      go_simp
      have hK2 := hK (.agg #[.bool m1, .slice sx l1 cx]) _ (Below.refl _ _) rfl
      simp (config := { decide := true }) only [upd, if_true, if_false] at hK2
      exact hK2
    refine ⟨?_, ?_⟩
    · refine SlotStep.below (DmR_up w E m1 m2 sx sy' l1 l2 cx cy' q r) (dmI_up (.agg #[.bool m1, .slice sx l1 cx]) (.agg #[.bool m2, .slice sy' l2 cy']) q r) ?_
      intro ys W hR hd K hK
      have d0 : ys 0 = (.agg #[.bool m1, .slice sx l1 cx]) := hd 0 (by kernel_rfl) (by decide)
      go_simp
      refine (TX.out _ q W hR.2.2.2.1 N3.out (G.below hR.1)).mono ?_
      rintro e w6 ⟨rfl, hb6⟩
      have hK2 := hK (.string (tz q)) _ hb6 rfl
      simp (config := { decide := true }) only [upd, if_true, if_false, d0] at hK2
      exact hK2
    refine ⟨?_, ?_⟩
    · refine SlotStep.below (DmR_up w E m1 m2 sx sy' l1 l2 cx cy' q r) (dmI_up (.agg #[.bool m1, .slice sx l1 cx]) (.agg #[.bool m2, .slice sy' l2 cy']) q r) ?_
      intro ys W hR hd K hK
      have c0 := cells_fst hR.2.2.1
      have c1 := cells_snd hR.2.2.1
      go_simp
      have hK2 := hK (.agg #[.bool m2, .slice sy' l2 cy']) _ (Below.refl _ _) rfl
      simp (config := { decide := true }) only [upd, if_true, if_false] at hK2
      exact hK2
    refine ⟨?_, ?_⟩
    · refine SlotStep.below (DmR_up w E m1 m2 sx sy' l1 l2 cx cy' q r) (dmI_up (.agg #[.bool m1, .slice sx l1 cx]) (.agg #[.bool m2, .slice sy' l2 cy']) q r) ?_
      intro ys W hR hd K hK
      have d2 : ys 2 = (.agg #[.bool m2, .slice sy' l2 cy']) := hd 2 (by kernel_rfl) (by decide)
      go_simp
      refine (TX.out _ r W hR.2.2.2.2 N4.out (G.below hR.1)).mono ?_
      rintro e w6 ⟨rfl, hb6⟩
      have hK2 := hK (.string (tz r)) _ hb6 rfl
      simp (config := { decide := true }) only [upd, if_true, if_false, d2] at hK2
      exact hK2
    refine ⟨?_, ?_⟩
    · refine SlotStep.below (DmR_up w E m1 m2 sx sy' l1 l2 cx cy' q r) (dmI_up (.agg #[.bool m1, .slice sx l1 cx]) (.agg #[.bool m2, .slice sy' l2 cy']) q r) ?_
      intro ys W hR hd K hK
      have d1 : ys 1 = (.string (tz q)) := hd 1 (by kernel_rfl) (by decide)
      go_simp
      have hK2 := hK (.string (tz q)) _ (Below.refl _ _) rfl
      simp (config := { decide := true }) only [upd, if_true, if_false, d1] at hK2
      exact hK2
    refine ⟨?_, ?_⟩
    · refine SlotStep.below (DmR_up w E m1 m2 sx sy' l1 l2 cx cy' q r) (dmI_up (.agg #[.bool m1, .slice sx l1 cx]) (.agg #[.bool m2, .slice sy' l2 cy']) q r) ?_
      intro ys W hR hd K hK
      have d3 : ys 3 = (.string (tz r)) := hd 3 (by kernel_rfl) (by decide)
      go_simp
      have hK2 := hK (.string (tz r)) _ (Below.refl _ _) rfl
      simp (config := { decide := true }) only [upd, if_true, if_false, d3] at hK2
      exact hK2
    refine ⟨?_, ?_⟩
    · refine SlotStep.below (DmR_up w E m1 m2 sx sy' l1 l2 cx cy' q r) (dmI_up (.agg #[.bool m1, .slice sx l1 cx]) (.agg #[.bool m2, .slice sy' l2 cy']) q r) ?_
      intro ys W hR hd K hK
      go_simp
      have hK2 := hK (.int .i64 0) _ (Below.refl _ _) rfl
      simp (config := { decide := true }) only [upd, if_true, if_false] at hK2
      exact hK2
    trivial
    · intro L ys W hL hI
      obtain ⟨hR, hj⟩ := hI
      have y4 : ys 4 = .string (tz q) := hj 4 (by decide) (hL 4 (by decide))
      have y5 : ys 5 = .string (tz r) := hj 5 (by decide) (hL 5 (by decide))
      have y6 : ys 6 = .int .i64 0 := hj 6 (by decide) (hL 6 (by decide))
      have hw := hR.1
      clear hR hj
      simp only [y4, y5, y6]
      go_wp2
      exact bodyPost_ret (v := .tuple #[.string (tz q), .string (tz r), .int .i64 0]) (by simp [results, Tryz.results39, go_sem]) rfl ⟨rfl, hw⟩
theorem div_c (s t : ByteArray) (hs : Cn s) (ht : Cn t) (h0 : iv t ≠ 0) (w : World) (G : Gi w) :
    Calls Tryz.prog 39 #[.string s, .string t] w fun e w' => e = .returned (.tuple #[.string (tz (dvQ (iv s) (iv t))), .string (tz (dvR (iv s) (iv t))), .int .i64 0]) ∧ Below w.heap.size w w' := by
  cases hb : (smallB s.data.toList && smallB t.data.toList) with
  | true => exact div_few s t hs ht hb h0 w G
  | false => exact div_big s t hs ht hb h0 w G

set_option maxRecDepth 100000 in
set_option maxHeartbeats 4000000 in
theorem gcd_few (s t : ByteArray) (hs : Cn s) (ht : Cn t) (hb : (smallB s.data.toList && smallB t.data.toList) = true) (w : World) (G : Gi w) :
    Calls Tryz.prog 41 #[.string s, .string t] w fun e w' => e = .returned (.string (tz (Int.gcd (iv s) (iv t) : Nat))) ∧ Below w.heap.size w w' := by
  have P := Lib.hid (fun W => pair_any s t (by have := hs.size; omega) (by have := ht.size; omega) W)
  rw [hb] at P
  rw [Bool.and_eq_true] at hb
  obtain ⟨e1, a1, b1⟩ := small_iv hb.1
  obtain ⟨e2, a2, b2⟩ := small_iv hb.2
  rw [e1, e2] at P
  clear hs ht hb e1 e2
  generalize iv s = x at *
  generalize iv t = y at *
  obtain ⟨g, hg⟩ : ∃ g : Nat, Int.gcd x y = g := ⟨_, rfl⟩
  rw [hg]
  have OF := Lib.hid (fun (n : Int) (h1 : -4000000000000000000 ≤ n) (h2 : n ≤ 4000000000000000000) W G => of_any n (by omega) (by omega) W G)
  have H0 := Lib.hid hg
  have GG := Lib.hid (fun (a b : Int) (h0 : b ≠ 0) (h : Int.gcd a b = g) => show Int.gcd b (a.tmod b) = g by rw [← h, Int.gcd_comm a b]; exact gcd_tmod a b)
  clear hg
  obtain ⟨D, hD⟩ : ∃ D, w.heap.size = D := ⟨_, rfl⟩
  go_enter Tryz.func41, Tryz.ntmps41
  go_wp2_with fail
  refine (P.out _).mono ?_
  rintro e w1 ⟨rfl, hb1⟩
  go_wp2_with fail
  go_loopw [5, 6] (fun a b wr => ∃ x' y' : Int, -1000000000000000000 < x' ∧ x' < 1000000000000000000 ∧ -1000000000000000000 < y' ∧ y' < 1000000000000000000 ∧ a = .int .i64 x' ∧ b = .int .i64 y' ∧ Int.gcd x' y' = g ∧ Below D w wr) (fun _ b _ => (intOf b).natAbs)
  case atStart => exact ⟨x, y, a1, b1, a2, b2, rfl, rfl, H0.out, by rw [← hD]; exact hb1⟩
  case round =>
    obtain ⟨x', y', p1, p2, p3, p4, rfl, rfl, hgc, hw⟩ := hrel
    by_cases hy0 : y' = 0
    · subst hy0
      have hx : (x'.natAbs : Int) = g := by rw [← hgc]; simp
      have hmx : max x' (-x') = (g : Int) := by omega
      have OO := Lib.hid (fun W G => OF.out (g : Int) (by omega) (by omega) W G)
      clear hgc hx
      have GW := G.below (hD ▸ hw)
      go_wp2_with fail
      refine (OO.out _ GW).mono ?_
      rintro e w2 ⟨rfl, hb2⟩
      go_wp2
      go_ret
      exact ⟨rfl, by rw [hD]; exact hw.trans (hb2.mono (by have := hw.size; omega))⟩
    · have ht : ((y' : Int) == 0) = false := by rw [beq_eq_false_iff_ne]; exact hy0
      have hGG := GG.out x' y' hy0 hgc
      have hr1 : (x'.tmod y').natAbs < y'.natAbs := by rw [Int.natAbs_tmod]; exact Nat.mod_lt _ (by omega)
      obtain ⟨r, hr⟩ : ∃ r, x'.tmod y' = r := ⟨_, rfl⟩
      rw [hr] at hGG hr1
      go_wp2
      go_quiet (fail)
      go_wp2
      exact ⟨⟨y', r, p3, p4, by omega, by omega, rfl, rfl, hGG, hw.trans ((drew_below _ _).mono (by have := hw.size; omega))⟩, hr1⟩

/-- The two magnitudes of the loop. -/
def GcR (w : World) (D g : Nat) (a b : Value) (W : World) : Prop := ∃ X Y : Nat, Mag W a X ∧ Mag W b Y ∧ nd X ≤ 250000 ∧ nd Y ≤ 250000 ∧ Nat.gcd X Y = g ∧ Below D w W
theorem row_unique {W : World} {sa : Option Addr} {n cap b o x cap' b' o' x' : Nat} (h : Row W sa n cap b o x) (h' : Row W sa n cap' b' o' x') : x = x' := by
  have hc : ∀ k, k < n → dg x k = dg x' k := fun k hk => by
    have e1 := h.at_ (by omega)
    have e2 := h'.at_ (by omega)
    rw [e1] at e2
    cases e2
    have c1 := h.cell k hk
    rw [h'.cell k hk] at c1
    have c2 : ((dg x' k : Nat) : Int) = ((dg x k : Nat) : Int) := by injection c1 with c1; injection c1
    omega
  have : ∀ d k, k + d = n → x / BB ^ k = x' / BB ^ k := by
    intro d
    induction d with
    | zero =>
      intro k hk
      obtain rfl : k = n := by omega
      rw [Nat.div_eq_of_lt h.fits, Nat.div_eq_of_lt h'.fits]
    | succ d ih =>
      intro k hk
      rw [div_dg x k, div_dg x' k, ih (k + 1) (by omega), hc k (by omega)]
  have h0 := this n 0 (by omega)
  rwa [Nat.pow_zero, Nat.div_one, Nat.div_one] at h0
theorem mag_unique {W : World} {v : Value} {x x' : Nat} (h : Mag W v x) (h' : Mag W v x') : x = x' := by
  obtain ⟨sa, cap, b, o, rfl, r⟩ := h
  obtain ⟨sa', cap', b', o', e, r'⟩ := h'
  injection e with e1 e2 e3
  subst e1
  rw [← e2] at r'
  exact row_unique r r'
open Classical in
noncomputable def magOf (W : World) (v : Value) : Nat := if h : ∃ x, Mag W v x then h.choose else 0
theorem magOf_is {W : World} {v : Value} {x : Nat} (h : Mag W v x) : magOf W v = x := by
  unfold magOf
  rw [dif_pos ⟨x, h⟩]
  exact mag_unique (Exists.choose_spec (⟨x, h⟩ : ∃ x, Mag W v x)) h
set_option maxRecDepth 100000 in
set_option maxHeartbeats 4000000 in
theorem gcd_big (s t : ByteArray) (hs : Cn s) (ht : Cn t) (hb : (smallB s.data.toList && smallB t.data.toList) = false) (w : World) (G : Gi w) :
    Calls Tryz.prog 41 #[.string s, .string t] w fun e w' => e = .returned (.string (tz (Int.gcd (iv s) (iv t) : Nat))) ∧ Below w.heap.size w w' := by
  have P := Lib.hid (fun W => pair_any s t (by have := hs.size; omega) (by have := ht.size; omega) W)
  rw [hb] at P
  have RA := Lib.hid (fun W => read_c s hs W)
  have RB := Lib.hid (fun W => read_c t ht W)
  have N1 := Lib.hid (nd_iv hs)
  have N2 := Lib.hid (nd_iv ht)
  clear hs ht hb
  generalize iv s = x at *
  generalize iv t = y at *
  obtain ⟨g, hg⟩ : ∃ g : Nat, Int.gcd x y = g := ⟨_, rfl⟩
  have H0 := Lib.hid hg
  rw [hg]
  clear hg
  obtain ⟨D, hD⟩ : ∃ D, w.heap.size = D := ⟨_, rfl⟩
  have FP : ∀ (W : World) (m1 : Bool) (sx : Option Addr) (n cx : Nat), Sem.run Tryz.prog (Instr.field 80 (.agg #[.bool m1, .slice sx n cx]) 1) W = .ok (.slice sx n cx) W := fun _ _ _ _ _ => by kernel_rfl
  go_enter Tryz.func41, Tryz.ntmps41
  go_wp2_with fail
  refine (P.out _).mono ?_
  rintro e w1 ⟨rfl, hb1⟩
  go_wp2_with fail
  refine (RA.out _).mono ?_
  rintro e w2 ⟨⟨v2, rfl, h2⟩, hb2⟩
  obtain ⟨m1, X, sx, cx, bx, ox, rfl, hx, hzx⟩ := num_open h2
  go_wp2_with fail
  refine (RB.out _).mono ?_
  rintro e w3 ⟨⟨v3, rfl, h3⟩, hb3⟩
  obtain ⟨m2, Y, sy, cy, by_, oy, rfl, hy, hzy⟩ := num_open h3
  have hx' := hx.below hb3 (Nat.le_refl _)
  have hb13 := (hb1.trans (hb2.mono hb1.size)).trans (hb3.mono (by have := hb1.size; have := hb2.size; omega))
  have HR := Lib.hid (show GcR w D g (.slice sx (nd X) cx) (.slice sy (nd Y) cy) w3 from ⟨X, Y, ⟨_, _, _, _, rfl, hx'⟩, ⟨_, _, _, _, rfl, hy⟩, by have := N1.out; rw [hzx, sv_abs] at this; omega, by have := N2.out; rw [hzy, sv_abs] at this; omega, by rw [← H0.out, hzx, hzy]; unfold Int.gcd; rw [sv_abs, sv_abs], hD ▸ hb13⟩)
  clear hb1 hb2 hb3 hb13 h2 h3 hx hy hx' hzx hzy N1 N2 H0 RA RB P
  generalize nd X = lx at *
  generalize nd Y = ly at *
  go_wp2_with fail
  go_loopw [8, 9] (fun a b wr => GcR w D g a b wr) (fun _ b wr => magOf wr b)
  case atStart => exact HR.out
  case round =>
    obtain ⟨X', Y', h1, h2, hn1, hn2, hgc, hw⟩ := hrel
    have GW := G.below (hD ▸ hw)
    obtain ⟨s1, c1, b1, o1, rfl, r1⟩ := h1
    obtain ⟨s2, c2, b2, o2, rfl, r2⟩ := h2
    by_cases hy0 : nd Y' = 0
    · obtain rfl := nd_pos_iff.1 hy0
      rw [hy0] at r2 ⊢
      have hg2 : X' = g := by rw [← hgc, Nat.gcd_zero_right]
      subst hg2
      have HN := Lib.hid (show Num wr (.agg #[.bool false, .slice s1 (nd X') c1]) (X' : Int) from num_mk (neg := false) r1)
      have TX := Lib.hid (text_any _ _ wr HN.out (by rw [Int.natAbs_natCast]; omega) GW)
      clear r1 r2 hn1 hn2 hgc hy0 HN FP
      generalize nd X' = lx' at *
      go_wp2_with fail
      refine TX.out.mono ?_
      rintro e w2 ⟨rfl, hb2⟩
      go_wp2
      go_ret
      exact ⟨rfl, by rw [hD]; exact hw.trans (hb2.mono (by have := hw.size; omega))⟩
    · have hY : 0 < Y' := Nat.pos_of_ne_zero (fun e => hy0 (nd_pos_iff.2 e))
      have DV := Lib.hid (divM_any s1 c1 b1 o1 X' s2 c2 b2 o2 Y' hY wr r1 r2 (by omega))
      have HMY := Lib.hid (magOf_is (W := wr) (v := .slice s2 (nd Y') c2) ⟨s2, c2, b2, o2, rfl, r2⟩)
      have HL := Lib.hid (Nat.mod_lt X' hY)
      have HM := Lib.hid (show Nat.gcd Y' (X' % Y') = g by rw [← hgc, Nat.gcd_comm X' Y', Nat.gcd_rec Y' X', Nat.gcd_comm])
      have HY := Lib.hid r2
      have HB := Lib.hid (And.intro hn2 (Nat.le_trans (Im.nd_mono bb2 (Nat.le_of_lt (Nat.mod_lt X' hY))) hn2))
      have hyi : (0 : Int) < (nd Y' : Int) := by omega
      have HS := Lib.hid hw
      clear r1 r2 hgc hy0 hn1 hn2 hY FP
      generalize hlx : nd X' = lx' at *
      generalize hly : nd Y' = ly' at *
      have HLY := Lib.hid hly
      clear hlx hly hw
      go_wp2_with fail
      refine DV.out.mono ?_
      rintro e w2 ⟨⟨v1, v2, rfl, hm1, hm2⟩, hb2⟩
      have HN := Lib.hid (show GcR w D g (.slice s2 ly' c2) v2 w2 from ⟨Y', X' % Y', ⟨s2, c2, b2, o2, by rw [HLY.out], by rw [HLY.out]; exact HY.out.below hb2 (Nat.le_refl _)⟩, hm2, by rw [HLY.out]; exact HB.out.1, HB.out.2, HM.out, HS.out.trans (hb2.mono (by have := HS.out.size; omega))⟩)
      obtain ⟨s3, c3, b3, o3, rfl, r3⟩ := hm2
      have HMR := Lib.hid (magOf_is (W := w2) (v := .slice s3 (nd (X' % Y')) c3) ⟨s3, c3, b3, o3, rfl, r3⟩)
      obtain ⟨s4, c4, b4, o4, rfl, r4⟩ := hm1
      clear hb2 r3 r4
      generalize nd (X' % Y') = lr at *
      generalize nd (X' / Y') = lq at *
      go_wp2_with fail
      go_roundw
      case rel => exact HN.out
      case measure => rw [HMR.out, HMY.out]; exact HL.out
theorem gcd_c (s t : ByteArray) (hs : Cn s) (ht : Cn t) (w : World) (G : Gi w) :
    Calls Tryz.prog 41 #[.string s, .string t] w fun e w' => e = .returned (.string (tz (Int.gcd (iv s) (iv t) : Nat))) ∧ Below w.heap.size w w' := by
  cases hb : (smallB s.data.toList && smallB t.data.toList) with
  | true => exact gcd_few s t hs ht hb w G
  | false => exact gcd_big s t hs ht hb w G
end Go.Proofs.YtnchodofgaaeeaaGreatDoor
