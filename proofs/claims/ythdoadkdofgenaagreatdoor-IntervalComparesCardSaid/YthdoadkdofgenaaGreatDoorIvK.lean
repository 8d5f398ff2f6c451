/- DivMod and Gcd over texts. -/
import Derived.Test.YthdoadkdofgenaaGreatDoorImP7
import Derived.Test.YthdoadkdofgenaaGreatDoorImYt
import Derived.Test.YthdoadkdofgenaaGreatDoorIvH
import Derived.Test.YthdoadkdofgenaaGreatDoorImYs
namespace Go.Proofs.YthdoadkdofgenaaGreatDoor
open Go Go.RowKit Go.Shelf

theorem nd_le {x y : Int} (h : x.natAbs ≤ y.natAbs) : nd x.natAbs ≤ nd y.natAbs := Im.nd_mono bb2 h
theorem nd_dvQ (x y : Int) (_h0 : y ≠ 0) : nd (dvQ x y).natAbs ≤ nd x.natAbs + 1 := by
  have h1 : (dvQ x y).natAbs ≤ x.natAbs + 1 := by
    have := Int.natAbs_tdiv_le_natAbs x y
    unfold dvQ
    split <;> omega
  have h7 : Im.nd BB (x.natAbs + 1) ≤ Im.nd BB x.natAbs + 1 := by
    refine Im.nd_le bb2 ?_
    have := Im.lt_pow_nd bb2 x.natAbs
    rw [Nat.pow_succ]
    have : BB ^ Im.nd BB x.natAbs * 2 ≤ BB ^ Im.nd BB x.natAbs * BB := Nat.mul_le_mul_left _ bb2
    omega
  exact Nat.le_trans (Im.nd_mono bb2 h1) h7

def DmR (w : World) (E : Nat) (m1 m2 : Bool) (sx sy' : Option Addr) (l1 l2 cx cy' : Nat) (q r : Int) (A : World) : Prop :=
  Below w.heap.size w A ∧ A.heap[E]? = some (.cells #[.bool m1, .slice sx l1 cx] 106) ∧ A.heap[E + 1]? = some (.cells #[.bool m2, .slice sy' l2 cy'] 106) ∧ Num A (.agg #[.bool m1, .slice sx l1 cx]) q ∧ Num A (.agg #[.bool m2, .slice sy' l2 cy']) r
theorem DmR_up (w : World) (E : Nat) (m1 m2 : Bool) (sx sy' : Option Addr) (l1 l2 cx cy' : Nat) (q r : Int) (A B : World) (hb : Below A.heap.size A B) (h : DmR w E m1 m2 sx sy' l1 l2 cx cy' q r A) : DmR w E m1 m2 sx sy' l1 l2 cx cy' q r B :=
  ⟨h.1.trans (hb.mono h.1.size), (hb.block E (Array.getElem?_eq_some_iff.1 h.2.1).1).trans h.2.1, (hb.block (E + 1) (Array.getElem?_eq_some_iff.1 h.2.2.1).1).trans h.2.2.1, h.2.2.2.1.call hb, h.2.2.2.2.call hb⟩
def dmI (a b : Value) (q r : Int) : Nat → Value → World → Prop
  | 0, v, _ => v = a
  | 1, v, _ => v = .string (tz q)
  | 2, v, _ => v = b
  | 3, v, _ => v = .string (tz r)
  | 4, v, _ => v = .string (tz q)
  | 5, v, _ => v = .string (tz r)
  | 6, v, _ => v = .int .i64 0
  | _, _, _ => True
theorem dmI_up (a b : Value) (q r : Int) : ∀ (j : Nat) (v : Value) (A B : World), Below A.heap.size A B → dmI a b q r j v A → dmI a b q r j v B
  | 0, _, _, _, _, h => h
  | 1, _, _, _, _, h => h
  | 2, _, _, _, _, h => h
  | 3, _, _, _, _, h => h
  | 4, _, _, _, _, h => h
  | 5, _, _, _, _, h => h
  | 6, _, _, _, _, h => h
  | _ + 7, _, _, _, _, _ => trivial

set_option maxRecDepth 100000 in
set_option maxHeartbeats 4000000 in
theorem div_big (s t : ByteArray) (hs : Cn s) (ht : Cn t) (hb : (smallB s.data.toList && smallB t.data.toList) = false) (h0 : iv t ≠ 0) (w : World) (G : Gi w) :
    Calls Tryz.prog 73 #[.string s, .string t] w fun e w' => e = .returned (.tuple #[.string (tz (dvQ (iv s) (iv t))), .string (tz (dvR (iv s) (iv t))), .int .i64 0]) ∧ Below w.heap.size w w' := by
  have SG := Lib.hid (fun W => sign_c t ht W)
  have P := Lib.hid (fun W => pair_any s t (by have := hs.size; omega) (by have := ht.size; omega) W)
  rw [hb] at P
  have RA := Lib.hid (fun W => read_c s hs W)
  have RB := Lib.hid (fun W => read_c t ht W)
  have n1 := nd_iv hs
  have n2 := nd_iv ht
  have n3 := nd_dvQ (iv s) (iv t) h0
  have n4 := nd_le (Nat.le_of_lt (dvR_lt (iv s) (iv t) h0))
  have DV := Lib.hid (fun (u v : Value) (W : World) (hu : Num W u (iv s)) (hv : Num W v (iv t)) => divide_any u v (iv s) (iv t) W hu hv h0 (by omega) (by omega))
  have TX := Lib.hid (fun (u : Value) (z : Int) (W : World) (h : Num W u z) (hz : nd z.natAbs ≤ 200000) (G : Gi W) => text_any u z W h (by omega) G)
  have hsg : ¬ sgn (iv t) = 0 := fun e => h0 (sgn_zero.1 e)
  have N3 := Lib.hid (show nd (dvQ (iv s) (iv t)).natAbs ≤ 200000 by omega)
  have N4 := Lib.hid (show nd (dvR (iv s) (iv t)).natAbs ≤ 200000 by omega)
  clear hs ht hb n1 n2 n3 n4 h0
  generalize iv s = x at *
  generalize iv t = y at *
  generalize dvQ x y = q at *
  generalize dvR x y = r at *
  generalize sgn y = sy at *
  go_enter Tryz.func73, Tryz.ntmps73
  go_wp2_with fail
  refine (SG.out _).mono ?_
  rintro e w1 ⟨rfl, hb1⟩
  go_wp2_with fail
  refine (P.out _).mono ?_
  rintro e w2 ⟨rfl, hb2⟩
  have hb12 := hb1.trans (hb2.mono hb1.size)
  go_wp2_with fail
  refine (RA.out _).mono ?_
  rintro e w3 ⟨⟨v3, rfl, h3⟩, hb3⟩
  have hb13 := hb12.trans (hb3.mono hb12.size)
  go_wp2_with fail
  refine (RB.out _).mono ?_
  rintro e w4 ⟨⟨v4, rfl, h4⟩, hb4⟩
  have hb14 := hb13.trans (hb4.mono hb13.size)
  have h3' := h3.call hb4
  go_wp2_with fail
  refine (DV.out v3 v4 _ h3' h4).mono ?_
  rintro e w5 ⟨⟨v5, v6, rfl, h5, h6⟩, hb5⟩
  have hb15 := hb14.trans (hb5.mono hb14.size)
  obtain ⟨m1, X1, sx, cx, bx, ox, rfl, hx, hzx⟩ := num_open h5
  obtain ⟨m2, X2, sy', cy', by_, oy, rfl, hy, hzy⟩ := num_open h6
  generalize nd X1 = l1 at *
  generalize nd X2 = l2 at *
  go_wp2_with fail
  obtain ⟨E, hE⟩ : ∃ E, w5.heap.size = E := ⟨_, rfl⟩
  rw [hE]
  obtain ⟨W0, hW0⟩ : ∃ W0, ((w5.alloc (.cells #[.bool m1, .slice sx l1 cx] 106)).alloc (.cells #[.bool m2, .slice sy' l2 cy'] 106)) = W0 := ⟨_, rfl⟩
  have hbw : Below w5.heap.size w5 W0 := by rw [← hW0]; exact ((Below.refl _ _).alloc (by omega) _).alloc (by simp) _
  have HR := Lib.hid (show (DmR w E m1 m2 sx sy' l1 l2 cx cy' q r) W0 from ⟨hb15.trans (hbw.mono hb15.size), by rw [← hW0]; exact heap_up (heap_at hE.symm), by rw [← hW0]; exact heap_at (by simp [hE]), h5.call hbw, h6.call hbw⟩)
  rw [hW0]
  clear hW0 hbw h5 h6 hx hy hb15 hb14 hb13 hb12 hb1 hb2 hb3 hb4 hb5 h3 h3' h4 SG P RA RB DV hzx hzy hE
  refine wp_region_slots_at rfl rfl (fun base ys => ((((((base.set 57 (ys 0)).set 58 (ys 1)).set 59 (ys 2)).set 60 (ys 3)).set 4 (ys 4)).set 5 (ys 5)).set 6 (ys 6)) (BelowI _ (DmR w E m1 m2 sx sy' l1 l2 cx cy' q r) (dmI (.agg #[.bool m1, .slice sx l1 cx]) (.agg #[.bool m2, .slice sy' l2 cy']) q r)) (fun | 4 => .string ⟨#[]⟩ | 5 => .string ⟨#[]⟩ | 6 => .int .i64 0 | _ => undef) (by kernel_rfl) (below_start ((DmR_up w E m1 m2 sx sy' l1 l2 cx cy' q r) W0 W0.drew ⟨rfl, rfl, rfl, Nat.le_refl _, fun _ _ => rfl⟩ HR.out)) ?h
  case h =>
    intro F hF
    simp only [List.set_cons_succ, List.set_cons_zero] at hF
    subst hF
    refine ⟨rfl, ?_, ?_⟩
    refine ⟨?_, ?_⟩
    · refine SlotStep.below (DmR_up w E m1 m2 sx sy' l1 l2 cx cy' q r) (dmI_up (.agg #[.bool m1, .slice sx l1 cx]) (.agg #[.bool m2, .slice sy' l2 cy']) q r) ?_
      intro ys W hR hd K hK
      have c0 := cells_fst hR.2.1
      have c1 := cells_snd hR.2.1
      go_simp
      have hK2 := hK (.agg #[.bool m1, .slice sx l1 cx]) _ (Below.refl _ _) rfl
      simp (config := { decide := true }) only [upd, if_true, if_false] at hK2
      exact hK2
    refine ⟨?_, ?_⟩
    · refine SlotStep.below (DmR_up w E m1 m2 sx sy' l1 l2 cx cy' q r) (dmI_up (.agg #[.bool m1, .slice sx l1 cx]) (.agg #[.bool m2, .slice sy' l2 cy']) q r) ?_
      intro ys W hR hd K hK
      have d0 : ys 0 = (.agg #[.bool m1, .slice sx l1 cx]) := hd 0 (by kernel_rfl) (by decide)
      go_simp
      refine (TX.out _ q W hR.2.2.2.1 N3.out (G.below hR.1)).mono ?_
      rintro e w6 ⟨rfl, hb6⟩
      have hK2 := hK (.string (tz q)) _ hb6 rfl
      simp (config := { decide := true }) only [upd, if_true, if_false, d0] at hK2
      exact hK2
    refine ⟨?_, ?_⟩
    · refine SlotStep.below (DmR_up w E m1 m2 sx sy' l1 l2 cx cy' q r) (dmI_up (.agg #[.bool m1, .slice sx l1 cx]) (.agg #[.bool m2, .slice sy' l2 cy']) q r) ?_
      intro ys W hR hd K hK
      have c0 := cells_fst hR.2.2.1
      have c1 := cells_snd hR.2.2.1
      go_simp
      have hK2 := hK (.agg #[.bool m2, .slice sy' l2 cy']) _ (Below.refl _ _) rfl
      simp (config := { decide := true }) only [upd, if_true, if_false] at hK2
      exact hK2
    refine ⟨?_, ?_⟩
    · refine SlotStep.below (DmR_up w E m1 m2 sx sy' l1 l2 cx cy' q r) (dmI_up (.agg #[.bool m1, .slice sx l1 cx]) (.agg #[.bool m2, .slice sy' l2 cy']) q r) ?_
      intro ys W hR hd K hK
      have d2 : ys 2 = (.agg #[.bool m2, .slice sy' l2 cy']) := hd 2 (by kernel_rfl) (by decide)
      go_simp
      refine (TX.out _ r W hR.2.2.2.2 N4.out (G.below hR.1)).mono ?_
      rintro e w6 ⟨rfl, hb6⟩
      have hK2 := hK (.string (tz r)) _ hb6 rfl
      simp (config := { decide := true }) only [upd, if_true, if_false, d2] at hK2
      exact hK2
    refine ⟨?_, ?_⟩
    · refine SlotStep.below (DmR_up w E m1 m2 sx sy' l1 l2 cx cy' q r) (dmI_up (.agg #[.bool m1, .slice sx l1 cx]) (.agg #[.bool m2, .slice sy' l2 cy']) q r) ?_
      intro ys W hR hd K hK
      have d1 : ys 1 = (.string (tz q)) := hd 1 (by kernel_rfl) (by decide)
      go_simp
      have hK2 := hK (.string (tz q)) _ (Below.refl _ _) rfl
      simp (config := { decide := true }) only [upd, if_true, if_false, d1] at hK2
      exact hK2
    refine ⟨?_, ?_⟩
    · refine SlotStep.below (DmR_up w E m1 m2 sx sy' l1 l2 cx cy' q r) (dmI_up (.agg #[.bool m1, .slice sx l1 cx]) (.agg #[.bool m2, .slice sy' l2 cy']) q r) ?_
      intro ys W hR hd K hK
      have d3 : ys 3 = (.string (tz r)) := hd 3 (by kernel_rfl) (by decide)
      go_simp
      have hK2 := hK (.string (tz r)) _ (Below.refl _ _) rfl
      simp (config := { decide := true }) only [upd, if_true, if_false, d3] at hK2
      exact hK2
    refine ⟨?_, ?_⟩
    · refine SlotStep.below (DmR_up w E m1 m2 sx sy' l1 l2 cx cy' q r) (dmI_up (.agg #[.bool m1, .slice sx l1 cx]) (.agg #[.bool m2, .slice sy' l2 cy']) q r) ?_
      intro ys W hR hd K hK
      go_simp
      have hK2 := hK (.int .i64 0) _ (Below.refl _ _) rfl
      simp (config := { decide := true }) only [upd, if_true, if_false] at hK2
      exact hK2
    trivial
    · intro L ys W hL hI
      obtain ⟨hR, hj⟩ := hI
      have y4 : ys 4 = .string (tz q) := hj 4 (by decide) (hL 4 (by decide))
      have y5 : ys 5 = .string (tz r) := hj 5 (by decide) (hL 5 (by decide))
      have y6 : ys 6 = .int .i64 0 := hj 6 (by decide) (hL 6 (by decide))
      have hw := hR.1
      clear hR hj
      simp only [y4, y5, y6]
      go_wp2
      exact bodyPost_ret (v := .tuple #[.string (tz q), .string (tz r), .int .i64 0]) (by simp [results, Tryz.results73, go_sem]) rfl ⟨rfl, hw⟩
theorem div_c (s t : ByteArray) (hs : Cn s) (ht : Cn t) (h0 : iv t ≠ 0) (w : World) (G : Gi w) :
    Calls Tryz.prog 73 #[.string s, .string t] w fun e w' => e = .returned (.tuple #[.string (tz (dvQ (iv s) (iv t))), .string (tz (dvR (iv s) (iv t))), .int .i64 0]) ∧ Below w.heap.size w w' := by
  cases hb : (smallB s.data.toList && smallB t.data.toList) with
  | true => exact div_few s t hs ht hb h0 w G
  | false => exact div_big s t hs ht hb h0 w G

/-- The two magnitudes of the loop. -/
def GcR (w : World) (D g : Nat) (a b : Value) (W : World) : Prop := ∃ X Y : Nat, Mag W a X ∧ Mag W b Y ∧ nd X ≤ 250000 ∧ nd Y ≤ 250000 ∧ Nat.gcd X Y = g ∧ Below D w W
theorem row_unique {W : World} {sa : Option Addr} {n cap b o x cap' b' o' x' : Nat} (h : Row W sa n cap b o x) (h' : Row W sa n cap' b' o' x') : x = x' := by
  have hc : ∀ k, k < n → dg x k = dg x' k := fun k hk => by
    have e1 := h.at_ (by omega)
    have e2 := h'.at_ (by omega)
    rw [e1] at e2
    cases e2
    have c1 := h.cell k hk
    rw [h'.cell k hk] at c1
    have c2 : ((dg x' k : Nat) : Int) = ((dg x k : Nat) : Int) := by injection c1 with c1; injection c1
    omega
  have : ∀ d k, k + d = n → x / BB ^ k = x' / BB ^ k := by
    intro d
    induction d with
    | zero =>
      intro k hk
      obtain rfl : k = n := by omega
      rw [Nat.div_eq_of_lt h.fits, Nat.div_eq_of_lt h'.fits]
    | succ d ih =>
      intro k hk
      rw [div_dg x k, div_dg x' k, ih (k + 1) (by omega), hc k (by omega)]
  have h0 := this n 0 (by omega)
  rwa [Nat.pow_zero, Nat.div_one, Nat.div_one] at h0
theorem mag_unique {W : World} {v : Value} {x x' : Nat} (h : Mag W v x) (h' : Mag W v x') : x = x' := by
  obtain ⟨sa, cap, b, o, rfl, r⟩ := h
  obtain ⟨sa', cap', b', o', e, r'⟩ := h'
  injection e with e1 e2 e3
  subst e1
  rw [← e2] at r'
  exact row_unique r r'
open Classical in
noncomputable def magOf (W : World) (v : Value) : Nat := if h : ∃ x, Mag W v x then h.choose else 0
theorem magOf_is {W : World} {v : Value} {x : Nat} (h : Mag W v x) : magOf W v = x := by
  unfold magOf
  rw [dif_pos ⟨x, h⟩]
  exact mag_unique (Exists.choose_spec (⟨x, h⟩ : ∃ x, Mag W v x)) h
end Go.Proofs.YthdoadkdofgenaaGreatDoor
/- The contract of logarithm. -/
namespace Go.Proofs.YthdoadkdofgenaaGreatDoor
open Go Go.RowKit Go.Shelf

theorem con2_iv : iv ⟨#[49, 48, 48, 48, 48, 48, 48, 48, 48, 48, 48, 48, 48, 48, 48, 48, 48, 48, 48, 48, 48, 48, 48, 48, 48, 48, 48, 48, 48, 48, 48]⟩ = Iv.L2 := by unfold Iv.L2; decide +kernel
theorem con2_cn : Cn ⟨#[49, 48, 48, 48, 48, 48, 48, 48, 48, 48, 48, 48, 48, 48, 48, 48, 48, 48, 48, 48, 48, 48, 48, 48, 48, 48, 48, 48, 48, 48, 48]⟩ := ⟨by decide +kernel, by decide⟩
theorem con3_iv : iv ⟨#[49, 53, 56, 52, 57, 54, 50, 53, 48, 48, 55, 50, 49, 49, 53, 54, 49, 56, 49, 52, 53, 51, 55, 51, 56, 57, 52, 51, 57, 52, 55]⟩ = Iv.L3 := by unfold Iv.L3; decide +kernel
theorem con3_cn : Cn ⟨#[49, 53, 56, 52, 57, 54, 50, 53, 48, 48, 55, 50, 49, 49, 53, 54, 49, 56, 49, 52, 53, 51, 55, 51, 56, 57, 52, 51, 57, 52, 55]⟩ := ⟨by decide +kernel, by decide⟩
theorem con5_iv : iv ⟨#[50, 51, 50, 49, 57, 50, 56, 48, 57, 52, 56, 56, 55, 51, 54, 50, 51, 52, 55, 56, 55, 48, 51, 49, 57, 52, 50, 57, 52, 56, 57]⟩ = Iv.L5 := by unfold Iv.L5; decide +kernel
theorem con5_cn : Cn ⟨#[50, 51, 50, 49, 57, 50, 56, 48, 57, 52, 56, 56, 55, 51, 54, 50, 51, 52, 55, 56, 55, 48, 51, 49, 57, 52, 50, 57, 52, 56, 57]⟩ := ⟨by decide +kernel, by decide⟩
theorem lg_small {a L : Int} (ha : -1000000000 ≤ a ∧ a ≤ 1000000000) (hL : 0 ≤ L ∧ L ≤ 3000000000000000000000000000000) : (a * L).natAbs < 10 ^ 40 := by
  rw [Int.natAbs_mul]
  have h := Nat.mul_le_mul (show a.natAbs ≤ 1000000000 by omega) (show L.natAbs ≤ 3000000000000000000000000000000 by omega)
  exact Nat.lt_of_le_of_lt h (by decide)
theorem fit_tz {z : Int} (h : z.natAbs < 10 ^ 40) : fitB (tz z) = true := by
  have h1 := len_tz h (by decide)
  unfold fitB
  rw [canon_tz]
  simp
  omega
def lgI (D : Nat) (a b c : Int) : Nat → Value → World → Prop
  | 0, v, _ => v = .pointer (some ⟨D, 0, none⟩)
  | 1, v, _ => v = .pointer (some ⟨D, 0, none⟩)
  | 2, v, _ => v = .int .i64 a
  | 3, v, _ => v = .string (tz a)
  | 4, v, _ => v = .string (tz (a * Iv.L2))
  | 5, v, _ => v = .pointer (some ⟨D, 0, none⟩)
  | 6, v, _ => v = .pointer (some ⟨D, 1, none⟩)
  | 7, v, _ => v = .int .i64 b
  | 8, v, _ => v = .string (tz b)
  | 9, v, _ => v = .string (tz (b * Iv.L3))
  | 10, v, _ => v = .pointer (some ⟨D, 0, none⟩)
  | 11, v, _ => v = .pointer (some ⟨D, 2, none⟩)
  | 12, v, _ => v = .int .i64 c
  | 13, v, _ => v = .string (tz c)
  | 14, v, _ => v = .string (tz (c * Iv.L5))
  | 15, v, A => ∃ blk, v = .slice (some ⟨blk, 0, none⟩) 3 3 ∧ A.heap[blk]? = some (.cells #[.string (tz (a * Iv.L2)), .string (tz (b * Iv.L3)), .string (tz (c * Iv.L5))] 82)
  | 16, v, _ => v = .string (tz (Iv.lg a b c))
  | 17, v, _ => v = .string (tz (Iv.lg a b c))
  | _, _, _ => True
theorem lgI_up (D : Nat) (a b c : Int) : ∀ (j : Nat) (v : Value) (A B : World), Below A.heap.size A B → lgI D a b c j v A → lgI D a b c j v B
  | 0, _, _, _, _, h => h
  | 1, _, _, _, _, h => h
  | 2, _, _, _, _, h => h
  | 3, _, _, _, _, h => h
  | 4, _, _, _, _, h => h
  | 5, _, _, _, _, h => h
  | 6, _, _, _, _, h => h
  | 7, _, _, _, _, h => h
  | 8, _, _, _, _, h => h
  | 9, _, _, _, _, h => h
  | 10, _, _, _, _, h => h
  | 11, _, _, _, _, h => h
  | 12, _, _, _, _, h => h
  | 13, _, _, _, _, h => h
  | 14, _, _, _, _, h => h
  | 15, _, _, _, hb, ⟨blk, h1, h2⟩ => ⟨blk, h1, (hb.block blk (Array.getElem?_eq_some_iff.1 h2).1).trans h2⟩
  | 16, _, _, _, _, h => h
  | 17, _, _, _, _, h => h
  | _ + 18, _, _, _, _, _ => trivial
def LgR (D : Nat) (w : World) (a b c d : Int) (A : World) : Prop := Below w.heap.size w A ∧ Gi A ∧ A.heap[D]? = some (.cells #[.int .i64 a, .int .i64 b, .int .i64 c, .int .i64 d] 73)
theorem LgR_up (D : Nat) (w : World) (a b c d : Int) (A B : World) (hb : Below A.heap.size A B) (h : LgR D w a b c d A) : LgR D w a b c d B :=
  ⟨h.1.trans (hb.mono h.1.size), h.2.1.below hb, (hb.block D (Array.getElem?_eq_some_iff.1 h.2.2).1).trans h.2.2⟩

set_option maxRecDepth 100000 in
set_option maxHeartbeats 4000000 in
theorem ivlog_any (a b c d : Int) (w : World) (G : Gi w) (ha : -1000000000 ≤ a ∧ a ≤ 1000000000) (hb : -1000000000 ≤ b ∧ b ≤ 1000000000) (hc : -1000000000 ≤ c ∧ c ≤ 1000000000) :
    Calls Tryz.prog 47 #[.agg #[.int .i64 a, .int .i64 b, .int .i64 c, .int .i64 d]] w fun e w' => e = .returned (.string (tz (Iv.lg a b c))) ∧ Below w.heap.size w w' := by
  have ca : Cn (tz a) := cn_tz (k := 10) (show a.natAbs < 10 ^ 10 by omega) (by decide) (by decide)
  have OFa := Lib.hid (fun (W : World) (G : Gi W) => show Calls Tryz.prog 52 #[.int .i64 a] W fun e w' => e = .returned (.string (tz a)) ∧ Below W.heap.size W w' from of_any a (by omega) (by omega) W G)
  have cb : Cn (tz b) := cn_tz (k := 10) (show b.natAbs < 10 ^ 10 by omega) (by decide) (by decide)
  have OFb := Lib.hid (fun (W : World) (G : Gi W) => show Calls Tryz.prog 52 #[.int .i64 b] W fun e w' => e = .returned (.string (tz b)) ∧ Below W.heap.size W w' from of_any b (by omega) (by omega) W G)
  have cc : Cn (tz c) := cn_tz (k := 10) (show c.natAbs < 10 ^ 10 by omega) (by decide) (by decide)
  have OFc := Lib.hid (fun (W : World) (G : Gi W) => show Calls Tryz.prog 52 #[.int .i64 c] W fun e w' => e = .returned (.string (tz c)) ∧ Below W.heap.size W w' from of_any c (by omega) (by omega) W G)
  have mua := fun (W : World) (G : Gi W) => mul_c (tz a) ⟨#[49, 48, 48, 48, 48, 48, 48, 48, 48, 48, 48, 48, 48, 48, 48, 48, 48, 48, 48, 48, 48, 48, 48, 48, 48, 48, 48, 48, 48, 48, 48]⟩ ca con2_cn W G
  simp only [iv_tz, con2_iv] at mua
  have MUa := Lib.hid mua
  have fa := fit_tz (lg_small (L := Iv.L2) ha (by unfold Iv.L2; omega))
  have mub := fun (W : World) (G : Gi W) => mul_c (tz b) ⟨#[49, 53, 56, 52, 57, 54, 50, 53, 48, 48, 55, 50, 49, 49, 53, 54, 49, 56, 49, 52, 53, 51, 55, 51, 56, 57, 52, 51, 57, 52, 55]⟩ cb con3_cn W G
  simp only [iv_tz, con3_iv] at mub
  have MUb := Lib.hid mub
  have fb := fit_tz (lg_small (L := Iv.L3) hb (by unfold Iv.L3; omega))
  have muc := fun (W : World) (G : Gi W) => mul_c (tz c) ⟨#[50, 51, 50, 49, 57, 50, 56, 48, 57, 52, 56, 56, 55, 51, 54, 50, 51, 52, 55, 56, 55, 48, 51, 49, 57, 52, 50, 57, 52, 56, 57]⟩ cc con5_cn W G
  simp only [iv_tz, con5_iv] at muc
  have MUc := Lib.hid muc
  have fc := fit_tz (lg_small (L := Iv.L5) hc (by unfold Iv.L5; omega))
  have SU := Lib.hid (fun (blk : Nat) (W : World) (G : Gi W) (hh : W.heap[blk]? = some (.cells #[.string (tz (a * Iv.L2)), .string (tz (b * Iv.L3)), .string (tz (c * Iv.L5))] 82)) => sum_any (some ⟨blk, 0, none⟩) blk 0 3 [(tz (a * Iv.L2)), (tz (b * Iv.L3)), (tz (c * Iv.L5))] (by simp) (by simp [fa, fb, fc]) (by simp) (fun _ => rfl) W (fun _ => (Array.getElem?_eq_some_iff.1 hh).1) (fun k hk => by
    have hk' : k = 0 ∨ k = 1 ∨ k = 2 := by simp at hk; omega
    rcases hk' with rfl | rfl | rfl <;> simp [World.cell?, hh]) G)
  simp only [sum_three, iv_tz, List.length_cons, List.length_nil] at SU
  rw [show a * Iv.L2 + b * Iv.L3 + c * Iv.L5 = Iv.lg a b c from rfl] at SU
  clear mua mub muc fa fb fc ca cb cc ha hb hc
  obtain ⟨D, hD⟩ : ∃ D, w.heap.size = D := ⟨_, rfl⟩
  go_enter Tryz.func47, Tryz.ntmps47
  go_wp2_with fail
  obtain ⟨W0, hW0⟩ : ∃ W0, (w.alloc (.cells #[.int .i64 a, .int .i64 b, .int .i64 c, .int .i64 d] 73)) = W0 := ⟨_, rfl⟩
  have hb0 : Below w.heap.size w W0 := by rw [← hW0]; exact (Below.refl _ w).alloc (Nat.le_refl _) _
  have HR := Lib.hid (show LgR D w a b c d W0 from ⟨hb0, G.below hb0, by rw [← hW0]; exact heap_new hD.symm⟩)
  rw [hW0]
  clear hW0 hb0
  refine wp_region_slots_at rfl rfl (fun base ys => (((((((((((((((((base.set 3 (ys 0)).set 4 (ys 1)).set 5 (ys 2)).set 6 (ys 3)).set 7 (ys 4)).set 8 (ys 5)).set 9 (ys 6)).set 10 (ys 7)).set 11 (ys 8)).set 12 (ys 9)).set 13 (ys 10)).set 14 (ys 11)).set 15 (ys 12)).set 16 (ys 13)).set 17 (ys 14)).set 18 (ys 15)).set 19 (ys 16)).set 2 (ys 17)) (BelowI _ (LgR D w a b c d) (lgI D a b c)) (fun | 17 => .string ⟨#[]⟩ | _ => undef) (by kernel_rfl) (below_start (LgR_up D w a b c d W0 W0.drew ⟨rfl, rfl, rfl, Nat.le_refl _, fun _ _ => rfl⟩ HR.out)) ?h
  case h =>
    intro F hF
    simp only [List.set_cons_succ, List.set_cons_zero] at hF
    subst hF
    refine ⟨rfl, ?_, ?_⟩
    refine ⟨?_, ?_⟩
    · refine SlotStep.below (LgR_up D w a b c d) (lgI_up D a b c) ?_
      intro ys W hR hd K hK
      go_simp
      have hK2 := hK (.pointer (some ⟨D, 0, none⟩)) _ (Below.refl _ _) rfl
      simp (config := { decide := true }) only [upd, if_true, if_false] at hK2
      exact hK2
    refine ⟨?_, ?_⟩
    · refine SlotStep.below (LgR_up D w a b c d) (lgI_up D a b c) ?_
      intro ys W hR hd K hK
      have dd0 : ys 0 = .pointer (some ⟨D, 0, none⟩) := hd 0 (by kernel_rfl) (by decide)
      go_simp
      have hK2 := hK (.pointer (some ⟨D, 0, none⟩)) _ (Below.refl _ _) rfl
      simp (config := { decide := true }) only [upd, if_true, if_false, dd0] at hK2
      exact hK2
    refine ⟨?_, ?_⟩
    · refine SlotStep.below (LgR_up D w a b c d) (lgI_up D a b c) ?_
      intro ys W hR hd K hK
      have dd1 : ys 1 = .pointer (some ⟨D, 0, none⟩) := hd 1 (by kernel_rfl) (by decide)
      have c0 := cell4_0 hR.2.2
      go_simp
      have hK2 := hK (.int .i64 a) _ (Below.refl _ _) rfl
      simp (config := { decide := true }) only [upd, if_true, if_false, dd1] at hK2
      exact hK2
    refine ⟨?_, ?_⟩
    · refine SlotStep.below (LgR_up D w a b c d) (lgI_up D a b c) ?_
      intro ys W hR hd K hK
      have dd2 : ys 2 = .int .i64 a := hd 2 (by kernel_rfl) (by decide)
      go_simp
      refine (OFa.out W hR.2.1).mono ?_
      rintro e w5 ⟨rfl, hb5⟩
      have hK2 := hK (.string (tz a)) _ hb5 rfl
      simp (config := { decide := true }) only [upd, if_true, if_false, dd2] at hK2
      exact hK2
    refine ⟨?_, ?_⟩
    · refine SlotStep.below (LgR_up D w a b c d) (lgI_up D a b c) ?_
      intro ys W hR hd K hK
      have dd3 : ys 3 = .string (tz a) := hd 3 (by kernel_rfl) (by decide)
      go_simp
      refine (MUa.out W hR.2.1).mono ?_
      rintro e w5 ⟨rfl, hb5⟩
      have hK2 := hK (.string (tz (a * Iv.L2))) _ hb5 rfl
      simp (config := { decide := true }) only [upd, if_true, if_false, dd3] at hK2
      exact hK2
    refine ⟨?_, ?_⟩
    · refine SlotStep.below (LgR_up D w a b c d) (lgI_up D a b c) ?_
      intro ys W hR hd K hK
      go_simp
      have hK2 := hK (.pointer (some ⟨D, 0, none⟩)) _ (Below.refl _ _) rfl
      simp (config := { decide := true }) only [upd, if_true, if_false] at hK2
      exact hK2
    refine ⟨?_, ?_⟩
    · refine SlotStep.below (LgR_up D w a b c d) (lgI_up D a b c) ?_
      intro ys W hR hd K hK
      have dd5 : ys 5 = .pointer (some ⟨D, 0, none⟩) := hd 5 (by kernel_rfl) (by decide)
      go_simp
      have hK2 := hK (.pointer (some ⟨D, 1, none⟩)) _ (Below.refl _ _) rfl
      simp (config := { decide := true }) only [upd, if_true, if_false, dd5] at hK2
      exact hK2
    refine ⟨?_, ?_⟩
    · refine SlotStep.below (LgR_up D w a b c d) (lgI_up D a b c) ?_
      intro ys W hR hd K hK
      have dd6 : ys 6 = .pointer (some ⟨D, 1, none⟩) := hd 6 (by kernel_rfl) (by decide)
      have c0 := cell4_1 hR.2.2
      go_simp
      have hK2 := hK (.int .i64 b) _ (Below.refl _ _) rfl
      simp (config := { decide := true }) only [upd, if_true, if_false, dd6] at hK2
      exact hK2
    refine ⟨?_, ?_⟩
    · refine SlotStep.below (LgR_up D w a b c d) (lgI_up D a b c) ?_
      intro ys W hR hd K hK
      have dd7 : ys 7 = .int .i64 b := hd 7 (by kernel_rfl) (by decide)
      go_simp
      refine (OFb.out W hR.2.1).mono ?_
      rintro e w5 ⟨rfl, hb5⟩
      have hK2 := hK (.string (tz b)) _ hb5 rfl
      simp (config := { decide := true }) only [upd, if_true, if_false, dd7] at hK2
      exact hK2
    refine ⟨?_, ?_⟩
    · refine SlotStep.below (LgR_up D w a b c d) (lgI_up D a b c) ?_
      intro ys W hR hd K hK
      have dd8 : ys 8 = .string (tz b) := hd 8 (by kernel_rfl) (by decide)
      go_simp
      refine (MUb.out W hR.2.1).mono ?_
      rintro e w5 ⟨rfl, hb5⟩
      have hK2 := hK (.string (tz (b * Iv.L3))) _ hb5 rfl
      simp (config := { decide := true }) only [upd, if_true, if_false, dd8] at hK2
      exact hK2
    refine ⟨?_, ?_⟩
    · refine SlotStep.below (LgR_up D w a b c d) (lgI_up D a b c) ?_
      intro ys W hR hd K hK
      go_simp
      have hK2 := hK (.pointer (some ⟨D, 0, none⟩)) _ (Below.refl _ _) rfl
      simp (config := { decide := true }) only [upd, if_true, if_false] at hK2
      exact hK2
    refine ⟨?_, ?_⟩
    · refine SlotStep.below (LgR_up D w a b c d) (lgI_up D a b c) ?_
      intro ys W hR hd K hK
      have dd10 : ys 10 = .pointer (some ⟨D, 0, none⟩) := hd 10 (by kernel_rfl) (by decide)
      go_simp
      have hK2 := hK (.pointer (some ⟨D, 2, none⟩)) _ (Below.refl _ _) rfl
      simp (config := { decide := true }) only [upd, if_true, if_false, dd10] at hK2
      exact hK2
    refine ⟨?_, ?_⟩
    · refine SlotStep.below (LgR_up D w a b c d) (lgI_up D a b c) ?_
      intro ys W hR hd K hK
      have dd11 : ys 11 = .pointer (some ⟨D, 2, none⟩) := hd 11 (by kernel_rfl) (by decide)
      have c0 := cell4_2 hR.2.2
      go_simp
      have hK2 := hK (.int .i64 c) _ (Below.refl _ _) rfl
      simp (config := { decide := true }) only [upd, if_true, if_false, dd11] at hK2
      exact hK2
    refine ⟨?_, ?_⟩
    · refine SlotStep.below (LgR_up D w a b c d) (lgI_up D a b c) ?_
      intro ys W hR hd K hK
      have dd12 : ys 12 = .int .i64 c := hd 12 (by kernel_rfl) (by decide)
      go_simp
      refine (OFc.out W hR.2.1).mono ?_
      rintro e w5 ⟨rfl, hb5⟩
      have hK2 := hK (.string (tz c)) _ hb5 rfl
      simp (config := { decide := true }) only [upd, if_true, if_false, dd12] at hK2
      exact hK2
    refine ⟨?_, ?_⟩
    · refine SlotStep.below (LgR_up D w a b c d) (lgI_up D a b c) ?_
      intro ys W hR hd K hK
      have dd13 : ys 13 = .string (tz c) := hd 13 (by kernel_rfl) (by decide)
      go_simp
      refine (MUc.out W hR.2.1).mono ?_
      rintro e w5 ⟨rfl, hb5⟩
      have hK2 := hK (.string (tz (c * Iv.L5))) _ hb5 rfl
      simp (config := { decide := true }) only [upd, if_true, if_false, dd13] at hK2
      exact hK2
    refine ⟨?_, ?_⟩
    · refine SlotStep.below (LgR_up D w a b c d) (lgI_up D a b c) ?_
      intro ys W hR hd K hK
      have dd4 : ys 4 = .string (tz (a * Iv.L2)) := hd 4 (by kernel_rfl) (by decide)
      have dd9 : ys 9 = .string (tz (b * Iv.L3)) := hd 9 (by kernel_rfl) (by decide)
      have dd14 : ys 14 = .string (tz (c * Iv.L5)) := hd 14 (by kernel_rfl) (by decide)
      go_simp
      have hK2 := hK (.slice (some ⟨W.heap.size, 0, none⟩) 3 3) _ ((Below.refl _ W).alloc (Nat.le_refl _) _) ⟨W.heap.size, rfl, heap_new rfl⟩
      simp (config := { decide := true }) only [upd, if_true, if_false, dd4, dd9, dd14] at hK2
      exact hK2
    refine ⟨?_, ?_⟩
    · refine SlotStep.below (LgR_up D w a b c d) (lgI_up D a b c) ?_
      intro ys W hR hd K hK
      obtain ⟨blk, hv, hh⟩ : ∃ blk, ys 15 = .slice (some ⟨blk, 0, none⟩) 3 3 ∧ _ := hd 15 (by kernel_rfl) (by decide)
      go_simp
      refine (SU.out blk W hR.2.1 hh).mono ?_
      rintro e w5 ⟨rfl, hb5⟩
      have hK2 := hK (.string (tz (Iv.lg a b c))) _ hb5 rfl
      simp (config := { decide := true }) only [upd, if_true, if_false, hv] at hK2
      exact hK2
    refine ⟨?_, ?_⟩
    · refine SlotStep.below (LgR_up D w a b c d) (lgI_up D a b c) ?_
      intro ys W hR hd K hK
      have dd16 : ys 16 = .string (tz (Iv.lg a b c)) := hd 16 (by kernel_rfl) (by decide)
      go_simp
      have hK2 := hK (.string (tz (Iv.lg a b c))) _ (Below.refl _ _) rfl
      simp (config := { decide := true }) only [upd, if_true, if_false, dd16] at hK2
      exact hK2
    trivial
    · intro L ys W hL hI
      obtain ⟨hR, hj⟩ := hI
      have y17 : ys 17 = .string (tz (Iv.lg a b c)) := hj 17 (by decide) (hL 17 (by decide))
      have hw := hR.1
      clear hR hj
      simp only [y17]
      go_wp2
      go_ret
      exact ⟨rfl, hw⟩
end Go.Proofs.YthdoadkdofgenaaGreatDoor
/- Contracts of floor, Sign, Compare. -/
namespace Go.Proofs.YthdoadkdofgenaaGreatDoor
open Go Go.RowKit Go.Shelf

theorem dv_floor (x y : Int) (hy : 0 < y) : dvQ x y = x / y := by
  have h1 := Int.mul_ediv_add_emod x y
  rw [Int.mul_comm] at h1
  have h2 := Int.emod_nonneg x (show y ≠ 0 by omega)
  have h3 := Int.emod_lt_of_pos x hy
  exact (dv_unique h1 (dv_sum x y) (by omega) (dv_ends x y (by omega)) (by omega)).1.symm
theorem small_tz {z : Int} (h : z.natAbs < 10 ^ 18) : smallB (tz z).data.toList = true := by
  unfold smallB
  rw [canon_tz]
  have e : (tz z).data.toList = Lib.itoa z := rfl
  rw [e, Im.dgs_itoa]
  have := Im.dec_len h (by decide)
  simp
  omega
set_option maxHeartbeats 1000000 in
theorem ivfloor_any (x y : Int) (hx : x.natAbs < 10 ^ 60) (hy : y.natAbs < 10 ^ 60) (hy0 : 0 < y) (hq : (x / y).natAbs < 10 ^ 18) (w : World) (G : Gi w) :
    Calls Tryz.prog 50 #[.string (tz x), .string (tz y)] w fun e w' => e = .returned (.int .i64 (x / y)) ∧ Below w.heap.size w w' := by
  have dv := fun (W : World) (G : Gi W) => div_c (tz x) (tz y) (cn_tz hx (by decide) (by decide)) (cn_tz hy (by decide) (by decide)) (by rw [iv_tz]; omega) W G
  simp only [iv_tz, dv_floor x y hy0] at dv
  have sm := fun (W : World) => small_any (tz (x / y)) (by have := len_tz hq (by decide); omega) W
  have sb := small_tz hq
  have sv := (small_iv sb).1
  rw [iv_tz] at sv
  rw [sb, sv] at sm
  have DV := Lib.hid dv
  have SM := Lib.hid sm
  clear dv sm sb sv hq hx hy
  generalize tz (dvR x y) = R at *
  generalize tz (x / y) = Q at *
  generalize x / y = q at *
  generalize tz x = X at *
  generalize tz y = Y at *
  go_enter Tryz.func50, Tryz.ntmps50
  go_wp2_with fail
  refine (DV.out _ G).mono ?_
  rintro e w1 ⟨rfl, hb1⟩
  go_wp2_with fail
  refine (SM.out _).mono ?_
  rintro e w2 ⟨rfl, hb2⟩
  go_wp2
  go_ret
  exact ⟨rfl, hb1.trans (hb2.mono hb1.size)⟩
theorem cn_lg {a b c : Int} (ha : -1000000000 ≤ a ∧ a ≤ 1000000000) (hb : -1000000000 ≤ b ∧ b ≤ 1000000000) (hc : -1000000000 ≤ c ∧ c ≤ 1000000000) : (Iv.lg a b c).natAbs < 10 ^ 41 := by
  have h1 := lg_small (a := a) (L := Iv.L2) ha (by unfold Iv.L2; omega)
  have h2 := lg_small (a := b) (L := Iv.L3) hb (by unfold Iv.L3; omega)
  have h3 := lg_small (a := c) (L := Iv.L5) hc (by unfold Iv.L5; omega)
  unfold Iv.lg
  have e : (10 : Nat) ^ 41 = 10 * 10 ^ 40 := by decide
  rw [e]
  generalize (10 : Nat) ^ 40 = N at *
  omega

set_option maxRecDepth 10000 in
set_option maxHeartbeats 2000000 in
theorem ivsign_err (x0 x1 x2 x3 x4 x5 : Int) (w : World) (he : Iv.rdE x0 x1 x2 x3 x4 x5 ≠ 0) :
    Calls Tryz.prog 19 #[.agg #[.int .i64 x0, .int .i64 x1, .int .i64 x2, .int .i64 x3, .int .i64 x4, .int .i64 x5]] w fun e w' => e = .returned (.tuple #[.int .i64 0, .int .i64 (Iv.rdE x0 x1 x2 x3 x4 x5)]) ∧ Below w.heap.size w w' := by
  have PA := Lib.hid (fun W => rd_parts x0 x1 x2 x3 x4 x5 W)
  generalize rdA x0 x1 x2 x3 x4 x5 = a at *
  generalize rdB x0 x1 x2 x3 x4 x5 = b at *
  generalize rdC x0 x1 x2 x3 x4 x5 = c at *
  generalize rdD x0 x1 x2 x3 x4 x5 = d at *
  generalize Iv.rdE x0 x1 x2 x3 x4 x5 = E at *
  have hne : (E == 0) = false := by rw [beq_eq_false_iff_ne]; exact he
  go_enter Tryz.func19, Tryz.ntmps19
  go_wp2_with fail
  refine (PA.out _).mono ?_
  rintro e w1 ⟨rfl, hb1⟩
  have hs1 := hb1.size
  have HW := Lib.hid ((((Below.refl _ w).alloc (Nat.le_refl _) _).trans (hb1.mono (by simp))).alloc (by simp at hs1; omega) (.cells #[.int .i64 a, .int .i64 b, .int .i64 c, .int .i64 d] 73))
  clear hb1 hs1
  go_wp2
  refine bodyPost_ret (v := .tuple #[.int .i64 0, .int .i64 E]) (by simp [results, Tryz.results19, go_sem]) rfl ⟨rfl, HW.out⟩
set_option maxRecDepth 10000 in
set_option maxHeartbeats 2000000 in
theorem ivsign_ok (x0 x1 x2 x3 x4 x5 : Int) (w : World) (G : Gi w) (he : Iv.rdE x0 x1 x2 x3 x4 x5 = 0) :
    Calls Tryz.prog 19 #[.agg #[.int .i64 x0, .int .i64 x1, .int .i64 x2, .int .i64 x3, .int .i64 x4, .int .i64 x5]] w fun e w' => e = .returned (.tuple #[.int .i64 (sgn (Iv.lg (rdA x0 x1 x2 x3 x4 x5) (rdB x0 x1 x2 x3 x4 x5) (rdC x0 x1 x2 x3 x4 x5))), .int .i64 0]) ∧ Below w.heap.size w w' := by
  have PA := Lib.hid (fun W => rd_parts x0 x1 x2 x3 x4 x5 W)
  have hb := rd_bounds x0 x1 x2 x3 x4 x5
  have LO := Lib.hid (fun W G => ivlog_any (rdA x0 x1 x2 x3 x4 x5) (rdB x0 x1 x2 x3 x4 x5) (rdC x0 x1 x2 x3 x4 x5) (rdD x0 x1 x2 x3 x4 x5) W G (by omega) (by omega) (by omega))
  have SG0 := fun W => sign_c (tz (Iv.lg (rdA x0 x1 x2 x3 x4 x5) (rdB x0 x1 x2 x3 x4 x5) (rdC x0 x1 x2 x3 x4 x5))) (cn_tz (cn_lg (a := rdA x0 x1 x2 x3 x4 x5) (b := rdB x0 x1 x2 x3 x4 x5) (c := rdC x0 x1 x2 x3 x4 x5) (by omega) (by omega) (by omega)) (by decide) (by decide)) W
  simp only [iv_tz] at SG0
  have SG := Lib.hid SG0
  clear SG0 hb
  generalize sgn (Iv.lg (rdA x0 x1 x2 x3 x4 x5) (rdB x0 x1 x2 x3 x4 x5) (rdC x0 x1 x2 x3 x4 x5)) = sn at *
  generalize tz (Iv.lg (rdA x0 x1 x2 x3 x4 x5) (rdB x0 x1 x2 x3 x4 x5) (rdC x0 x1 x2 x3 x4 x5)) = st at *
  generalize rdA x0 x1 x2 x3 x4 x5 = a at *
  generalize rdB x0 x1 x2 x3 x4 x5 = b at *
  generalize rdC x0 x1 x2 x3 x4 x5 = c at *
  generalize rdD x0 x1 x2 x3 x4 x5 = d at *
  generalize Iv.rdE x0 x1 x2 x3 x4 x5 = E at *
  subst he
  go_enter Tryz.func19, Tryz.ntmps19
  go_wp2_with fail
  refine (PA.out _).mono ?_
  rintro e w1 ⟨rfl, hb1⟩
  have hs1 := hb1.size
  have hb2 := (((Below.refl _ w).alloc (Nat.le_refl _) _).trans (hb1.mono (by simp))).alloc (by simp at hs1; omega) (.cells #[.int .i64 a, .int .i64 b, .int .i64 c, .int .i64 d] 73)
  have G2 := G.below hb2
  go_wp2_with fail
  refine (LO.out _ G2).mono ?_
  rintro e w2 ⟨rfl, hb3⟩
  have hb4 := hb2.trans (hb3.mono hb2.size)
  go_wp2_with fail
  refine (SG.out _).mono ?_
  rintro e w3 ⟨rfl, hb5⟩
  have HW := Lib.hid (hb4.trans (hb5.mono hb4.size))
  clear hb1 hs1 hb2 hb3 hb4 hb5
  go_wp2
  refine bodyPost_ret (v := .tuple #[.int .i64 sn, .int .i64 0]) (by simp [results, Tryz.results19, go_sem]) rfl ⟨rfl, HW.out⟩
set_option maxRecDepth 10000 in
set_option maxHeartbeats 2000000 in
theorem ivcompare_e1 (x0 x1 x2 x3 x4 x5 y0 y1 y2 y3 y4 y5 : Int) (w : World) (he : Iv.rdE x0 x1 x2 x3 x4 x5 ≠ 0) :
    Calls Tryz.prog 20 #[.agg #[.int .i64 x0, .int .i64 x1, .int .i64 x2, .int .i64 x3, .int .i64 x4, .int .i64 x5], .agg #[.int .i64 y0, .int .i64 y1, .int .i64 y2, .int .i64 y3, .int .i64 y4, .int .i64 y5]] w fun e w' => e = .returned (.tuple #[.int .i64 0, .int .i64 (Iv.rdE x0 x1 x2 x3 x4 x5)]) ∧ Below w.heap.size w w' := by
  have PH := Lib.hid (fun W => ivpair_e1 x0 x1 x2 x3 x4 x5 y0 y1 y2 y3 y4 y5 W he)
  have hne : ((Iv.rdE x0 x1 x2 x3 x4 x5) == 0) = false := by rw [beq_eq_false_iff_ne]; exact he
  generalize Iv.rdE x0 x1 x2 x3 x4 x5 = E at *
  go_enter Tryz.func20, Tryz.ntmps20
  go_wp2_with fail
  refine (PH.out _).mono ?_
  rintro e w1 ⟨rfl, hb1⟩
  have hs1 := hb1.size
  have HW := Lib.hid ((((((Below.refl _ w).alloc (Nat.le_refl _) _).alloc (by simp) _).trans (hb1.mono (by simp; omega))).alloc (by simp at hs1; omega) (.cells #[.int .i64 0, .int .i64 0, .int .i64 0, .int .i64 0] 73)).alloc (by simp at hs1; simp; omega) (.cells #[.int .i64 0, .int .i64 0, .int .i64 0, .int .i64 0] 73))
  clear hb1 hs1
  go_wp2
  refine bodyPost_ret (v := .tuple #[.int .i64 0, .int .i64 E]) (by simp [results, Tryz.results20, go_sem]) rfl ⟨rfl, HW.out⟩
set_option maxRecDepth 10000 in
set_option maxHeartbeats 2000000 in
theorem ivcompare_e2 (x0 x1 x2 x3 x4 x5 y0 y1 y2 y3 y4 y5 : Int) (w : World) (he : Iv.rdE x0 x1 x2 x3 x4 x5 = 0) (hf : Iv.rdE y0 y1 y2 y3 y4 y5 ≠ 0) :
    Calls Tryz.prog 20 #[.agg #[.int .i64 x0, .int .i64 x1, .int .i64 x2, .int .i64 x3, .int .i64 x4, .int .i64 x5], .agg #[.int .i64 y0, .int .i64 y1, .int .i64 y2, .int .i64 y3, .int .i64 y4, .int .i64 y5]] w fun e w' => e = .returned (.tuple #[.int .i64 0, .int .i64 (Iv.rdE y0 y1 y2 y3 y4 y5)]) ∧ Below w.heap.size w w' := by
  have PH := Lib.hid (fun W => ivpair_e2 x0 x1 x2 x3 x4 x5 y0 y1 y2 y3 y4 y5 W he hf)
  have hne : ((Iv.rdE y0 y1 y2 y3 y4 y5) == 0) = false := by rw [beq_eq_false_iff_ne]; exact hf
  generalize Iv.rdE y0 y1 y2 y3 y4 y5 = E at *
  go_enter Tryz.func20, Tryz.ntmps20
  go_wp2_with fail
  refine (PH.out _).mono ?_
  rintro e w1 ⟨rfl, hb1⟩
  have hs1 := hb1.size
  have HW := Lib.hid ((((((Below.refl _ w).alloc (Nat.le_refl _) _).alloc (by simp) _).trans (hb1.mono (by simp; omega))).alloc (by simp at hs1; omega) (.cells #[.int .i64 0, .int .i64 0, .int .i64 0, .int .i64 0] 73)).alloc (by simp at hs1; simp; omega) (.cells #[.int .i64 0, .int .i64 0, .int .i64 0, .int .i64 0] 73))
  clear hb1 hs1
  go_wp2
  refine bodyPost_ret (v := .tuple #[.int .i64 0, .int .i64 E]) (by simp [results, Tryz.results20, go_sem]) rfl ⟨rfl, HW.out⟩
set_option maxRecDepth 10000 in
set_option maxHeartbeats 4000000 in
theorem ivcompare_ok (x0 x1 x2 x3 x4 x5 y0 y1 y2 y3 y4 y5 : Int) (d e : Nat) (w : World) (G : Gi w) (he : Iv.rdE x0 x1 x2 x3 x4 x5 = 0) (hf : Iv.rdE y0 y1 y2 y3 y4 y5 = 0) (hd : rdD x0 x1 x2 x3 x4 x5 = (d : Int)) (hd1 : 0 < d) (hd2 : d ≤ 240) (hg : rdD y0 y1 y2 y3 y4 y5 = (e : Int)) (he1 : 0 < e) (he2 : e ≤ 240) :
    Calls Tryz.prog 20 #[.agg #[.int .i64 x0, .int .i64 x1, .int .i64 x2, .int .i64 x3, .int .i64 x4, .int .i64 x5], .agg #[.int .i64 y0, .int .i64 y1, .int .i64 y2, .int .i64 y3, .int .i64 y4, .int .i64 y5]] w fun x w' => x = .returned (.tuple #[.int .i64 (sgn (Iv.lg (Iv.cb (rdA x0 x1 x2 x3 x4 x5) (rdA y0 y1 y2 y3 y4 y5) d e (-1)) (Iv.cb (rdB x0 x1 x2 x3 x4 x5) (rdB y0 y1 y2 y3 y4 y5) d e (-1)) (Iv.cb (rdC x0 x1 x2 x3 x4 x5) (rdC y0 y1 y2 y3 y4 y5) d e (-1)))), .int .i64 0]) ∧ Below w.heap.size w w' := by
  have PH := Lib.hid (fun W => ivpair_ok x0 x1 x2 x3 x4 x5 y0 y1 y2 y3 y4 y5 W he hf)
  have bx := rd_bounds x0 x1 x2 x3 x4 x5
  have bY := rd_bounds y0 y1 y2 y3 y4 y5
  have CO := Lib.hid (fun W => ivcombine_minus (rdA x0 x1 x2 x3 x4 x5) (rdB x0 x1 x2 x3 x4 x5) (rdC x0 x1 x2 x3 x4 x5) (rdA y0 y1 y2 y3 y4 y5) (rdB y0 y1 y2 y3 y4 y5) (rdC y0 y1 y2 y3 y4 y5) d e W hd1 hd2 he1 he2 (by omega) (by omega) (by omega) (by omega) (by omega) (by omega) (by omega) (by omega) (by omega) (by omega) (by omega) (by omega))
  have k0 := cb_bd (k := -1) (by decide) hd1 hd2 he1 he2 (a := rdA x0 x1 x2 x3 x4 x5) (b := rdA y0 y1 y2 y3 y4 y5) (by omega) (by omega) (by omega) (by omega)
  have k1 := cb_bd (k := -1) (by decide) hd1 hd2 he1 he2 (a := rdB x0 x1 x2 x3 x4 x5) (b := rdB y0 y1 y2 y3 y4 y5) (by omega) (by omega) (by omega) (by omega)
  have k2 := cb_bd (k := -1) (by decide) hd1 hd2 he1 he2 (a := rdC x0 x1 x2 x3 x4 x5) (b := rdC y0 y1 y2 y3 y4 y5) (by omega) (by omega) (by omega) (by omega)
  have LO := Lib.hid (fun W G => ivlog_any (Iv.cb (rdA x0 x1 x2 x3 x4 x5) (rdA y0 y1 y2 y3 y4 y5) d e (-1)) (Iv.cb (rdB x0 x1 x2 x3 x4 x5) (rdB y0 y1 y2 y3 y4 y5) d e (-1)) (Iv.cb (rdC x0 x1 x2 x3 x4 x5) (rdC y0 y1 y2 y3 y4 y5) d e (-1)) (Nat.lcm d e : Nat) W G (by omega) (by omega) (by omega))
  have SG0 := fun W => sign_c (tz (Iv.lg (Iv.cb (rdA x0 x1 x2 x3 x4 x5) (rdA y0 y1 y2 y3 y4 y5) d e (-1)) (Iv.cb (rdB x0 x1 x2 x3 x4 x5) (rdB y0 y1 y2 y3 y4 y5) d e (-1)) (Iv.cb (rdC x0 x1 x2 x3 x4 x5) (rdC y0 y1 y2 y3 y4 y5) d e (-1)))) (cn_tz (cn_lg (a := (Iv.cb (rdA x0 x1 x2 x3 x4 x5) (rdA y0 y1 y2 y3 y4 y5) d e (-1))) (b := (Iv.cb (rdB x0 x1 x2 x3 x4 x5) (rdB y0 y1 y2 y3 y4 y5) d e (-1))) (c := (Iv.cb (rdC x0 x1 x2 x3 x4 x5) (rdC y0 y1 y2 y3 y4 y5) d e (-1))) (by omega) (by omega) (by omega)) (by decide) (by decide)) W
  simp only [iv_tz] at SG0
  have SG := Lib.hid SG0
  rw [hd, hg] at PH
  clear SG0 bx bY k0 k1 k2 hd hg hd1 hd2 he1 he2 he hf
  generalize sgn (Iv.lg (Iv.cb (rdA x0 x1 x2 x3 x4 x5) (rdA y0 y1 y2 y3 y4 y5) d e (-1)) (Iv.cb (rdB x0 x1 x2 x3 x4 x5) (rdB y0 y1 y2 y3 y4 y5) d e (-1)) (Iv.cb (rdC x0 x1 x2 x3 x4 x5) (rdC y0 y1 y2 y3 y4 y5) d e (-1))) = sn at *
  generalize tz (Iv.lg (Iv.cb (rdA x0 x1 x2 x3 x4 x5) (rdA y0 y1 y2 y3 y4 y5) d e (-1)) (Iv.cb (rdB x0 x1 x2 x3 x4 x5) (rdB y0 y1 y2 y3 y4 y5) d e (-1)) (Iv.cb (rdC x0 x1 x2 x3 x4 x5) (rdC y0 y1 y2 y3 y4 y5) d e (-1))) = st at *
  generalize (Iv.cb (rdA x0 x1 x2 x3 x4 x5) (rdA y0 y1 y2 y3 y4 y5) d e (-1)) = ca at *
  generalize (Iv.cb (rdB x0 x1 x2 x3 x4 x5) (rdB y0 y1 y2 y3 y4 y5) d e (-1)) = cb at *
  generalize (Iv.cb (rdC x0 x1 x2 x3 x4 x5) (rdC y0 y1 y2 y3 y4 y5) d e (-1)) = cc at *
  generalize ((Nat.lcm d e : Nat) : Int) = L at *
  generalize rdA x0 x1 x2 x3 x4 x5 = rdAx at *
  generalize rdA y0 y1 y2 y3 y4 y5 = rdAy at *
  generalize rdB x0 x1 x2 x3 x4 x5 = rdBx at *
  generalize rdB y0 y1 y2 y3 y4 y5 = rdBy at *
  generalize rdC x0 x1 x2 x3 x4 x5 = rdCx at *
  generalize rdC y0 y1 y2 y3 y4 y5 = rdCy at *
  go_enter Tryz.func20, Tryz.ntmps20
  go_wp2_with fail
  refine (PH.out _).mono ?_
  rintro x w1 ⟨rfl, hb1⟩
  have hs1 := hb1.size
  have hb2 := (((((Below.refl _ w).alloc (Nat.le_refl _) _).alloc (by simp) _).trans (hb1.mono (by simp; omega))).alloc (by simp at hs1; omega) (.cells #[.int .i64 rdAx, .int .i64 rdBx, .int .i64 rdCx, .int .i64 (d : Int)] 73)).alloc (by simp at hs1; simp; omega) (.cells #[.int .i64 rdAy, .int .i64 rdBy, .int .i64 rdCy, .int .i64 (e : Int)] 73)
  go_wp2_with fail
  refine (CO.out _).mono ?_
  rintro x w2 ⟨rfl, hb3⟩
  have hb4 := hb2.trans (hb3.mono hb2.size)
  have G4 := G.below hb4
  go_wp2_with fail
  refine (LO.out _ G4).mono ?_
  rintro x w3 ⟨rfl, hb5⟩
  have hb6 := hb4.trans (hb5.mono hb4.size)
  go_wp2_with fail
  refine (SG.out _).mono ?_
  rintro x w4 ⟨rfl, hb7⟩
  have HW := Lib.hid (hb6.trans (hb7.mono hb6.size))
  clear hb1 hs1 hb2 hb3 hb4 hb5 hb6 hb7 G4
  go_wp2
  refine bodyPost_ret (v := .tuple #[.int .i64 sn, .int .i64 0]) (by simp [results, Tryz.results20, go_sem]) rfl ⟨rfl, HW.out⟩
end Go.Proofs.YthdoadkdofgenaaGreatDoor
/- The contract of Cents. -/
namespace Go.Proofs.YthdoadkdofgenaaGreatDoor
open Go Go.RowKit Go.Shelf

theorem two_iv : iv ⟨#[50]⟩ = 2 := by decide
theorem cn_small {z : Int} {D : Nat} (hz : -30000000000000000000000000000000000 ≤ z ∧ z ≤ 30000000000000000000000000000000000) (h0 : 0 < D) (h1 : D ≤ 240) : (Iv.cn z D).natAbs < 10 ^ 18 := by
  unfold Iv.cn Iv.L2
  have hy : (0 : Int) < 2 * ((D : Int) * 1000000000000000000000000000000) := by omega
  have a1 := Int.ediv_lt_of_lt_mul hy (show 240000 * z + (D : Int) * 1000000000000000000000000000000 < 100000000000000000 * (2 * ((D : Int) * 1000000000000000000000000000000)) by omega)
  have a2 := Int.le_ediv_of_mul_le hy (show -100000000000000000 * (2 * ((D : Int) * 1000000000000000000000000000000)) ≤ 240000 * z + (D : Int) * 1000000000000000000000000000000 by omega)
  generalize (240000 * z + (D : Int) * 1000000000000000000000000000000) / (2 * ((D : Int) * 1000000000000000000000000000000)) = q at *
  have e : (10 : Nat) ^ 18 = 1000000000000000000 := by decide
  rw [e]
  omega
def ctI (P : Value) (z : Int) : Nat → Value → World → Prop
  | 0, v, _ => v = .string (tz 240000)
  | 1, v, _ => v = P
  | 2, v, _ => v = .string (tz z)
  | 3, v, _ => v = .string (tz (240000 * z))
  | 4, v, _ => v = .string (tz (240000 * z))
  | _, _, _ => True
theorem ctI_up (P : Value) (z : Int) : ∀ (j : Nat) (v : Value) (A B : World), Below A.heap.size A B → ctI P z j v A → ctI P z j v B
  | 0, _, _, _, _, h => h
  | 1, _, _, _, _, h => h
  | 2, _, _, _, _, h => h
  | 3, _, _, _, _, h => h
  | 4, _, _, _, _, h => h
  | _ + 5, _, _, _, _, _ => trivial
def CtR (E : Nat) (w : World) (a b c d : Int) (A : World) : Prop := Below w.heap.size w A ∧ Gi A ∧ A.heap[E]? = some (.cells #[.int .i64 a, .int .i64 b, .int .i64 c, .int .i64 d] 73)
theorem CtR_up (E : Nat) (w : World) (a b c d : Int) (A B : World) (hb : Below A.heap.size A B) (h : CtR E w a b c d A) : CtR E w a b c d B :=
  ⟨h.1.trans (hb.mono h.1.size), h.2.1.below hb, (hb.block E (Array.getElem?_eq_some_iff.1 h.2.2).1).trans h.2.2⟩

set_option maxRecDepth 10000 in
set_option maxHeartbeats 2000000 in
theorem ivcents_err (x0 x1 x2 x3 x4 x5 : Int) (w : World) (he : Iv.rdE x0 x1 x2 x3 x4 x5 ≠ 0) :
    Calls Tryz.prog 22 #[.agg #[.int .i64 x0, .int .i64 x1, .int .i64 x2, .int .i64 x3, .int .i64 x4, .int .i64 x5]] w fun e w' => e = .returned (.tuple #[.int .i64 0, .int .i64 (Iv.rdE x0 x1 x2 x3 x4 x5)]) ∧ Below w.heap.size w w' := by
  have PA := Lib.hid (fun W => rd_parts x0 x1 x2 x3 x4 x5 W)
  generalize rdA x0 x1 x2 x3 x4 x5 = a at *
  generalize rdB x0 x1 x2 x3 x4 x5 = b at *
  generalize rdC x0 x1 x2 x3 x4 x5 = c at *
  generalize rdD x0 x1 x2 x3 x4 x5 = d at *
  generalize Iv.rdE x0 x1 x2 x3 x4 x5 = E at *
  have hne : (E == 0) = false := by rw [beq_eq_false_iff_ne]; exact he
  go_enter Tryz.func22, Tryz.ntmps22
  go_wp2_with fail
  refine (PA.out _).mono ?_
  rintro e w1 ⟨rfl, hb1⟩
  have hs1 := hb1.size
  have HW := Lib.hid ((((Below.refl _ w).alloc (Nat.le_refl _) _).trans (hb1.mono (by simp))).alloc (by simp at hs1; omega) (.cells #[.int .i64 a, .int .i64 b, .int .i64 c, .int .i64 d] 73))
  clear hb1 hs1
  go_wp2
  refine bodyPost_ret (v := .tuple #[.int .i64 0, .int .i64 E]) (by simp [results, Tryz.results22, go_sem]) rfl ⟨rfl, HW.out⟩
set_option maxRecDepth 100000 in
set_option maxHeartbeats 4000000 in
theorem ivcents_ok (x0 x1 x2 x3 x4 x5 : Int) (D : Nat) (w : World) (G : Gi w) (he : Iv.rdE x0 x1 x2 x3 x4 x5 = 0) (hd : rdD x0 x1 x2 x3 x4 x5 = (D : Int)) (hd1 : 0 < D) (hd2 : D ≤ 240) :
    Calls Tryz.prog 22 #[.agg #[.int .i64 x0, .int .i64 x1, .int .i64 x2, .int .i64 x3, .int .i64 x4, .int .i64 x5]] w fun e w' => e = .returned (.tuple #[.int .i64 (Iv.cn (Iv.lg (rdA x0 x1 x2 x3 x4 x5) (rdB x0 x1 x2 x3 x4 x5) (rdC x0 x1 x2 x3 x4 x5)) D), .int .i64 0]) ∧ Below w.heap.size w w' := by
  have PA := Lib.hid (fun W => rd_parts x0 x1 x2 x3 x4 x5 W)
  have hb := rd_bounds x0 x1 x2 x3 x4 x5
  have LO := Lib.hid (fun W G => ivlog_any (rdA x0 x1 x2 x3 x4 x5) (rdB x0 x1 x2 x3 x4 x5) (rdC x0 x1 x2 x3 x4 x5) (rdD x0 x1 x2 x3 x4 x5) W G (by omega) (by omega) (by omega))
  rw [hd] at PA LO
  have hz : -30000000000000000000000000000000000 ≤ Iv.lg (rdA x0 x1 x2 x3 x4 x5) (rdB x0 x1 x2 x3 x4 x5) (rdC x0 x1 x2 x3 x4 x5) ∧ Iv.lg (rdA x0 x1 x2 x3 x4 x5) (rdB x0 x1 x2 x3 x4 x5) (rdC x0 x1 x2 x3 x4 x5) ≤ 30000000000000000000000000000000000 := by
    unfold Iv.lg Iv.L2 Iv.L3 Iv.L5
    omega
  obtain ⟨z, hzz⟩ : ∃ z, Iv.lg (rdA x0 x1 x2 x3 x4 x5) (rdB x0 x1 x2 x3 x4 x5) (rdC x0 x1 x2 x3 x4 x5) = z := ⟨_, rfl⟩
  rw [hzz] at hz LO ⊢
  have hq := cn_small hz hd1 hd2
  obtain ⟨O, hO⟩ : ∃ O : Int, (D : Int) * Iv.L2 = O := ⟨_, rfl⟩
  have hOb : 0 < O ∧ O ≤ 240000000000000000000000000000000 := by rw [← hO]; unfold Iv.L2; omega
  have ecn : Iv.cn z D = (240000 * z + O) / (2 * O) := by rw [← hO]; rfl
  rw [ecn] at hq ⊢
  have e60 : (10 : Nat) ^ 60 = 1000000000000000000000000000000000000000000000000000000000000 := by decide
  have FL := Lib.hid (fun W G => ivfloor_any (240000 * z + O) (2 * O) (by rw [e60]; omega) (by rw [e60]; omega) (by omega) hq W G)
  have OD := Lib.hid (fun (W : World) (G : Gi W) => show Calls Tryz.prog 52 #[.int .i64 (D : Int)] W fun e w' => e = .returned (.string (tz (D : Int))) ∧ Below W.heap.size W w' from of_any (D : Int) (by omega) (by omega) W G)
  have OK := Lib.hid (fun (W : World) (G : Gi W) => show Calls Tryz.prog 52 #[.int .i64 240000] W fun e w' => e = .returned (.string (tz 240000)) ∧ Below W.heap.size W w' from of_any 240000 (by omega) (by omega) W G)
  have cD : Cn (tz (D : Int)) := cn_tz (k := 10) (by omega) (by decide) (by decide)
  have cK : Cn (tz 240000) := cn_tz (k := 10) (by decide) (by decide) (by decide)
  have cz : Cn (tz z) := cn_tz (k := 60) (by rw [e60]; omega) (by decide) (by decide)
  have cz2 : Cn (tz (240000 * z)) := cn_tz (k := 60) (by rw [e60]; omega) (by decide) (by decide)
  have cO : Cn (tz O) := cn_tz (k := 60) (by rw [e60]; omega) (by decide) (by decide)
  have m1 := fun (W : World) (G : Gi W) => mul_c (tz (D : Int)) ⟨#[49, 48, 48, 48, 48, 48, 48, 48, 48, 48, 48, 48, 48, 48, 48, 48, 48, 48, 48, 48, 48, 48, 48, 48, 48, 48, 48, 48, 48, 48, 48]⟩ cD con2_cn W G
  simp only [iv_tz, con2_iv, hO] at m1
  have m2 := fun (W : World) (G : Gi W) => mul_c (tz 240000) (tz z) cK cz W G
  simp only [iv_tz] at m2
  have m3 := fun (W : World) (G : Gi W) => add_c (tz (240000 * z)) (tz O) cz2 cO W G
  simp only [iv_tz] at m3
  have m4 := fun (W : World) (G : Gi W) => mul_c ⟨#[50]⟩ (tz O) (cn_bit 50 (by decide)) cO W G
  simp only [iv_tz, two_iv] at m4
  have M1 := Lib.hid m1
  have M2 := Lib.hid m2
  have M3 := Lib.hid m3
  have M4 := Lib.hid m4
  clear m1 m2 m3 m4 cD cK cz cz2 cO e60 hq hOb hO hz hzz hb hd ecn
  generalize (240000 * z + O) / (2 * O) = q at *
  generalize hs1 : tz (240000 * z + O) = S1 at *
  generalize hs2 : tz (2 * O) = S2 at *
  generalize hs3 : tz O = S3 at *
  clear hs1 hs2 hs3
  generalize tz (D : Int) = S4 at *
  generalize rdA x0 x1 x2 x3 x4 x5 = a at *
  generalize rdB x0 x1 x2 x3 x4 x5 = b at *
  generalize rdC x0 x1 x2 x3 x4 x5 = c at *
  rw [he] at PA
  clear he
  go_enter Tryz.func22, Tryz.ntmps22
  go_wp2_with fail
  refine (PA.out _).mono ?_
  rintro e w1 ⟨rfl, hb1⟩
  obtain ⟨E, hE⟩ : ∃ E, w1.heap.size = E := ⟨_, rfl⟩
  have hs1 := hb1.size
  have hb2 := (((Below.refl _ w).alloc (Nat.le_refl _) _).trans (hb1.mono (by simp))).alloc (by simp at hs1; omega) (.cells #[.int .i64 a, .int .i64 b, .int .i64 c, .int .i64 (D : Int)] 73)
  have G2 := G.below hb2
  have hE2 : (w1.alloc (.cells #[.int .i64 a, .int .i64 b, .int .i64 c, .int .i64 (D : Int)] 73)).heap[E]? = _ := heap_new hE.symm
  have hc3 := cell4_3 hE2
  go_wp2_with fail
  refine (OD.out _ G2).mono ?_
  rintro e w2 ⟨rfl, hb3⟩
  have hb4 := hb2.trans (hb3.mono hb2.size)
  have G4 := G.below hb4
  have hE4 := (hb3.block E (by simp [hE])).trans hE2
  go_wp2_with fail
  refine (M1.out _ G4).mono ?_
  rintro e w3 ⟨rfl, hb5⟩
  have hb6 := hb4.trans (hb5.mono hb4.size)
  have G6 := G.below hb6
  have HR := Lib.hid (show CtR E w a b c (D : Int) w3 from ⟨hb6, G6, (hb5.block E (Array.getElem?_eq_some_iff.1 hE4).1).trans hE4⟩)
  clear hb1 hs1 hb2 hb3 hb4 hb5 hb6 G2 G4 G6 hE2 hE4 hc3
  go_wp2_with fail
  refine wp_region_slots_at rfl rfl (fun base ys => ((((base.set 20 (ys 0)).set 21 (ys 1)).set 22 (ys 2)).set 23 (ys 3)).set 7 (ys 4)) (BelowI _ (CtR E w a b c (D : Int)) (ctI (.agg #[.int .i64 a, .int .i64 b, .int .i64 c, .int .i64 (D : Int)]) z)) (fun _ => undef) (by kernel_rfl) (below_start ((CtR_up E w a b c (D : Int)) w3 w3.drew ⟨rfl, rfl, rfl, Nat.le_refl _, fun _ _ => rfl⟩ HR.out)) ?h
  case h =>
    intro F hF
    simp only [List.set_cons_succ, List.set_cons_zero] at hF
    subst hF
    refine ⟨rfl, ?_, ?_⟩
    refine ⟨?_, ?_⟩
    · refine SlotStep.below (CtR_up E w a b c (D : Int)) (ctI_up (.agg #[.int .i64 a, .int .i64 b, .int .i64 c, .int .i64 (D : Int)]) z) ?_
      intro ys W hR hd K hK
      go_simp
      refine (OK.out W hR.2.1).mono ?_
      rintro e w5 ⟨rfl, hb5⟩
      have hK2 := hK (.string (tz 240000)) _ hb5 rfl
      simp (config := { decide := true }) only [upd, if_true, if_false] at hK2
      exact hK2
    refine ⟨?_, ?_⟩
    · refine SlotStep.below (CtR_up E w a b c (D : Int)) (ctI_up (.agg #[.int .i64 a, .int .i64 b, .int .i64 c, .int .i64 (D : Int)]) z) ?_
      intro ys W hR hd K hK
      have c0 := cell4_0 hR.2.2
      have c1 := cell4_1 hR.2.2
      have c2 := cell4_2 hR.2.2
      have c3 := cell4_3 hR.2.2
      go_simp
      have hK2 := hK (.agg #[.int .i64 a, .int .i64 b, .int .i64 c, .int .i64 (D : Int)]) _ (Below.refl _ _) rfl
      simp (config := { decide := true }) only [upd, if_true, if_false] at hK2
      exact hK2
    refine ⟨?_, ?_⟩
    · refine SlotStep.below (CtR_up E w a b c (D : Int)) (ctI_up (.agg #[.int .i64 a, .int .i64 b, .int .i64 c, .int .i64 (D : Int)]) z) ?_
      intro ys W hR hd K hK
      have dd1 : ys 1 = (.agg #[.int .i64 a, .int .i64 b, .int .i64 c, .int .i64 (D : Int)]) := hd 1 (by kernel_rfl) (by decide)
      go_simp
      refine (LO.out W hR.2.1).mono ?_
      rintro e w5 ⟨rfl, hb5⟩
      have hK2 := hK (.string (tz z)) _ hb5 rfl
      simp (config := { decide := true }) only [upd, if_true, if_false, dd1] at hK2
      exact hK2
    refine ⟨?_, ?_⟩
    · refine SlotStep.below (CtR_up E w a b c (D : Int)) (ctI_up (.agg #[.int .i64 a, .int .i64 b, .int .i64 c, .int .i64 (D : Int)]) z) ?_
      intro ys W hR hd K hK
      have dd0 : ys 0 = (.string (tz 240000)) := hd 0 (by kernel_rfl) (by decide)
      have dd2 : ys 2 = (.string (tz z)) := hd 2 (by kernel_rfl) (by decide)
      go_simp
      refine (M2.out W hR.2.1).mono ?_
      rintro e w5 ⟨rfl, hb5⟩
      have hK2 := hK (.string (tz (240000 * z))) _ hb5 rfl
      simp (config := { decide := true }) only [upd, if_true, if_false, dd0, dd2] at hK2
      exact hK2
    refine ⟨?_, ?_⟩
    · refine SlotStep.below (CtR_up E w a b c (D : Int)) (ctI_up (.agg #[.int .i64 a, .int .i64 b, .int .i64 c, .int .i64 (D : Int)]) z) ?_
      intro ys W hR hd K hK
      have dd3 : ys 3 = (.string (tz (240000 * z))) := hd 3 (by kernel_rfl) (by decide)
      go_simp
      have hK2 := hK (.string (tz (240000 * z))) _ (Below.refl _ _) rfl
      simp (config := { decide := true }) only [upd, if_true, if_false, dd3] at hK2
      exact hK2
    trivial
    · intro L ys W hL hI
      obtain ⟨hR, hj⟩ := hI
      have y4 : ys 4 = .string (tz (240000 * z)) := hj 4 (by decide) (hL 4 (by decide))
      have hb6 := hR.1
      have G6 := hR.2.1
      clear hR hj
      simp only [y4]
      go_wp2_with fail
      refine (M3.out _ G6).mono ?_
      rintro e w4 ⟨rfl, hb7⟩
      have hb8 := hb6.trans (hb7.mono hb6.size)
      have G8 := G.below hb8
      go_wp2_with fail
      refine (M4.out _ G8).mono ?_
      rintro e w5 ⟨rfl, hb9⟩
      have hb10 := hb8.trans (hb9.mono hb8.size)
      have G10 := G.below hb10
      go_wp2_with fail
      refine (FL.out _ G10).mono ?_
      rintro e w6 ⟨rfl, hb11⟩
      have HW := Lib.hid (hb10.trans (hb11.mono hb10.size))
      clear hb6 hb7 hb8 hb9 hb10 hb11 G6 G8 G10
      go_wp2
      refine bodyPost_ret (v := .tuple #[.int .i64 q, .int .i64 0]) (by simp [results, Tryz.results22, go_sem]) rfl ⟨rfl, HW.out⟩
end Go.Proofs.YthdoadkdofgenaaGreatDoor
