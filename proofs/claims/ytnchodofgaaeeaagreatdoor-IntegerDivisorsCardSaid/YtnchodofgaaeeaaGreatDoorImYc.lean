/- The reference's order and whole. -/
import Derived.Test.YtnchodofgaaeeaaGreatDoorImY
namespace Go.Proofs.YtnchodofgaaeeaaGreatDoor
open Go Go.RowKit Go.Shelf

def cmpN (x y : Nat) : Int := if x < y then -1 else if y < x then 1 else 0

theorem order_len (sx : Option Addr) (nx cx : Nat) (sy : Option Addr) (ny cpy : Nat) (h : nx ≠ ny) (w : World) :
    Calls Tryz.prog 72 #[.slice sx nx cx, .slice sy ny cpy] w fun e w' => e = .returned (.int .i64 (if nx < ny then -1 else 1)) ∧ ∃ m, w' = w.drewN m := by
  have T := Lib.hid (fun c W => toInt_any c W)
  have h1 : ¬ ((nx : Int) = (ny : Int)) := by omega
  have h2 : ((nx : Int) == (ny : Int)) = false := by rw [beq_eq_false_iff_ne]; exact h1
  have h3 : ((nx : Int) != (ny : Int)) = true := by simp [bne, h2]
  by_cases hl : nx < ny
  · have h4 : ¬ (ny : Int) < (nx : Int) := by omega
    rw [if_pos hl]
    have T0 := Lib.hid (fun W => T.out false W)
    clear T h h2
    go_enter Tryz.func72, Tryz.ntmps72
    go_wp2_with fail
    refine (T0.out _).mono ?_
    rintro e w1 ⟨rfl, hww⟩
    subst w1
    go_wp2
    go_ret
    exact ⟨rfl, 0, rfl⟩
  · have h4 : (ny : Int) < (nx : Int) := by omega
    rw [if_neg hl]
    have T0 := Lib.hid (fun W => T.out true W)
    clear T h h2
    go_enter Tryz.func72, Tryz.ntmps72
    go_wp2_with fail
    refine (T0.out _).mono ?_
    rintro e w1 ⟨rfl, hww⟩
    subst w1
    go_wp2
    go_ret
    exact ⟨rfl, 0, rfl⟩

theorem drewN3 (w : World) (a b c : Nat) : ((w.drewN a).drewN b).drewN c = w.drewN (a + b + c) := by rw [World.drewN_drewN, World.drewN_drewN, Nat.add_assoc]
set_option maxHeartbeats 1000000 in
theorem order_same (sx : Option Addr) (n cx bx ox x : Nat) (sy : Option Addr) (cpy by_ oy y : Nat) (w : World) (hx : RRow w sx n cx bx ox x) (hy : RRow w sy n cpy by_ oy y) (hn : n ≤ 1048576) :
    Calls Tryz.prog 72 #[.slice sx n cx, .slice sy n cpy] w fun e w' => e = .returned (.int .i64 (cmpN x y)) ∧ ∃ m, w' = w.drewN m := by
  have HX := Lib.hid hx
  have HY := Lib.hid hy
  have T0 := Lib.hid (fun W => toInt_any false W)
  have T1 := Lib.hid (fun W => toInt_any true W)
  have hcx := hx.cap
  have hcy := hy.cap
  clear hx hy
  obtain ⟨R, hR⟩ : ∃ R, cmpN x y = R := ⟨_, rfl⟩
  have HR := Lib.hid hR
  rw [hR]
  clear hR
  go_enter Tryz.func72, Tryz.ntmps72
  go_wp2_with fail
  go_loopw [5] (fun i wr => ∃ k m : Nat, k ≤ n ∧ i = .int .i64 ((k : Int) - 1) ∧ wr = w.drewN m ∧ x / RB ^ k = y / RB ^ k) (fun i _ => (intOf i + 1).toNat)
  case atStart => exact ⟨n, 0, Nat.le_refl _, rfl, rfl, by rw [Nat.div_eq_of_lt HX.out.fits, Nat.div_eq_of_lt HY.out.fits]⟩
  case round =>
    obtain ⟨k, m, hk, rfl, rfl, he⟩ := hrel
    cases k with
    | zero =>
      have hxy : x = y := by simpa using he
      have hr : R = 0 := by rw [← HR.out, hxy]; unfold cmpN; simp
      subst hr
      clear he hxy
      go_wp2
      go_ret
      exact ⟨rfl, m, rfl⟩
    | succ k =>
      have hki : ((k + 1 : Nat) : Int) - 1 = (k : Int) := by omega
      rw [hki]
      have HK := Lib.hid hki
      have ca := HX.out.cell k (by omega)
      have cb := HY.out.cell k (by omega)
      obtain rfl := HX.out.at_ (by omega)
      obtain rfl := HY.out.at_ (by omega)
      have hl1 := @rlt_of_dg x y k he
      have hl2 := @rlt_of_dg y x k he.symm
      have he2 : rdg x k = rdg y k → x / RB ^ k = y / RB ^ k := fun h => by rw [rdiv_dg x k, rdiv_dg y k, he, h]
      have HL1 := Lib.hid hl1
      have HL2 := Lib.hid hl2
      have HE2 := Lib.hid he2
      have hk1 : (k : Int) < (n : Int) := by omega
      clear he hl1 hl2 he2 hki
      generalize rdg x k = d1 at *
      generalize rdg y k = d2 at *
      by_cases hd : d1 = d2
      · subst hd
        go_wp2_with (go_quiet (fail))
        go_roundw
        case rel => exact ⟨k, _, by omega, by go_num, rfl, HE2.out rfl⟩
        case measure => simp [intOf]
      · have hd1 : ¬ (d1 : Int) = (d2 : Int) := by omega
        have hd2 : ((d1 : Int) != (d2 : Int)) = true := by simpa using hd1
        rcases Nat.lt_or_ge d1 d2 with h2 | h2
        · have h3 : ¬ (d2 : Int) < (d1 : Int) := by omega
          have hr : R = -1 := by rw [← HR.out]; unfold cmpN; rw [if_pos (HL1.out h2)]
          subst hr
          clear hd h2
          go_wp2_with (go_quiet ((refine still_more (T0.out _ |>.mono fun _ _ h => ⟨h.1, h.2.symm⟩))))
          go_ret
          exact ⟨rfl, _, rfl⟩
        · have h3 : (d2 : Int) < (d1 : Int) := by omega
          have hlt := HL2.out (by omega)
          have hr : R = 1 := by rw [← HR.out]; unfold cmpN; rw [if_neg (by omega), if_pos hlt]
          subst hr
          clear hd h2 hlt
          go_wp2_with (go_quiet ((refine still_more (T1.out _ |>.mono fun _ _ h => ⟨h.1, h.2.symm⟩))))
          go_ret
          exact ⟨rfl, _, drewN3 w _ _ _⟩
theorem order_any (sx : Option Addr) (cx bx ox x : Nat) (sy : Option Addr) (cpy by_ oy y : Nat) (w : World) (hx : RRow w sx (rnd x) cx bx ox x) (hy : RRow w sy (rnd y) cpy by_ oy y) (hn : rnd x ≤ 1048576) :
    Calls Tryz.prog 72 #[.slice sx (rnd x) cx, .slice sy (rnd y) cpy] w fun e w' => e = .returned (.int .i64 (cmpN x y)) ∧ ∃ m, w' = w.drewN m := by
  by_cases h : rnd x = rnd y
  · rw [← h] at hy ⊢
    exact order_same sx (rnd x) cx bx ox x sy cpy by_ oy y w hx hy hn
  · have e : cmpN x y = if rnd x < rnd y then -1 else 1 := by
      unfold cmpN
      by_cases h1 : rnd x < rnd y
      · rw [if_pos h1, if_pos (rlt_of_nd h1)]
      · have h2 := rlt_of_nd (show rnd y < rnd x by omega)
        rw [if_neg h1, if_neg (by omega), if_pos h2]
    rw [e]
    exact order_len sx (rnd x) cx sy (rnd y) cpy h w
theorem order_mag (v u : Value) (x y : Nat) (w : World) (hx : RMag w v x) (hy : RMag w u y) (hn : rnd x ≤ 1048576) :
    Calls Tryz.prog 72 #[v, u] w fun e w' => e = .returned (.int .i64 (cmpN x y)) ∧ ∃ m, w' = w.drewN m := by
  obtain ⟨sx, cx, bx, ox, rfl, h1⟩ := hx
  obtain ⟨sy, cy, by_, oy, rfl, h2⟩ := hy
  exact order_any sx cx bx ox x sy cy by_ oy y w h1 h2 hn

/-! ### whole -/
theorem itoa_plus {d : Nat} (h : d < 10000) : Lib.itoa (10000 + (d : Int)) = 49 :: Im.pad 4 d := by
  rw [Im.itoa_nonneg (by omega), show ((10000 : Int) + (d : Int)).toNat = 1 * 10 ^ 4 + d by omega, Im.dec_pad (by decide) h (by decide), Im.dec_small (by decide)]
  rfl
theorem dec_next {x k : Nat} (h : 0 < x / RB ^ (k + 1)) : Lib.decDigits (x / RB ^ k) = Lib.decDigits (x / RB ^ (k + 1)) ++ Im.pad 4 (rdg x k) := by
  rw [rdiv_dg x k, Nat.mul_comm]
  exact Im.dec_pad (w := 4) h (rdg_lt x k) (by decide)

set_option maxHeartbeats 2000000 in
theorem whole_some (mn : Bool) (sa : Option Addr) (cap b o x : Nat) (hx : x ≠ 0) (w : World) (h : RRow w sa (rnd x) cap b o x) (hn : rnd x ≤ 100000) (G : Gi w) :
    Calls Tryz.prog 70 #[.bool mn, .slice sa (rnd x) cap] w fun e w' => e = .returned (.string ⟨((if mn then [45] else []) ++ Lib.decDigits x).toArray⟩) ∧ Below w.heap.size w w' := by
  obtain ⟨n, hnn⟩ : ∃ n, rnd x = n := ⟨_, rfl⟩
  have hx0 : 0 < x := by omega
  have htop : x / RB ^ (n - 1) = rdg x (n - 1) := by
    rw [rdiv_dg x (n - 1)]
    have h1 : n - 1 + 1 = n := by have := Im.nd_pos rb2 hx0; change rnd x = _ at this; omega
    rw [h1, Nat.div_eq_of_lt (by rw [← hnn]; exact Im.lt_pow_nd rb2 x), Nat.mul_zero, Nat.zero_add]
  have hpos : ∀ k, k ≤ n - 1 → 0 < x / RB ^ k := fun k hk => Nat.div_pos (Nat.le_trans (Nat.pow_le_pow_right (by unfold RB; omega) hk) (by rw [← hnn]; exact Im.pow_nd_le rb2 hx0)) (rb_pos k)
  have hn0 : 0 < n := by
    rcases Nat.eq_zero_or_pos n with h0 | h0
    · exact absurd (rnd_pos_iff.1 (by omega)) hx
    · exact h0
  rw [hnn] at h hn ⊢
  have HT := Lib.hid htop
  have HP := Lib.hid hpos
  have H := Lib.hid h
  have hcap := h.cap
  have I := Lib.hid (fun (z : Int) h0 h1 W (g : Gi W) => Tryz.strconv_Itoa z h0 h1 W g.tab)
  have hn0' : ((n : Int) == 0) = false := by rw [beq_eq_false_iff_ne]; omega
  have hlt1 := rdg_lt x (n - 1)
  have c0 := h.cell (n - 1) (by omega)
  obtain rfl := h.at_ hn0
  clear hnn h htop hpos hx
  obtain ⟨N1, hN1⟩ : ∃ N1, n - 1 = N1 := ⟨_, rfl⟩
  have hN1i : (n : Int) - 1 = (N1 : Int) := by omega
  have hN2i : (n : Int) - 2 = (N1 : Int) - 1 := by omega
  have hN1n : N1 < n := by omega
  rw [hN1] at HT HP hlt1 c0
  have IT := Lib.hid (fun W g => I.out (rdg x N1 : Int) (by omega) (by omega) W g)
  rw [show Lib.itoa (rdg x N1 : Int) = Lib.decDigits (x / RB ^ N1) by rw [HT.out, Im.itoa_nonneg (by omega)]; rfl] at IT
  have hlen : ∀ k, k ≤ N1 → (Lib.decDigits (x / RB ^ k)).length ≤ 4 * (N1 + 1 - k) := fun k hk => by
    refine Im.dec_len ?_ (by omega)
    have : x < RB ^ (N1 + 1) := by have := H.out.fits; rwa [show N1 + 1 = n by omega]
    rw [Nat.div_lt_iff_lt_mul (rb_pos k), Nat.pow_mul, show (10 : Nat) ^ 4 = RB from rfl, ← Nat.pow_add, show N1 + 1 - k + k = N1 + 1 by omega]
    exact this
  have HLN := Lib.hid hlen
  clear hlen hN1
  cases mn with
  | false =>
    go_enter Tryz.func70, Tryz.ntmps70
    go_wp2_with fail
    refine (IT.out _ G).mono ?_
    rintro e w1 ⟨rfl, q1, os1, hw1⟩
    have hb1 : Below w.heap.size w w1 := by rw [hw1]; exact Lib.below_grow _ w (Nat.le_refl _) q1 os1
    clear hw1
    go_wp2_with fail
    go_loopw [5, 6] (fun s i wr => ∃ k : Nat, k ≤ N1 ∧ i = .int .i64 ((k : Int) - 1) ∧ s = .string ⟨(Lib.decDigits (x / RB ^ k)).toArray⟩ ∧ Below w.heap.size w wr) (fun _ i _ => (intOf i + 1).toNat)
    case atStart => exact ⟨N1, Nat.le_refl _, by first | rfl | go_num, rfl, hb1⟩
    case round =>
      obtain ⟨k, hk, rfl, rfl, hw⟩ := hrel
      cases k with
      | zero =>
        go_wp2
        go_ret
        exact ⟨ret_str (by simp), hw⟩
      | succ k =>
        have hki : ((k + 1 : Nat) : Int) - 1 = (k : Int) := by omega
        rw [hki]
        have ck := (hw.cell (p := ⟨b, o + k, none⟩) (H.out.lt (by omega))).trans (H.out.cell k (by omega))
        have hd := rdg_lt x k
        have hk0 : ¬ (k : Int) < 0 := by omega
        have hkn : (k : Int) < (n : Int) := by omega
        have IK := Lib.hid (fun W g => I.out (10000 + (rdg x k : Int)) (by omega) (by omega) W g)
        rw [itoa_plus hd] at IK
        have hpl := Im.pad_len (w := 4) (n := rdg x k) hd (by decide)
        have hdn := dec_next (x := x) (k := k) (HP.out (k + 1) (by omega))
        have hl1 := HLN.out (k + 1) (by omega)
        have hex : (ByteArray.mk (49 :: Im.pad 4 (rdg x k)).toArray).extract 1 (ByteArray.mk (49 :: Im.pad 4 (rdg x k)).toArray).size = ⟨(Im.pad 4 (rdg x k)).toArray⟩ := by
          apply ext_bytes
          rw [extract_list, ← size_list, List.take_length]; rfl
        have hsz : (ByteArray.mk (49 :: Im.pad 4 (rdg x k)).toArray).size = 5 := by rw [size_mk, List.length_cons, hpl]
        rw [hsz] at hex
        have hcat : (ByteArray.mk (Lib.decDigits (x / RB ^ (k + 1))).toArray) ++ (ByteArray.mk (Im.pad 4 (rdg x k)).toArray) = ⟨(Lib.decDigits (x / RB ^ k)).toArray⟩ := by
          apply ext_bytes
          rw [hdn]; simp
        have hs2 : (ByteArray.mk (Im.pad 4 (rdg x k)).toArray).size = 4 := by rw [size_mk, hpl]
        have hs3 : (ByteArray.mk (Lib.decDigits (x / RB ^ (k + 1))).toArray).size ≤ 400004 := by rw [size_mk]; omega
        obtain ⟨E, hE⟩ : ∃ E : ByteArray, ⟨(49 :: Im.pad 4 (rdg x k)).toArray⟩ = E := ⟨_, rfl⟩
        obtain ⟨P4, hP4⟩ : ∃ P4 : ByteArray, ⟨(Im.pad 4 (rdg x k)).toArray⟩ = P4 := ⟨_, rfl⟩
        obtain ⟨S, hS⟩ : ∃ S : ByteArray, ⟨(Lib.decDigits (x / RB ^ (k + 1))).toArray⟩ = S := ⟨_, rfl⟩
        rw [hE] at hex hsz IK
        rw [hP4] at hex hs2 hcat
        rw [hS] at hcat hs3 ⊢
        have hcl : ¬ 9223372036854775807 < S.size + P4.size := by omega
        have HCAT := Lib.hid hcat
        have hb0 := hw.size
        clear hdn hl1 hpl hE hP4 hS hcat
        generalize rdg x k = d at *
        go_wp2_with fail
        refine (IK.out _ (G.below hw)).mono ?_
        rintro e w3 ⟨rfl, q3, os3, hw3⟩
        have hb3 : Below w.heap.size w w3 := by rw [hw3]; exact hw.trans (Lib.below_grow _ wr hb0 q3 os3)
        clear hw3
        go_wp2_with (go_quiet (fail))
        go_roundw
        case rel => exact ⟨k, by omega, by go_num, by first | rw [HCAT.out] | (rw [← HCAT.out]; rfl), by first | exact hb3 | exact hb3.trans (drew_below _ _ |>.mono hb3.size)⟩
        case measure => simp [intOf]
  | true =>
    rw [show ((if true = true then [45] else []) ++ Lib.decDigits x) = 45 :: Lib.decDigits x from rfl]
    go_enter Tryz.func70, Tryz.ntmps70
    go_wp2_with fail
    refine (IT.out _ G).mono ?_
    rintro e w1 ⟨rfl, q1, os1, hw1⟩
    have hb1 : Below w.heap.size w w1 := by rw [hw1]; exact Lib.below_grow _ w (Nat.le_refl _) q1 os1
    clear hw1
    go_wp2_with fail
    go_loopw [5, 6] (fun s i wr => ∃ k : Nat, k ≤ N1 ∧ i = .int .i64 ((k : Int) - 1) ∧ s = .string ⟨(Lib.decDigits (x / RB ^ k)).toArray⟩ ∧ Below w.heap.size w wr) (fun _ i _ => (intOf i + 1).toNat)
    case atStart => exact ⟨N1, Nat.le_refl _, by first | rfl | go_num, rfl, hb1⟩
    case round =>
      obtain ⟨k, hk, rfl, rfl, hw⟩ := hrel
      cases k with
      | zero =>
        have hl0 := HLN.out 0 (by omega)
        have e0 : x / RB ^ 0 = x := by simp
        rw [e0] at hl0 ⊢
        have hcl : ¬ 9223372036854775807 < 1 + (Lib.decDigits x).length := by omega
        have hcl2 : ¬ 9223372036854775807 < 1 + (ByteArray.mk (Lib.decDigits x).toArray).size := by rw [size_mk]; omega
        clear e0
        go_wp2
        go_ret
        exact ⟨ret_str (ext_bytes (by simp)), hw⟩
      | succ k =>
        have hki : ((k + 1 : Nat) : Int) - 1 = (k : Int) := by omega
        rw [hki]
        have ck := (hw.cell (p := ⟨b, o + k, none⟩) (H.out.lt (by omega))).trans (H.out.cell k (by omega))
        have hd := rdg_lt x k
        have hk0 : ¬ (k : Int) < 0 := by omega
        have hkn : (k : Int) < (n : Int) := by omega
        have IK := Lib.hid (fun W g => I.out (10000 + (rdg x k : Int)) (by omega) (by omega) W g)
        rw [itoa_plus hd] at IK
        have hpl := Im.pad_len (w := 4) (n := rdg x k) hd (by decide)
        have hdn := dec_next (x := x) (k := k) (HP.out (k + 1) (by omega))
        have hl1 := HLN.out (k + 1) (by omega)
        have hex : (ByteArray.mk (49 :: Im.pad 4 (rdg x k)).toArray).extract 1 (ByteArray.mk (49 :: Im.pad 4 (rdg x k)).toArray).size = ⟨(Im.pad 4 (rdg x k)).toArray⟩ := by
          apply ext_bytes
          rw [extract_list, ← size_list, List.take_length]; rfl
        have hsz : (ByteArray.mk (49 :: Im.pad 4 (rdg x k)).toArray).size = 5 := by rw [size_mk, List.length_cons, hpl]
        rw [hsz] at hex
        have hcat : (ByteArray.mk (Lib.decDigits (x / RB ^ (k + 1))).toArray) ++ (ByteArray.mk (Im.pad 4 (rdg x k)).toArray) = ⟨(Lib.decDigits (x / RB ^ k)).toArray⟩ := by
          apply ext_bytes
          rw [hdn]; simp
        have hs2 : (ByteArray.mk (Im.pad 4 (rdg x k)).toArray).size = 4 := by rw [size_mk, hpl]
        have hs3 : (ByteArray.mk (Lib.decDigits (x / RB ^ (k + 1))).toArray).size ≤ 400004 := by rw [size_mk]; omega
        obtain ⟨E, hE⟩ : ∃ E : ByteArray, ⟨(49 :: Im.pad 4 (rdg x k)).toArray⟩ = E := ⟨_, rfl⟩
        obtain ⟨P4, hP4⟩ : ∃ P4 : ByteArray, ⟨(Im.pad 4 (rdg x k)).toArray⟩ = P4 := ⟨_, rfl⟩
        obtain ⟨S, hS⟩ : ∃ S : ByteArray, ⟨(Lib.decDigits (x / RB ^ (k + 1))).toArray⟩ = S := ⟨_, rfl⟩
        rw [hE] at hex hsz IK
        rw [hP4] at hex hs2 hcat
        rw [hS] at hcat hs3 ⊢
        have hcl : ¬ 9223372036854775807 < S.size + P4.size := by omega
        have HCAT := Lib.hid hcat
        have hb0 := hw.size
        clear hdn hl1 hpl hE hP4 hS hcat
        generalize rdg x k = d at *
        go_wp2_with fail
        refine (IK.out _ (G.below hw)).mono ?_
        rintro e w3 ⟨rfl, q3, os3, hw3⟩
        have hb3 : Below w.heap.size w w3 := by rw [hw3]; exact hw.trans (Lib.below_grow _ wr hb0 q3 os3)
        clear hw3
        go_wp2_with (go_quiet (fail))
        go_roundw
        case rel => exact ⟨k, by omega, by go_num, by first | rw [HCAT.out] | (rw [← HCAT.out]; rfl), by first | exact hb3 | exact hb3.trans (drew_below _ _ |>.mono hb3.size)⟩
        case measure => simp [intOf]
theorem whole_any (mn : Bool) (v : Value) (x : Nat) (w : World) (h : RMag w v x) (hn : rnd x ≤ 100000) (G : Gi w) :
    Calls Tryz.prog 70 #[.bool mn, v] w fun e w' => e = .returned (.string (tz (sv mn x))) ∧ Below w.heap.size w w' := by
  obtain ⟨sa, cap, b, o, rfl, hr⟩ := h
  by_cases h0 : x = 0
  · subst h0
    have e : tz (sv mn 0) = ⟨#[48]⟩ := by
      rw [show sv mn 0 = 0 by cases mn <;> rfl]
      unfold tz
      rw [show Lib.itoa 0 = [48] from (Im.itoa_nonneg (Int.le_refl 0)).trans Im.dec_zero]
    rw [e, rnd_zero]
    clear hr
    go_enter Tryz.func70, Tryz.ntmps70
    go_wp2
    go_ret
    exact ⟨rfl, Below.refl _ _⟩
  · have := whole_some mn sa cap b o x h0 w hr hn G
    refine this.mono fun e w' ⟨h1, h2⟩ => ⟨?_, h2⟩
    rw [h1]
    refine ret_str (ext_bytes ?_)
    unfold tz
    cases mn with
    | false => simp [sv, Im.itoa_nonneg (Int.natCast_nonneg x)]
    | true => rw [show sv true x = -(x : Int) from rfl, Im.itoa_neg (by omega), Int.natAbs_neg]; simp
end Go.Proofs.YtnchodofgaaeeaaGreatDoor
