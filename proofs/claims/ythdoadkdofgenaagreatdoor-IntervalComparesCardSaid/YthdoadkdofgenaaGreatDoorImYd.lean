/- The reference's digits to the base 10000: carries of sums and differences, rows of them in memory; short, toInt. -/
import Derived.Test.YthdoadkdofgenaaGreatDoorImYs
namespace Go.Proofs.YthdoadkdofgenaaGreatDoor
open Go Go.RowKit Go.Shelf

/-- The reference's base. -/
def RB : Nat := 10000
theorem rb2 : 2 ≤ RB := by unfold RB; omega
theorem rb_pos (k : Nat) : 0 < RB ^ k := Nat.pow_pos (by unfold RB; omega)
def rnd (x : Nat) : Nat := Im.nd RB x
def rdg (x k : Nat) : Nat := Im.dg RB x k
theorem rdg_lt (x k : Nat) : rdg x k < 10000 := Im.dg_lt rb2 x k
theorem rnd_zero : rnd 0 = 0 := Im.nd_zero
theorem rnd_pos_iff {x : Nat} : rnd x = 0 ↔ x = 0 := ⟨Im.nd_eq_zero rb2, fun h => by subst h; exact Im.nd_zero⟩
theorem rdg_above {x k : Nat} (h : rnd x ≤ k) : rdg x k = 0 := Im.dg_above rb2 h
theorem rdg_high {x k : Nat} (h : x < RB ^ k) : rdg x k = 0 := Im.dg_high h
theorem rmod_succ (n k : Nat) : n % RB ^ (k + 1) = n % RB ^ k + RB ^ k * rdg n k := Im.mod_succ n k
theorem rdiv_dg (x k : Nat) : x / RB ^ k = RB * (x / RB ^ (k + 1)) + rdg x k := by
  unfold rdg Im.dg
  rw [Nat.pow_succ, ← Nat.div_div_eq_div_mul]
  exact (Nat.div_add_mod _ _).symm
theorem rlt_of_nd {x y : Nat} (h : rnd x < rnd y) : x < y := by
  rcases Nat.lt_or_ge x y with h1 | h1
  · exact h1
  · have := Im.nd_mono rb2 h1
    unfold rnd at h
    omega
theorem rlt_of_dg {x y k : Nat} (h : x / RB ^ (k + 1) = y / RB ^ (k + 1)) (hd : rdg x k < rdg y k) : x < y := by
  have h1 := rdiv_dg x k
  have h2 := rdiv_dg y k
  rw [h] at h1
  rcases Nat.lt_or_ge x y with h3 | h3
  · exact h3
  · have := Nat.div_le_div_right (c := RB ^ k) h3
    omega

/-- The carry of a sum or difference at place k. -/
def cw (s : Int) (x y k : Nat) : Int := (((x % RB ^ k : Nat) : Int) + s * ((y % RB ^ k : Nat) : Int)) / ((RB ^ k : Nat) : Int)
theorem cw_zero (s : Int) (x y : Nat) : cw s x y 0 = 0 := by simp [cw, Nat.mod_one]
theorem cw_bounds {s : Int} (hs : s = 1 ∨ s = -1) (x y k : Nat) : -1 ≤ cw s x y k ∧ cw s x y k ≤ 1 := by
  have hp := rb_pos k
  have h1 := Nat.mod_lt x hp
  have h2 := Nat.mod_lt y hp
  unfold cw
  generalize x % RB ^ k = a at *
  generalize y % RB ^ k = b at *
  generalize RB ^ k = p at *
  have hp' : (0 : Int) < (p : Int) := by omega
  refine ⟨(Int.le_ediv_iff_mul_le hp').2 ?_, Int.lt_add_one_iff.1 ((Int.ediv_lt_iff_lt_mul hp').2 ?_)⟩
  · rcases hs with rfl | rfl <;> omega
  · rcases hs with rfl | rfl <;> omega
theorem cw_sum (s : Int) (x y k : Nat) : cw s x y k + (rdg x k : Int) + s * (rdg y k : Int) = (((x % RB ^ (k + 1) : Nat) : Int) + s * ((y % RB ^ (k + 1) : Nat) : Int)) / ((RB ^ k : Nat) : Int) := by
  have hp := rb_pos k
  rw [rmod_succ x k, rmod_succ y k]
  unfold cw
  generalize x % RB ^ k = a at *
  generalize y % RB ^ k = b at *
  generalize rdg x k = c at *
  generalize rdg y k = d at *
  generalize RB ^ k = p at *
  rw [show (((a + p * c : Nat) : Int) + s * ((b + p * d : Nat) : Int)) = ((a : Int) + s * (b : Int)) + (p : Int) * ((c : Int) + s * (d : Int)) by
    push_cast
    rw [Int.mul_add, Int.mul_add, Int.mul_left_comm s (p : Int) (d : Int)]
    omega]
  rw [Int.add_mul_ediv_left _ _ (by omega)]
  omega
theorem cw_next (s : Int) (x y k : Nat) : (cw s x y k + (rdg x k : Int) + s * (rdg y k : Int)) / 10000 = cw s x y (k + 1) := by
  rw [cw_sum]
  unfold cw
  rw [show ((RB ^ (k + 1) : Nat) : Int) = ((RB ^ k : Nat) : Int) * 10000 by rw [Nat.pow_succ, Int.natCast_mul]; rfl, Int.ediv_ediv_of_nonneg (by omega)]
theorem cw_digit {s : Int} {x y z : Nat} (hz : (z : Int) = (x : Int) + s * (y : Int)) (k : Nat) : (cw s x y k + (rdg x k : Int) + s * (rdg y k : Int)) % 10000 = (rdg z k : Int) := by
  have h1 := cw_sum s x y k
  have hp := rb_pos k
  have hq := rb_pos (k + 1)
  rw [h1]
  unfold rdg Im.dg
  have ex := Nat.div_add_mod x (RB ^ (k + 1))
  have ey := Nat.div_add_mod y (RB ^ (k + 1))
  generalize x % RB ^ (k + 1) = a at *
  generalize y % RB ^ (k + 1) = b at *
  generalize x / RB ^ (k + 1) = c at *
  generalize y / RB ^ (k + 1) = d at *
  have e2 : (z : Int) = ((a : Int) + s * (b : Int)) + ((RB ^ k : Nat) : Int) * (10000 * ((c : Int) + s * (d : Int))) := by
    rw [hz, ← ex, ← ey, Nat.pow_succ]
    generalize RB ^ k = p
    simp only [Int.natCast_add, Int.natCast_mul, show ((RB : Nat) : Int) = 10000 from rfl]
    generalize (p : Int) = p
    rw [show (10000 : Int) * ((c : Int) + s * (d : Int)) = 10000 * (c : Int) + 10000 * (s * (d : Int)) by rw [Int.mul_add], Int.mul_add, Int.mul_add, Int.mul_assoc, Int.mul_assoc, show s * (p * (10000 * (d : Int))) = p * (10000 * (s * (d : Int))) by rw [Int.mul_left_comm s p, Int.mul_left_comm s 10000]]
    omega
  have e3 : ((z / RB ^ k : Nat) : Int) = ((a : Int) + s * (b : Int)) / ((RB ^ k : Nat) : Int) + 10000 * ((c : Int) + s * (d : Int)) := by
    rw [Int.natCast_ediv, e2, Int.add_mul_ediv_left _ _ (by omega)]
  have e4 : ((z / RB ^ k % RB : Nat) : Int) = ((z / RB ^ k : Nat) : Int) % 10000 := by rw [Int.natCast_emod]; rfl
  rw [e4, e3, Int.add_mul_emod_self_left]
theorem cw_high {s : Int} {x y z k : Nat} (hz : (z : Int) = (x : Int) + s * (y : Int)) (hx : x < RB ^ k) (hy : y < RB ^ k) : cw s x y k = ((z / RB ^ k : Nat) : Int) := by
  unfold cw
  rw [Nat.mod_eq_of_lt hx, Nat.mod_eq_of_lt hy, ← hz, Int.natCast_ediv]

/-- A row of n digits of x, at a slice. -/
structure RRow (W : World) (sa : Option Addr) (n cap b o x : Nat) : Prop where
  cap : n ≤ cap
  at_ : 0 < n → sa = some ⟨b, o, none⟩
  lt : 0 < n → b < W.heap.size
  cell : ∀ k, k < n → W.cell? ⟨b, o + k, none⟩ = some (.int .i64 (rdg x k : Nat))
  fits : x < RB ^ n
theorem RRow.below {W W' : World} {B : Nat} {sa : Option Addr} {n cap b o x : Nat} (h : RRow W sa n cap b o x) (hb : Below B W W') (hB : W.heap.size ≤ B) : RRow W' sa n cap b o x :=
  ⟨h.cap, h.at_, fun p => Nat.lt_of_lt_of_le (h.lt p) hb.size, fun k hk => (hb.cell (p := ⟨b, o + k, none⟩) (Nat.lt_of_lt_of_le (h.lt (by omega)) hB)).trans (h.cell k hk), h.fits⟩
theorem RRow.trim {W : World} {sa : Option Addr} {n cap b o x : Nat} (h : RRow W sa n cap b o x) : RRow W sa (rnd x) cap b o x := by
  have hn : rnd x ≤ n := Im.nd_le rb2 h.fits
  exact ⟨Nat.le_trans hn h.cap, fun p => h.at_ (by omega), fun p => h.lt (by omega), fun k hk => h.cell k (by omega), Im.lt_pow_nd rb2 x⟩
/-- The magnitude x in the reference's memory, at a slice. -/
def RMag (W : World) (v : Value) (x : Nat) : Prop := ∃ (sa : Option Addr) (cap b o : Nat), v = .slice sa (rnd x) cap ∧ RRow W sa (rnd x) cap b o x
theorem RMag.below {W W' : World} {B : Nat} {v : Value} {x : Nat} (h : RMag W v x) (hb : Below B W W') (hB : W.heap.size ≤ B) : RMag W' v x := by
  obtain ⟨sa, cap, b, o, h1, h2⟩ := h
  exact ⟨sa, cap, b, o, h1, h2.below hb hB⟩
theorem RMag.call {W W' : World} {v : Value} {x : Nat} (h : RMag W v x) (hb : Below W.heap.size W W') : RMag W' v x := h.below hb (Nat.le_refl _)

def rpcs (x n : Nat) : List Value := (List.range n).map fun k => .int .i64 (rdg x k : Nat)
theorem rpcs_succ (x n : Nat) : rpcs x (n + 1) = rpcs x n ++ [.int .i64 (rdg x n : Nat)] := by simp [rpcs, List.range_succ]
theorem info_int : (Tryz.prog.info? 3).map (fun i => (i.zero, i.size, i.bytes)) = some (some (.int .i64 0), 1, 8) := by kernel_rfl
theorem rrow_of {W : World} {b0 n x : Nat} {v : Value} (h : W.ownsRow b0 3 1 v n (rpcs x n)) (hx : x < RB ^ n) :
    ∃ sa cap b, v = .slice sa n cap ∧ RRow W sa n cap b 0 x ∧ (0 < n → b0 ≤ b) := by
  have hc := fun g hv => h.cells (g := g) hv
  obtain ⟨_, h2⟩ := h
  rcases h2 with ⟨rfl, hn⟩ | ⟨g, cap, cur, rfl, hg, hh, hcap, hcm, hsz, htk⟩
  · obtain rfl : n = 0 := by first | omega | (have := hn.1; omega) | (have := hn.2; simp [rpcs] at this; omega)
    exact ⟨none, 0, 0, rfl, ⟨Nat.le_refl _, fun p => absurd p (Nat.lt_irrefl _), fun p => absurd p (Nat.lt_irrefl _), fun k hk => absurd hk (Nat.not_lt_zero _), hx⟩, fun p => absurd p (Nat.lt_irrefl _)⟩
  · refine ⟨some ⟨g, 0, none⟩, cap, g, rfl, ⟨hcap, fun _ => rfl, fun _ => (Array.getElem?_eq_some_iff.1 hh).1, fun k hk => ?_, hx⟩, fun _ => hg⟩
    have := hc g rfl k (.int .i64 (rdg x k : Nat)) (by simp [rpcs, hk])
    have e : (⟨g, 0, none⟩ : Addr).add k = ⟨g, 0 + k, none⟩ := by unfold Addr.add; split <;> simp_all
    rwa [e] at this

set_option maxHeartbeats 1000000 in
theorem short_any (sa : Option Addr) (n cap b o x : Nat) (w : World) (h : RRow w sa n cap b o x) (hn : n ≤ 1048576) :
    Calls Tryz.prog 110 #[.slice sa n cap] w fun e w' => e = .returned (.slice sa (rnd x) cap) ∧ w' = w := by
  have H := Lib.hid h
  have hcap := h.cap
  clear h
  go_enter Tryz.func110, Tryz.ntmps110
  go_wp2_with fail
  go_loop [0] (fun v => ∃ m : Nat, m ≤ n ∧ v = .slice sa m cap ∧ x < RB ^ m) (fun v => match v with | .slice _ m _ => m | _ => 0)
  case atStart => exact ⟨n, Nat.le_refl _, rfl, H.out.fits⟩
  case round =>
    obtain ⟨m, hm, rfl, hx⟩ := hrel
    have HX := Lib.hid hx
    clear hx
    cases m with
    | zero =>
      have hx0 : rnd x = 0 := rnd_pos_iff.2 (by have := HX.out; simp at this; omega)
      go_wp2
      go_ret
      exact ⟨rfl, rfl⟩
    | succ m =>
      have hc := H.out.cell m (by omega)
      obtain rfl := H.out.at_ (by omega)
      have hl := rdg_lt x m
      have hd1 : rdg x m ≠ 0 → rnd x = m + 1 := fun h0 => Im.nd_of_dg rb2 HX.out h0
      have hd0 : rdg x m = 0 → x < RB ^ m := fun h0 => Im.lt_of_dg rb2 HX.out h0
      have HD1 := Lib.hid hd1
      have HD0 := Lib.hid hd0
      clear hd1 hd0
      generalize rdg x m = d at *
      by_cases h0 : d = 0
      · subst h0
        go_wp2
        go_round
        case rel => exact ⟨m, by omega, rfl, HD0.out rfl⟩
        case measure => simp
      · have h1 : ¬ (d : Int) = 0 := by omega
        go_wp2
        go_ret
        rw [HD1.out h0]
        exact ⟨rfl, rfl⟩
theorem toInt_any (c : Bool) (w : World) :
    Calls Tryz.prog 111 #[.bool c] w fun e w' => e = .returned (.int .i64 (if c then 1 else 0)) ∧ w' = w := by
  cases c with
  | true =>
    go_enter Tryz.func111, Tryz.ntmps111
    go_wp2
    go_ret
    exact ⟨rfl, rfl⟩
  | false =>
    go_enter Tryz.func111, Tryz.ntmps111
    go_wp2
    go_ret
    exact ⟨rfl, rfl⟩
theorem atoi_digits {l : List UInt8} (h3 : l ≠ []) (h4 : l.all Im.isD = true) (hl : l.length ≤ 18) : Lib.atoiAll l = .ok (Im.valL l : Int) := by
  have hlt := Im.val_lt h4
  have hp : 10 ^ l.length ≤ 10 ^ 18 := Nat.pow_le_pow_right (by decide) hl
  have hpm : Lib.parseMag l = .ok (Im.valL l) := by
    unfold Lib.parseMag
    rw [if_neg h3]
    have := parse_digits l 0 h4 (by omega)
    simpa using this
  cases l with
  | nil => exact absurd rfl h3
  | cons c r =>
    have hd : Im.isD c = true := List.all_eq_true.1 h4 c (by simp)
    have hd2 := Im.isD_iff.1 hd
    unfold Lib.atoiAll
    simp only
    rw [if_neg (by omega), hpm]
    simp only
    rw [if_neg (by omega), if_neg (by omega), if_neg (by omega)]
end Go.Proofs.YthdoadkdofgenaaGreatDoor
/- The reference's order and whole. -/
namespace Go.Proofs.YthdoadkdofgenaaGreatDoor
open Go Go.RowKit Go.Shelf

def cmpN (x y : Nat) : Int := if x < y then -1 else if y < x then 1 else 0

theorem order_len (sx : Option Addr) (nx cx : Nat) (sy : Option Addr) (ny cpy : Nat) (h : nx ≠ ny) (w : World) :
    Calls Tryz.prog 88 #[.slice sx nx cx, .slice sy ny cpy] w fun e w' => e = .returned (.int .i64 (if nx < ny then -1 else 1)) ∧ ∃ m, w' = w.drewN m := by
  have T := Lib.hid (fun c W => toInt_any c W)
  have h1 : ¬ ((nx : Int) = (ny : Int)) := by omega
  have h2 : ((nx : Int) == (ny : Int)) = false := by rw [beq_eq_false_iff_ne]; exact h1
  have h3 : ((nx : Int) != (ny : Int)) = true := by simp [bne, h2]
  by_cases hl : nx < ny
  · have h4 : ¬ (ny : Int) < (nx : Int) := by omega
    rw [if_pos hl]
    have T0 := Lib.hid (fun W => T.out false W)
    clear T h h2
    go_enter Tryz.func88, Tryz.ntmps88
    go_wp2_with fail
    refine (T0.out _).mono ?_
    rintro e w1 ⟨rfl, hww⟩
    subst w1
    go_wp2
    go_ret
    exact ⟨rfl, 0, rfl⟩
  · have h4 : (ny : Int) < (nx : Int) := by omega
    rw [if_neg hl]
    have T0 := Lib.hid (fun W => T.out true W)
    clear T h h2
    go_enter Tryz.func88, Tryz.ntmps88
    go_wp2_with fail
    refine (T0.out _).mono ?_
    rintro e w1 ⟨rfl, hww⟩
    subst w1
    go_wp2
    go_ret
    exact ⟨rfl, 0, rfl⟩

theorem drewN3 (w : World) (a b c : Nat) : ((w.drewN a).drewN b).drewN c = w.drewN (a + b + c) := by rw [World.drewN_drewN, World.drewN_drewN, Nat.add_assoc]
set_option maxHeartbeats 1000000 in
theorem order_same (sx : Option Addr) (n cx bx ox x : Nat) (sy : Option Addr) (cpy by_ oy y : Nat) (w : World) (hx : RRow w sx n cx bx ox x) (hy : RRow w sy n cpy by_ oy y) (hn : n ≤ 1048576) :
    Calls Tryz.prog 88 #[.slice sx n cx, .slice sy n cpy] w fun e w' => e = .returned (.int .i64 (cmpN x y)) ∧ ∃ m, w' = w.drewN m := by
  have HX := Lib.hid hx
  have HY := Lib.hid hy
  have T0 := Lib.hid (fun W => toInt_any false W)
  have T1 := Lib.hid (fun W => toInt_any true W)
  have hcx := hx.cap
  have hcy := hy.cap
  clear hx hy
  obtain ⟨R, hR⟩ : ∃ R, cmpN x y = R := ⟨_, rfl⟩
  have HR := Lib.hid hR
  rw [hR]
  clear hR
  go_enter Tryz.func88, Tryz.ntmps88
  go_wp2_with fail
  go_loopw [5] (fun i wr => ∃ k m : Nat, k ≤ n ∧ i = .int .i64 ((k : Int) - 1) ∧ wr = w.drewN m ∧ x / RB ^ k = y / RB ^ k) (fun i _ => (intOf i + 1).toNat)
  case atStart => exact ⟨n, 0, Nat.le_refl _, rfl, rfl, by rw [Nat.div_eq_of_lt HX.out.fits, Nat.div_eq_of_lt HY.out.fits]⟩
  case round =>
    obtain ⟨k, m, hk, rfl, rfl, he⟩ := hrel
    cases k with
    | zero =>
      have hxy : x = y := by simpa using he
      have hr : R = 0 := by rw [← HR.out, hxy]; unfold cmpN; simp
      subst hr
      clear he hxy
      go_wp2
      go_ret
      exact ⟨rfl, m, rfl⟩
    | succ k =>
      have hki : ((k + 1 : Nat) : Int) - 1 = (k : Int) := by omega
      rw [hki]
      have HK := Lib.hid hki
      have ca := HX.out.cell k (by omega)
      have cb := HY.out.cell k (by omega)
      obtain rfl := HX.out.at_ (by omega)
      obtain rfl := HY.out.at_ (by omega)
      have hl1 := @rlt_of_dg x y k he
      have hl2 := @rlt_of_dg y x k he.symm
      have he2 : rdg x k = rdg y k → x / RB ^ k = y / RB ^ k := fun h => by rw [rdiv_dg x k, rdiv_dg y k, he, h]
      have HL1 := Lib.hid hl1
      have HL2 := Lib.hid hl2
      have HE2 := Lib.hid he2
      have hk1 : (k : Int) < (n : Int) := by omega
      clear he hl1 hl2 he2 hki
      generalize rdg x k = d1 at *
      generalize rdg y k = d2 at *
      by_cases hd : d1 = d2
      · subst hd
        go_wp2_with (go_quiet (fail))
        go_roundw
        case rel => exact ⟨k, _, by omega, by go_num, rfl, HE2.out rfl⟩
        case measure => simp [intOf]
      · have hd1 : ¬ (d1 : Int) = (d2 : Int) := by omega
        have hd2 : ((d1 : Int) != (d2 : Int)) = true := by simpa using hd1
        rcases Nat.lt_or_ge d1 d2 with h2 | h2
        · have h3 : ¬ (d2 : Int) < (d1 : Int) := by omega
          have hr : R = -1 := by rw [← HR.out]; unfold cmpN; rw [if_pos (HL1.out h2)]
          subst hr
          clear hd h2
          go_wp2_with (go_quiet ((refine still_more (T0.out _ |>.mono fun _ _ h => ⟨h.1, h.2.symm⟩))))
          go_ret
          exact ⟨rfl, _, rfl⟩
        · have h3 : (d2 : Int) < (d1 : Int) := by omega
          have hlt := HL2.out (by omega)
          have hr : R = 1 := by rw [← HR.out]; unfold cmpN; rw [if_neg (by omega), if_pos hlt]
          subst hr
          clear hd h2 hlt
          go_wp2_with (go_quiet ((refine still_more (T1.out _ |>.mono fun _ _ h => ⟨h.1, h.2.symm⟩))))
          go_ret
          exact ⟨rfl, _, drewN3 w _ _ _⟩
theorem order_any (sx : Option Addr) (cx bx ox x : Nat) (sy : Option Addr) (cpy by_ oy y : Nat) (w : World) (hx : RRow w sx (rnd x) cx bx ox x) (hy : RRow w sy (rnd y) cpy by_ oy y) (hn : rnd x ≤ 1048576) :
    Calls Tryz.prog 88 #[.slice sx (rnd x) cx, .slice sy (rnd y) cpy] w fun e w' => e = .returned (.int .i64 (cmpN x y)) ∧ ∃ m, w' = w.drewN m := by
  by_cases h : rnd x = rnd y
  · rw [← h] at hy ⊢
    exact order_same sx (rnd x) cx bx ox x sy cpy by_ oy y w hx hy hn
  · have e : cmpN x y = if rnd x < rnd y then -1 else 1 := by
      unfold cmpN
      by_cases h1 : rnd x < rnd y
      · rw [if_pos h1, if_pos (rlt_of_nd h1)]
      · have h2 := rlt_of_nd (show rnd y < rnd x by omega)
        rw [if_neg h1, if_neg (by omega), if_pos h2]
    rw [e]
    exact order_len sx (rnd x) cx sy (rnd y) cpy h w
theorem order_mag (v u : Value) (x y : Nat) (w : World) (hx : RMag w v x) (hy : RMag w u y) (hn : rnd x ≤ 1048576) :
    Calls Tryz.prog 88 #[v, u] w fun e w' => e = .returned (.int .i64 (cmpN x y)) ∧ ∃ m, w' = w.drewN m := by
  obtain ⟨sx, cx, bx, ox, rfl, h1⟩ := hx
  obtain ⟨sy, cy, by_, oy, rfl, h2⟩ := hy
  exact order_any sx cx bx ox x sy cy by_ oy y w h1 h2 hn

/-! ### whole -/
theorem itoa_plus {d : Nat} (h : d < 10000) : Lib.itoa (10000 + (d : Int)) = 49 :: Im.pad 4 d := by
  rw [Im.itoa_nonneg (by omega), show ((10000 : Int) + (d : Int)).toNat = 1 * 10 ^ 4 + d by omega, Im.dec_pad (by decide) h (by decide), Im.dec_small (by decide)]
  rfl
theorem dec_next {x k : Nat} (h : 0 < x / RB ^ (k + 1)) : Lib.decDigits (x / RB ^ k) = Lib.decDigits (x / RB ^ (k + 1)) ++ Im.pad 4 (rdg x k) := by
  rw [rdiv_dg x k, Nat.mul_comm]
  exact Im.dec_pad (w := 4) h (rdg_lt x k) (by decide)

set_option maxHeartbeats 2000000 in
theorem whole_some (mn : Bool) (sa : Option Addr) (cap b o x : Nat) (hx : x ≠ 0) (w : World) (h : RRow w sa (rnd x) cap b o x) (hn : rnd x ≤ 100000) (G : Gi w) :
    Calls Tryz.prog 82 #[.bool mn, .slice sa (rnd x) cap] w fun e w' => e = .returned (.string ⟨((if mn then [45] else []) ++ Lib.decDigits x).toArray⟩) ∧ Below w.heap.size w w' := by
  obtain ⟨n, hnn⟩ : ∃ n, rnd x = n := ⟨_, rfl⟩
  have hx0 : 0 < x := by omega
  have htop : x / RB ^ (n - 1) = rdg x (n - 1) := by
    rw [rdiv_dg x (n - 1)]
    have h1 : n - 1 + 1 = n := by have := Im.nd_pos rb2 hx0; change rnd x = _ at this; omega
    rw [h1, Nat.div_eq_of_lt (by rw [← hnn]; exact Im.lt_pow_nd rb2 x), Nat.mul_zero, Nat.zero_add]
  have hpos : ∀ k, k ≤ n - 1 → 0 < x / RB ^ k := fun k hk => Nat.div_pos (Nat.le_trans (Nat.pow_le_pow_right (by unfold RB; omega) hk) (by rw [← hnn]; exact Im.pow_nd_le rb2 hx0)) (rb_pos k)
  have hn0 : 0 < n := by
    rcases Nat.eq_zero_or_pos n with h0 | h0
    · exact absurd (rnd_pos_iff.1 (by omega)) hx
    · exact h0
  rw [hnn] at h hn ⊢
  have HT := Lib.hid htop
  have HP := Lib.hid hpos
  have H := Lib.hid h
  have hcap := h.cap
  have I := Lib.hid (fun (z : Int) h0 h1 W (g : Gi W) => Tryz.strconv_Itoa z h0 h1 W g.tab)
  have hn0' : ((n : Int) == 0) = false := by rw [beq_eq_false_iff_ne]; omega
  have hlt1 := rdg_lt x (n - 1)
  have c0 := h.cell (n - 1) (by omega)
  obtain rfl := h.at_ hn0
  clear hnn h htop hpos hx
  obtain ⟨N1, hN1⟩ : ∃ N1, n - 1 = N1 := ⟨_, rfl⟩
  have hN1i : (n : Int) - 1 = (N1 : Int) := by omega
  have hN2i : (n : Int) - 2 = (N1 : Int) - 1 := by omega
  have hN1n : N1 < n := by omega
  rw [hN1] at HT HP hlt1 c0
  have IT := Lib.hid (fun W g => I.out (rdg x N1 : Int) (by omega) (by omega) W g)
  rw [show Lib.itoa (rdg x N1 : Int) = Lib.decDigits (x / RB ^ N1) by rw [HT.out, Im.itoa_nonneg (by omega)]; rfl] at IT
  have hlen : ∀ k, k ≤ N1 → (Lib.decDigits (x / RB ^ k)).length ≤ 4 * (N1 + 1 - k) := fun k hk => by
    refine Im.dec_len ?_ (by omega)
    have : x < RB ^ (N1 + 1) := by have := H.out.fits; rwa [show N1 + 1 = n by omega]
    rw [Nat.div_lt_iff_lt_mul (rb_pos k), Nat.pow_mul, show (10 : Nat) ^ 4 = RB from rfl, ← Nat.pow_add, show N1 + 1 - k + k = N1 + 1 by omega]
    exact this
  have HLN := Lib.hid hlen
  clear hlen hN1
  cases mn with
  | false =>
    go_enter Tryz.func82, Tryz.ntmps82
    go_wp2_with fail
    refine (IT.out _ G).mono ?_
    rintro e w1 ⟨rfl, q1, os1, hw1⟩
    have hb1 : Below w.heap.size w w1 := by rw [hw1]; exact Lib.below_grow _ w (Nat.le_refl _) q1 os1
    clear hw1
    go_wp2_with fail
    go_loopw [5, 6] (fun s i wr => ∃ k : Nat, k ≤ N1 ∧ i = .int .i64 ((k : Int) - 1) ∧ s = .string ⟨(Lib.decDigits (x / RB ^ k)).toArray⟩ ∧ Below w.heap.size w wr) (fun _ i _ => (intOf i + 1).toNat)
    case atStart => exact ⟨N1, Nat.le_refl _, by first | rfl | go_num, rfl, hb1⟩
    case round =>
      obtain ⟨k, hk, rfl, rfl, hw⟩ := hrel
      cases k with
      | zero =>
        go_wp2
        go_ret
        exact ⟨ret_str (by simp), hw⟩
      | succ k =>
        have hki : ((k + 1 : Nat) : Int) - 1 = (k : Int) := by omega
        rw [hki]
        have ck := (hw.cell (p := ⟨b, o + k, none⟩) (H.out.lt (by omega))).trans (H.out.cell k (by omega))
        have hd := rdg_lt x k
        have hk0 : ¬ (k : Int) < 0 := by omega
        have hkn : (k : Int) < (n : Int) := by omega
        have IK := Lib.hid (fun W g => I.out (10000 + (rdg x k : Int)) (by omega) (by omega) W g)
        rw [itoa_plus hd] at IK
        have hpl := Im.pad_len (w := 4) (n := rdg x k) hd (by decide)
        have hdn := dec_next (x := x) (k := k) (HP.out (k + 1) (by omega))
        have hl1 := HLN.out (k + 1) (by omega)
        have hex : (ByteArray.mk (49 :: Im.pad 4 (rdg x k)).toArray).extract 1 (ByteArray.mk (49 :: Im.pad 4 (rdg x k)).toArray).size = ⟨(Im.pad 4 (rdg x k)).toArray⟩ := by
          apply ext_bytes
          rw [extract_list, ← size_list, List.take_length]; rfl
        have hsz : (ByteArray.mk (49 :: Im.pad 4 (rdg x k)).toArray).size = 5 := by rw [size_mk, List.length_cons, hpl]
        rw [hsz] at hex
        have hcat : (ByteArray.mk (Lib.decDigits (x / RB ^ (k + 1))).toArray) ++ (ByteArray.mk (Im.pad 4 (rdg x k)).toArray) = ⟨(Lib.decDigits (x / RB ^ k)).toArray⟩ := by
          apply ext_bytes
          rw [hdn]; simp
        have hs2 : (ByteArray.mk (Im.pad 4 (rdg x k)).toArray).size = 4 := by rw [size_mk, hpl]
        have hs3 : (ByteArray.mk (Lib.decDigits (x / RB ^ (k + 1))).toArray).size ≤ 400004 := by rw [size_mk]; omega
        obtain ⟨E, hE⟩ : ∃ E : ByteArray, ⟨(49 :: Im.pad 4 (rdg x k)).toArray⟩ = E := ⟨_, rfl⟩
        obtain ⟨P4, hP4⟩ : ∃ P4 : ByteArray, ⟨(Im.pad 4 (rdg x k)).toArray⟩ = P4 := ⟨_, rfl⟩
        obtain ⟨S, hS⟩ : ∃ S : ByteArray, ⟨(Lib.decDigits (x / RB ^ (k + 1))).toArray⟩ = S := ⟨_, rfl⟩
        rw [hE] at hex hsz IK
        rw [hP4] at hex hs2 hcat
        rw [hS] at hcat hs3 ⊢
        have hcl : ¬ 9223372036854775807 < S.size + P4.size := by omega
        have HCAT := Lib.hid hcat
        have hb0 := hw.size
        clear hdn hl1 hpl hE hP4 hS hcat
        generalize rdg x k = d at *
        go_wp2_with fail
        refine (IK.out _ (G.below hw)).mono ?_
        rintro e w3 ⟨rfl, q3, os3, hw3⟩
        have hb3 : Below w.heap.size w w3 := by rw [hw3]; exact hw.trans (Lib.below_grow _ wr hb0 q3 os3)
        clear hw3
        go_wp2_with (go_quiet (fail))
        go_roundw
        case rel => exact ⟨k, by omega, by go_num, by first | rw [HCAT.out] | (rw [← HCAT.out]; rfl), by first | exact hb3 | exact hb3.trans (drew_below _ _ |>.mono hb3.size)⟩
        case measure => simp [intOf]
  | true =>
    rw [show ((if true = true then [45] else []) ++ Lib.decDigits x) = 45 :: Lib.decDigits x from rfl]
    go_enter Tryz.func82, Tryz.ntmps82
    go_wp2_with fail
    refine (IT.out _ G).mono ?_
    rintro e w1 ⟨rfl, q1, os1, hw1⟩
    have hb1 : Below w.heap.size w w1 := by rw [hw1]; exact Lib.below_grow _ w (Nat.le_refl _) q1 os1
    clear hw1
    go_wp2_with fail
    go_loopw [5, 6] (fun s i wr => ∃ k : Nat, k ≤ N1 ∧ i = .int .i64 ((k : Int) - 1) ∧ s = .string ⟨(Lib.decDigits (x / RB ^ k)).toArray⟩ ∧ Below w.heap.size w wr) (fun _ i _ => (intOf i + 1).toNat)
    case atStart => exact ⟨N1, Nat.le_refl _, by first | rfl | go_num, rfl, hb1⟩
    case round =>
      obtain ⟨k, hk, rfl, rfl, hw⟩ := hrel
      cases k with
      | zero =>
        have hl0 := HLN.out 0 (by omega)
        have e0 : x / RB ^ 0 = x := by simp
        rw [e0] at hl0 ⊢
        have hcl : ¬ 9223372036854775807 < 1 + (Lib.decDigits x).length := by omega
        have hcl2 : ¬ 9223372036854775807 < 1 + (ByteArray.mk (Lib.decDigits x).toArray).size := by rw [size_mk]; omega
        clear e0
        go_wp2
        go_ret
        exact ⟨ret_str (ext_bytes (by simp)), hw⟩
      | succ k =>
        have hki : ((k + 1 : Nat) : Int) - 1 = (k : Int) := by omega
        rw [hki]
        have ck := (hw.cell (p := ⟨b, o + k, none⟩) (H.out.lt (by omega))).trans (H.out.cell k (by omega))
        have hd := rdg_lt x k
        have hk0 : ¬ (k : Int) < 0 := by omega
        have hkn : (k : Int) < (n : Int) := by omega
        have IK := Lib.hid (fun W g => I.out (10000 + (rdg x k : Int)) (by omega) (by omega) W g)
        rw [itoa_plus hd] at IK
        have hpl := Im.pad_len (w := 4) (n := rdg x k) hd (by decide)
        have hdn := dec_next (x := x) (k := k) (HP.out (k + 1) (by omega))
        have hl1 := HLN.out (k + 1) (by omega)
        have hex : (ByteArray.mk (49 :: Im.pad 4 (rdg x k)).toArray).extract 1 (ByteArray.mk (49 :: Im.pad 4 (rdg x k)).toArray).size = ⟨(Im.pad 4 (rdg x k)).toArray⟩ := by
          apply ext_bytes
          rw [extract_list, ← size_list, List.take_length]; rfl
        have hsz : (ByteArray.mk (49 :: Im.pad 4 (rdg x k)).toArray).size = 5 := by rw [size_mk, List.length_cons, hpl]
        rw [hsz] at hex
        have hcat : (ByteArray.mk (Lib.decDigits (x / RB ^ (k + 1))).toArray) ++ (ByteArray.mk (Im.pad 4 (rdg x k)).toArray) = ⟨(Lib.decDigits (x / RB ^ k)).toArray⟩ := by
          apply ext_bytes
          rw [hdn]; simp
        have hs2 : (ByteArray.mk (Im.pad 4 (rdg x k)).toArray).size = 4 := by rw [size_mk, hpl]
        have hs3 : (ByteArray.mk (Lib.decDigits (x / RB ^ (k + 1))).toArray).size ≤ 400004 := by rw [size_mk]; omega
        obtain ⟨E, hE⟩ : ∃ E : ByteArray, ⟨(49 :: Im.pad 4 (rdg x k)).toArray⟩ = E := ⟨_, rfl⟩
        obtain ⟨P4, hP4⟩ : ∃ P4 : ByteArray, ⟨(Im.pad 4 (rdg x k)).toArray⟩ = P4 := ⟨_, rfl⟩
        obtain ⟨S, hS⟩ : ∃ S : ByteArray, ⟨(Lib.decDigits (x / RB ^ (k + 1))).toArray⟩ = S := ⟨_, rfl⟩
        rw [hE] at hex hsz IK
        rw [hP4] at hex hs2 hcat
        rw [hS] at hcat hs3 ⊢
        have hcl : ¬ 9223372036854775807 < S.size + P4.size := by omega
        have HCAT := Lib.hid hcat
        have hb0 := hw.size
        clear hdn hl1 hpl hE hP4 hS hcat
        generalize rdg x k = d at *
        go_wp2_with fail
        refine (IK.out _ (G.below hw)).mono ?_
        rintro e w3 ⟨rfl, q3, os3, hw3⟩
        have hb3 : Below w.heap.size w w3 := by rw [hw3]; exact hw.trans (Lib.below_grow _ wr hb0 q3 os3)
        clear hw3
        go_wp2_with (go_quiet (fail))
        go_roundw
        case rel => exact ⟨k, by omega, by go_num, by first | rw [HCAT.out] | (rw [← HCAT.out]; rfl), by first | exact hb3 | exact hb3.trans (drew_below _ _ |>.mono hb3.size)⟩
        case measure => simp [intOf]
theorem whole_any (mn : Bool) (v : Value) (x : Nat) (w : World) (h : RMag w v x) (hn : rnd x ≤ 100000) (G : Gi w) :
    Calls Tryz.prog 82 #[.bool mn, v] w fun e w' => e = .returned (.string (tz (sv mn x))) ∧ Below w.heap.size w w' := by
  obtain ⟨sa, cap, b, o, rfl, hr⟩ := h
  by_cases h0 : x = 0
  · subst h0
    have e : tz (sv mn 0) = ⟨#[48]⟩ := by
      rw [show sv mn 0 = 0 by cases mn <;> rfl]
      unfold tz
      rw [show Lib.itoa 0 = [48] from (Im.itoa_nonneg (Int.le_refl 0)).trans Im.dec_zero]
    rw [e, rnd_zero]
    clear hr
    go_enter Tryz.func82, Tryz.ntmps82
    go_wp2
    go_ret
    exact ⟨rfl, Below.refl _ _⟩
  · have := whole_some mn sa cap b o x h0 w hr hn G
    refine this.mono fun e w' ⟨h1, h2⟩ => ⟨?_, h2⟩
    rw [h1]
    refine ret_str (ext_bytes ?_)
    unfold tz
    cases mn with
    | false => simp [sv, Im.itoa_nonneg (Int.natCast_nonneg x)]
    | true => rw [show sv true x = -(x : Int) from rfl, Im.itoa_neg (by omega), Int.natAbs_neg]; simp
end Go.Proofs.YthdoadkdofgenaaGreatDoor
/- The reference's both: sums and differences of rows. -/
namespace Go.Proofs.YthdoadkdofgenaaGreatDoor
open Go Go.RowKit Go.Shelf

theorem go_mod (c : Int) : (c.tmod 10000 + 10000).tmod 10000 = c % 10000 := by
  by_cases h : 0 ≤ c
  · rw [Int.tmod_eq_emod_of_nonneg h, Int.tmod_eq_emod_of_nonneg (by omega)]; omega
  · have e : c.tmod 10000 = -((-c) % 10000) := by
      rw [show c = -(-c) by omega, Int.neg_tmod, Int.tmod_eq_emod_of_nonneg (by omega), Int.neg_neg]
    rw [e, Int.tmod_eq_emod_of_nonneg (by omega)]; omega
theorem go_div (c : Int) : (c - c % 10000).tdiv 10000 = c / 10000 := by
  rw [show c - c % 10000 = 10000 * (c / 10000) by omega, Int.mul_tdiv_cancel_left _ (by decide)]
theorem info_both {W w1 : World} {B e size : Nat} {v : Value} {k : Nat} {xs : List Value} {o : Obj} (hB : B ≤ W.heap.size) (hrow : W.ownsRow B e size v k xs) (hg : (W.alloc o).grownBy w1 v.ownBlock) : Below B W w1 := grown_below hB hrow hg
set_option maxRecDepth 100000 in
set_option maxHeartbeats 4000000 in
theorem both_add (sx : Option Addr) (nx cx bx ox x : Nat) (sy : Option Addr) (ny cpy by_ oy y z : Nat) (hz : (z : Int) = (x : Int) + 1 * (y : Int)) (w : World) (hx : RRow w sx nx cx bx ox x) (hy : RRow w sy ny cpy by_ oy y) (hn1 : nx ≤ 200000) (hn2 : ny ≤ 200000) :
    Calls Tryz.prog 87 #[.slice sx nx cx, .slice sy ny cpy, .int .i64 1] w fun e w' => (∃ v, e = .returned v ∧ RMag w' v z) ∧ Below w.heap.size w w' := by
  obtain ⟨i0, hi0, hz0, hz1, hz2⟩ := info_parts info_int
  have HX := Lib.hid hx
  have HY := Lib.hid hy
  have hcx := hx.cap
  have hcy := hy.cap
  have SH := Lib.hid (fun sa n cap b o W h hn => short_any sa n cap b o z W h hn)
  have HDG := Lib.hid (fun k => cw_digit (s := 1) hz k)
  have HNX := Lib.hid (fun k => cw_next 1 x y k)
  have HBD := Lib.hid (fun k => cw_bounds (s := 1) (by decide) x y k)
  have hfx : ∀ k, nx ≤ k → x < RB ^ k := fun k hk => Nat.lt_of_lt_of_le hx.fits (Nat.pow_le_pow_right (by unfold RB; omega) hk)
  have hfy : ∀ k, ny ≤ k → y < RB ^ k := fun k hk => Nat.lt_of_lt_of_le hy.fits (Nat.pow_le_pow_right (by unfold RB; omega) hk)
  have HFX := Lib.hid hfx
  have HFY := Lib.hid hfy
  have hhigh : ∀ k, nx ≤ k → ny ≤ k → cw 1 x y k = ((z / RB ^ k : Nat) : Int) := fun k h1 h2 => cw_high hz (hfx k h1) (hfy k h2)
  have HH := Lib.hid hhigh
  have hend : ∀ k, nx ≤ k → ny ≤ k → cw 1 x y (k + 1) = 0 := fun k h1 h2 => by
    rw [hhigh (k + 1) (by omega) (by omega), Nat.div_eq_of_lt]
    · rfl
    · have a1 := hfx k h1
      have a2 := hfy k h2
      rw [Nat.pow_succ]
      generalize RB ^ k = p at *
      unfold RB
      omega
  have HE := Lib.hid hend
  clear hx hy hz hfx hfy hhigh hend
  go_enter Tryz.func87, Tryz.ntmps87
  go_wp2_with fail
  go_loopw [7, 8, 9] (fun v c i wr => ∃ k : Nat, k ≤ nx + ny + 1 ∧ i = .int .i64 (k : Int) ∧ c = .int .i64 (cw 1 x y k) ∧ wr.ownsRow w.heap.size 3 1 v k (rpcs z k) ∧ Below w.heap.size w wr) (fun _ _ i _ => nx + ny + 2 - (intOf i).toNat)
  case atStart => exact ⟨0, by omega, rfl, by rw [cw_zero], World.ownsRow_nil _ _ _ _, Below.refl _ _⟩
  case round =>
    obtain ⟨k, hk, rfl, rfl, hrow, hw⟩ := hrel
    have hsz := hw.size
    have bd := HBD.out k
    have dg := HDG.out k
    have nx_ := HNX.out k
    have D3 := rpcs_succ z k
    have ll1 := rdg_lt x k
    have ll2 := rdg_lt y k
    have hr0 := rdg_lt z k
    by_cases h1 : k < nx
    · by_cases h2 : k < ny
      · have hkx : (k : Int) < (nx : Int) := by omega
        have ca := (hw.cell (p := ⟨bx, ox + k, none⟩) (HX.out.lt (by omega))).trans (HX.out.cell k (by omega))
        obtain rfl := HX.out.at_ (by omega)
        have hky : (k : Int) < (ny : Int) := by omega
        have cb := (hw.cell (p := ⟨by_, oy + k, none⟩) (HY.out.lt (by omega))).trans (HY.out.cell k (by omega))
        obtain rfl := HY.out.at_ (by omega)
        have hkk : k ≤ nx + ny := by omega
        obtain ⟨c2, hc2⟩ : ∃ c2, cw 1 x y (k + 1) = c2 := ⟨_, rfl⟩
        have bd2 := HBD.out (k + 1)
        rw [hc2] at nx_ bd2
        have HC2 := Lib.hid hc2
        clear hc2
        generalize cw 1 x y k = c at *
        generalize rdg x k = d1 at *
        generalize rdg y k = d2 at *
        obtain ⟨r, hr⟩ : ∃ r : Nat, rdg z k = r := ⟨_, rfl⟩
        rw [hr] at D3 dg hr0
        have ht : c + (d1 : Int) + (d2 : Int) = c + (d1 : Int) + (d2 : Int) := rfl
        have dg2 : (c + (d1 : Int) + (d2 : Int)) % 10000 = (r : Int) := by
          rw [← dg]; congr 1; omega
        have nx2 : (c + (d1 : Int) + (d2 : Int)) / 10000 = c2 := by
          rw [← nx_]; congr 1; omega
        have m1 := go_mod (c + (d1 : Int) + (d2 : Int))
        have m2 := go_div (c + (d1 : Int) + (d2 : Int))
        rw [dg2] at m1 m2
        rw [nx2] at m2
        obtain ⟨t1, ht1⟩ : ∃ t1 : Int, (c + (d1 : Int) + (d2 : Int)).tmod 10000 = t1 := ⟨_, rfl⟩
        have hb1 : -10000 < t1 ∧ t1 < 10000 := by
          have h9 : t1.natAbs < 10000 := by rw [← ht1, Int.natAbs_tmod]; exact Nat.mod_lt _ (by decide)
          omega
        rw [ht1] at m1
        have HD3 := Lib.hid D3
        clear D3 dg nx_ dg2 nx2 ht hr
        go_wp2_with (at_builtin; refine wpList_append_own _ rfl _ _ 120 rfl w.heap.size 3 i0 (.int .i64 0) 1 8 Tryz.underlying120 hi0 hz0 hz1 hz2 rfl (by decide) _ _ _ rfl (hrow.alloc _) ⟨wr.heap.size, 0, none⟩ 1 1 [.int .i64 (r : Int)] rfl rfl (cell_one_new _ _ _) (by simp [Value.oneCell']) (by unfold maxLen; omega) (by omega) (by simp; omega) ?_; intro v' w6 hown' hgrow _)
        have hb6 := grown_below hsz hrow hgrow
        go_roundw
        case rel => exact ⟨k + 1, by omega, by go_num, by rw [HC2.out], by rw [HD3.out]; simpa using hown', hw.trans hb6⟩
        case measure => simp [intOf]; omega
      · have hkx : (k : Int) < (nx : Int) := by omega
        have ca := (hw.cell (p := ⟨bx, ox + k, none⟩) (HX.out.lt (by omega))).trans (HX.out.cell k (by omega))
        obtain rfl := HX.out.at_ (by omega)
        have hky : ¬ (k : Int) < (ny : Int) := by omega
        have zy := rdg_high (HFY.out k (by omega))
        rw [zy] at dg nx_
        have hkk : k ≤ nx + ny := by omega
        obtain ⟨c2, hc2⟩ : ∃ c2, cw 1 x y (k + 1) = c2 := ⟨_, rfl⟩
        have bd2 := HBD.out (k + 1)
        rw [hc2] at nx_ bd2
        have HC2 := Lib.hid hc2
        clear hc2
        generalize cw 1 x y k = c at *
        generalize rdg x k = d1 at *
        obtain ⟨r, hr⟩ : ∃ r : Nat, rdg z k = r := ⟨_, rfl⟩
        rw [hr] at D3 dg hr0
        have ht : c + (d1 : Int) = c + (d1 : Int) := rfl
        have dg2 : (c + (d1 : Int)) % 10000 = (r : Int) := by
          rw [← dg]; congr 1; omega
        have nx2 : (c + (d1 : Int)) / 10000 = c2 := by
          rw [← nx_]; congr 1; omega
        have m1 := go_mod (c + (d1 : Int))
        have m2 := go_div (c + (d1 : Int))
        rw [dg2] at m1 m2
        rw [nx2] at m2
        obtain ⟨t1, ht1⟩ : ∃ t1 : Int, (c + (d1 : Int)).tmod 10000 = t1 := ⟨_, rfl⟩
        have hb1 : -10000 < t1 ∧ t1 < 10000 := by
          have h9 : t1.natAbs < 10000 := by rw [← ht1, Int.natAbs_tmod]; exact Nat.mod_lt _ (by decide)
          omega
        rw [ht1] at m1
        have HD3 := Lib.hid D3
        clear D3 dg nx_ dg2 nx2 ht hr
        go_wp2_with (at_builtin; refine wpList_append_own _ rfl _ _ 120 rfl w.heap.size 3 i0 (.int .i64 0) 1 8 Tryz.underlying120 hi0 hz0 hz1 hz2 rfl (by decide) _ _ _ rfl (hrow.alloc _) ⟨wr.heap.size, 0, none⟩ 1 1 [.int .i64 (r : Int)] rfl rfl (cell_one_new _ _ _) (by simp [Value.oneCell']) (by unfold maxLen; omega) (by omega) (by simp; omega) ?_; intro v' w6 hown' hgrow _)
        have hb6 := grown_below hsz hrow hgrow
        go_roundw
        case rel => exact ⟨k + 1, by omega, by go_num, by rw [HC2.out], by rw [HD3.out]; simpa using hown', hw.trans hb6⟩
        case measure => simp [intOf]; omega
    · by_cases h2 : k < ny
      · have hkx : ¬ (k : Int) < (nx : Int) := by omega
        have zx := rdg_high (HFX.out k (by omega))
        rw [zx] at dg nx_
        have hky : (k : Int) < (ny : Int) := by omega
        have cb := (hw.cell (p := ⟨by_, oy + k, none⟩) (HY.out.lt (by omega))).trans (HY.out.cell k (by omega))
        obtain rfl := HY.out.at_ (by omega)
        have hkk : k ≤ nx + ny := by omega
        obtain ⟨c2, hc2⟩ : ∃ c2, cw 1 x y (k + 1) = c2 := ⟨_, rfl⟩
        have bd2 := HBD.out (k + 1)
        rw [hc2] at nx_ bd2
        have HC2 := Lib.hid hc2
        clear hc2
        generalize cw 1 x y k = c at *
        generalize rdg y k = d2 at *
        obtain ⟨r, hr⟩ : ∃ r : Nat, rdg z k = r := ⟨_, rfl⟩
        rw [hr] at D3 dg hr0
        have ht : c + (d2 : Int) = c + (d2 : Int) := rfl
        have dg2 : (c + (d2 : Int)) % 10000 = (r : Int) := by
          rw [← dg]; congr 1; omega
        have nx2 : (c + (d2 : Int)) / 10000 = c2 := by
          rw [← nx_]; congr 1; omega
        have m1 := go_mod (c + (d2 : Int))
        have m2 := go_div (c + (d2 : Int))
        rw [dg2] at m1 m2
        rw [nx2] at m2
        obtain ⟨t1, ht1⟩ : ∃ t1 : Int, (c + (d2 : Int)).tmod 10000 = t1 := ⟨_, rfl⟩
        have hb1 : -10000 < t1 ∧ t1 < 10000 := by
          have h9 : t1.natAbs < 10000 := by rw [← ht1, Int.natAbs_tmod]; exact Nat.mod_lt _ (by decide)
          omega
        rw [ht1] at m1
        have HD3 := Lib.hid D3
        clear D3 dg nx_ dg2 nx2 ht hr
        go_wp2_with (at_builtin; refine wpList_append_own _ rfl _ _ 120 rfl w.heap.size 3 i0 (.int .i64 0) 1 8 Tryz.underlying120 hi0 hz0 hz1 hz2 rfl (by decide) _ _ _ rfl (hrow.alloc _) ⟨wr.heap.size, 0, none⟩ 1 1 [.int .i64 (r : Int)] rfl rfl (cell_one_new _ _ _) (by simp [Value.oneCell']) (by unfold maxLen; omega) (by omega) (by simp; omega) ?_; intro v' w6 hown' hgrow _)
        have hb6 := grown_below hsz hrow hgrow
        go_roundw
        case rel => exact ⟨k + 1, by omega, by go_num, by rw [HC2.out], by rw [HD3.out]; simpa using hown', hw.trans hb6⟩
        case measure => simp [intOf]; omega
      · by_cases hcz : cw 1 x y k = 0
        · have hzz := HH.out k (by omega) (by omega)
          rw [hcz] at hzz
          have hfit : z < RB ^ k := by
            rcases Nat.lt_or_ge z (RB ^ k) with h9 | h9
            · exact h9
            · have := Nat.div_pos h9 (rb_pos k)
              omega
          have hkx : ¬ (k : Int) < (nx : Int) := by omega
          have hky : ¬ (k : Int) < (ny : Int) := by omega
          rw [hcz]
          obtain ⟨sa, cap, b, rfl, hR, _⟩ := rrow_of hrow hfit
          have hS := Lib.hid (SH.out sa k cap b 0 wr hR (by omega))
          have hRt := Lib.hid hR.trim
          clear hzz hfit hR hrow dg nx_ D3 bd ll1 ll2 hr0 hcz
          go_wp2_with fail
          refine hS.out.mono ?_
          rintro e w7 ⟨rfl, hww⟩
          subst w7
          go_wp2
          go_ret
          exact ⟨⟨_, rfl, sa, cap, b, 0, rfl, hRt.out⟩, hw⟩
        · have hkx : ¬ (k : Int) < (nx : Int) := by omega
          have zx := rdg_high (HFX.out k (by omega))
          rw [zx] at dg nx_
          have hky : ¬ (k : Int) < (ny : Int) := by omega
          have zy := rdg_high (HFY.out k (by omega))
          rw [zy] at dg nx_
          have hc0 : ¬ cw 1 x y k = 0 := hcz
          have hend := HE.out k (by omega) (by omega)
          have hkk : k ≤ nx + ny := by
            rcases Nat.lt_or_ge (nx + ny) k with h9 | h9
            · exfalso
              have h8 := HE.out (k - 1) (by omega) (by omega)
              rw [show k - 1 + 1 = k by omega] at h8
              exact hc0 h8
            · exact h9
          obtain ⟨c2, hc2⟩ : ∃ c2, cw 1 x y (k + 1) = c2 := ⟨_, rfl⟩
          have bd2 := HBD.out (k + 1)
          rw [hc2] at nx_ bd2
          have HC2 := Lib.hid hc2
          clear hc2 hend hcz
          generalize cw 1 x y k = c at *
          obtain ⟨r, hr⟩ : ∃ r : Nat, rdg z k = r := ⟨_, rfl⟩
          rw [hr] at D3 dg hr0
          have ht : c = c := rfl
          have dg2 : (c) % 10000 = (r : Int) := by
            rw [← dg]; congr 1; omega
          have nx2 : (c) / 10000 = c2 := by
            rw [← nx_]; congr 1; omega
          have m1 := go_mod (c)
          have m2 := go_div (c)
          rw [dg2] at m1 m2
          rw [nx2] at m2
          obtain ⟨t1, ht1⟩ : ∃ t1 : Int, (c).tmod 10000 = t1 := ⟨_, rfl⟩
          have hb1 : -10000 < t1 ∧ t1 < 10000 := by
            have h9 : t1.natAbs < 10000 := by rw [← ht1, Int.natAbs_tmod]; exact Nat.mod_lt _ (by decide)
            omega
          rw [ht1] at m1
          have HD3 := Lib.hid D3
          clear D3 dg nx_ dg2 nx2 ht hr
          go_wp2_with (at_builtin; refine wpList_append_own _ rfl _ _ 120 rfl w.heap.size 3 i0 (.int .i64 0) 1 8 Tryz.underlying120 hi0 hz0 hz1 hz2 rfl (by decide) _ _ _ rfl (hrow.alloc _) ⟨wr.heap.size, 0, none⟩ 1 1 [.int .i64 (r : Int)] rfl rfl (cell_one_new _ _ _) (by simp [Value.oneCell']) (by unfold maxLen; omega) (by omega) (by simp; omega) ?_; intro v' w6 hown' hgrow _)
          have hb6 := grown_below hsz hrow hgrow
          go_roundw
          case rel => exact ⟨k + 1, by omega, by go_num, by rw [HC2.out], by rw [HD3.out]; simpa using hown', hw.trans hb6⟩
          case measure => simp [intOf]; omega
set_option maxRecDepth 100000 in
set_option maxHeartbeats 4000000 in
theorem both_sub (sx : Option Addr) (nx cx bx ox x : Nat) (sy : Option Addr) (ny cpy by_ oy y z : Nat) (hz : (z : Int) = (x : Int) + (-1) * (y : Int)) (w : World) (hx : RRow w sx nx cx bx ox x) (hy : RRow w sy ny cpy by_ oy y) (hn1 : nx ≤ 200000) (hn2 : ny ≤ 200000) :
    Calls Tryz.prog 87 #[.slice sx nx cx, .slice sy ny cpy, .int .i64 (-1)] w fun e w' => (∃ v, e = .returned v ∧ RMag w' v z) ∧ Below w.heap.size w w' := by
  obtain ⟨i0, hi0, hz0, hz1, hz2⟩ := info_parts info_int
  have HX := Lib.hid hx
  have HY := Lib.hid hy
  have hcx := hx.cap
  have hcy := hy.cap
  have SH := Lib.hid (fun sa n cap b o W h hn => short_any sa n cap b o z W h hn)
  have HDG := Lib.hid (fun k => cw_digit (s := (-1)) hz k)
  have HNX := Lib.hid (fun k => cw_next (-1) x y k)
  have HBD := Lib.hid (fun k => cw_bounds (s := (-1)) (by decide) x y k)
  have hfx : ∀ k, nx ≤ k → x < RB ^ k := fun k hk => Nat.lt_of_lt_of_le hx.fits (Nat.pow_le_pow_right (by unfold RB; omega) hk)
  have hfy : ∀ k, ny ≤ k → y < RB ^ k := fun k hk => Nat.lt_of_lt_of_le hy.fits (Nat.pow_le_pow_right (by unfold RB; omega) hk)
  have HFX := Lib.hid hfx
  have HFY := Lib.hid hfy
  have hhigh : ∀ k, nx ≤ k → ny ≤ k → cw (-1) x y k = ((z / RB ^ k : Nat) : Int) := fun k h1 h2 => cw_high hz (hfx k h1) (hfy k h2)
  have HH := Lib.hid hhigh
  have hend : ∀ k, nx ≤ k → ny ≤ k → cw (-1) x y (k + 1) = 0 := fun k h1 h2 => by
    rw [hhigh (k + 1) (by omega) (by omega), Nat.div_eq_of_lt]
    · rfl
    · have a1 := hfx k h1
      have a2 := hfy k h2
      rw [Nat.pow_succ]
      generalize RB ^ k = p at *
      unfold RB
      omega
  have HE := Lib.hid hend
  clear hx hy hz hfx hfy hhigh hend
  go_enter Tryz.func87, Tryz.ntmps87
  go_wp2_with fail
  go_loopw [7, 8, 9] (fun v c i wr => ∃ k : Nat, k ≤ nx + ny + 1 ∧ i = .int .i64 (k : Int) ∧ c = .int .i64 (cw (-1) x y k) ∧ wr.ownsRow w.heap.size 3 1 v k (rpcs z k) ∧ Below w.heap.size w wr) (fun _ _ i _ => nx + ny + 2 - (intOf i).toNat)
  case atStart => exact ⟨0, by omega, rfl, by rw [cw_zero], World.ownsRow_nil _ _ _ _, Below.refl _ _⟩
  case round =>
    obtain ⟨k, hk, rfl, rfl, hrow, hw⟩ := hrel
    have hsz := hw.size
    have bd := HBD.out k
    have dg := HDG.out k
    have nx_ := HNX.out k
    have D3 := rpcs_succ z k
    have ll1 := rdg_lt x k
    have ll2 := rdg_lt y k
    have hr0 := rdg_lt z k
    by_cases h1 : k < nx
    · by_cases h2 : k < ny
      · have hkx : (k : Int) < (nx : Int) := by omega
        have ca := (hw.cell (p := ⟨bx, ox + k, none⟩) (HX.out.lt (by omega))).trans (HX.out.cell k (by omega))
        obtain rfl := HX.out.at_ (by omega)
        have hky : (k : Int) < (ny : Int) := by omega
        have cb := (hw.cell (p := ⟨by_, oy + k, none⟩) (HY.out.lt (by omega))).trans (HY.out.cell k (by omega))
        obtain rfl := HY.out.at_ (by omega)
        have hkk : k ≤ nx + ny := by omega
        obtain ⟨c2, hc2⟩ : ∃ c2, cw (-1) x y (k + 1) = c2 := ⟨_, rfl⟩
        have bd2 := HBD.out (k + 1)
        rw [hc2] at nx_ bd2
        have HC2 := Lib.hid hc2
        clear hc2
        generalize cw (-1) x y k = c at *
        generalize rdg x k = d1 at *
        generalize rdg y k = d2 at *
        obtain ⟨r, hr⟩ : ∃ r : Nat, rdg z k = r := ⟨_, rfl⟩
        rw [hr] at D3 dg hr0
        have ht : c + (d1 : Int) + -(d2 : Int) = c + (d1 : Int) + -(d2 : Int) := rfl
        have dg2 : (c + (d1 : Int) + -(d2 : Int)) % 10000 = (r : Int) := by
          rw [← dg]; congr 1; omega
        have nx2 : (c + (d1 : Int) + -(d2 : Int)) / 10000 = c2 := by
          rw [← nx_]; congr 1; omega
        have m1 := go_mod (c + (d1 : Int) + -(d2 : Int))
        have m2 := go_div (c + (d1 : Int) + -(d2 : Int))
        rw [dg2] at m1 m2
        rw [nx2] at m2
        obtain ⟨t1, ht1⟩ : ∃ t1 : Int, (c + (d1 : Int) + -(d2 : Int)).tmod 10000 = t1 := ⟨_, rfl⟩
        have hb1 : -10000 < t1 ∧ t1 < 10000 := by
          have h9 : t1.natAbs < 10000 := by rw [← ht1, Int.natAbs_tmod]; exact Nat.mod_lt _ (by decide)
          omega
        rw [ht1] at m1
        have HD3 := Lib.hid D3
        clear D3 dg nx_ dg2 nx2 ht hr
        go_wp2_with (at_builtin; refine wpList_append_own _ rfl _ _ 120 rfl w.heap.size 3 i0 (.int .i64 0) 1 8 Tryz.underlying120 hi0 hz0 hz1 hz2 rfl (by decide) _ _ _ rfl (hrow.alloc _) ⟨wr.heap.size, 0, none⟩ 1 1 [.int .i64 (r : Int)] rfl rfl (cell_one_new _ _ _) (by simp [Value.oneCell']) (by unfold maxLen; omega) (by omega) (by simp; omega) ?_; intro v' w6 hown' hgrow _)
        have hb6 := grown_below hsz hrow hgrow
        go_roundw
        case rel => exact ⟨k + 1, by omega, by go_num, by rw [HC2.out], by rw [HD3.out]; simpa using hown', hw.trans hb6⟩
        case measure => simp [intOf]; omega
      · have hkx : (k : Int) < (nx : Int) := by omega
        have ca := (hw.cell (p := ⟨bx, ox + k, none⟩) (HX.out.lt (by omega))).trans (HX.out.cell k (by omega))
        obtain rfl := HX.out.at_ (by omega)
        have hky : ¬ (k : Int) < (ny : Int) := by omega
        have zy := rdg_high (HFY.out k (by omega))
        rw [zy] at dg nx_
        have hkk : k ≤ nx + ny := by omega
        obtain ⟨c2, hc2⟩ : ∃ c2, cw (-1) x y (k + 1) = c2 := ⟨_, rfl⟩
        have bd2 := HBD.out (k + 1)
        rw [hc2] at nx_ bd2
        have HC2 := Lib.hid hc2
        clear hc2
        generalize cw (-1) x y k = c at *
        generalize rdg x k = d1 at *
        obtain ⟨r, hr⟩ : ∃ r : Nat, rdg z k = r := ⟨_, rfl⟩
        rw [hr] at D3 dg hr0
        have ht : c + (d1 : Int) = c + (d1 : Int) := rfl
        have dg2 : (c + (d1 : Int)) % 10000 = (r : Int) := by
          rw [← dg]; congr 1; omega
        have nx2 : (c + (d1 : Int)) / 10000 = c2 := by
          rw [← nx_]; congr 1; omega
        have m1 := go_mod (c + (d1 : Int))
        have m2 := go_div (c + (d1 : Int))
        rw [dg2] at m1 m2
        rw [nx2] at m2
        obtain ⟨t1, ht1⟩ : ∃ t1 : Int, (c + (d1 : Int)).tmod 10000 = t1 := ⟨_, rfl⟩
        have hb1 : -10000 < t1 ∧ t1 < 10000 := by
          have h9 : t1.natAbs < 10000 := by rw [← ht1, Int.natAbs_tmod]; exact Nat.mod_lt _ (by decide)
          omega
        rw [ht1] at m1
        have HD3 := Lib.hid D3
        clear D3 dg nx_ dg2 nx2 ht hr
        go_wp2_with (at_builtin; refine wpList_append_own _ rfl _ _ 120 rfl w.heap.size 3 i0 (.int .i64 0) 1 8 Tryz.underlying120 hi0 hz0 hz1 hz2 rfl (by decide) _ _ _ rfl (hrow.alloc _) ⟨wr.heap.size, 0, none⟩ 1 1 [.int .i64 (r : Int)] rfl rfl (cell_one_new _ _ _) (by simp [Value.oneCell']) (by unfold maxLen; omega) (by omega) (by simp; omega) ?_; intro v' w6 hown' hgrow _)
        have hb6 := grown_below hsz hrow hgrow
        go_roundw
        case rel => exact ⟨k + 1, by omega, by go_num, by rw [HC2.out], by rw [HD3.out]; simpa using hown', hw.trans hb6⟩
        case measure => simp [intOf]; omega
    · by_cases h2 : k < ny
      · have hkx : ¬ (k : Int) < (nx : Int) := by omega
        have zx := rdg_high (HFX.out k (by omega))
        rw [zx] at dg nx_
        have hky : (k : Int) < (ny : Int) := by omega
        have cb := (hw.cell (p := ⟨by_, oy + k, none⟩) (HY.out.lt (by omega))).trans (HY.out.cell k (by omega))
        obtain rfl := HY.out.at_ (by omega)
        have hkk : k ≤ nx + ny := by omega
        obtain ⟨c2, hc2⟩ : ∃ c2, cw (-1) x y (k + 1) = c2 := ⟨_, rfl⟩
        have bd2 := HBD.out (k + 1)
        rw [hc2] at nx_ bd2
        have HC2 := Lib.hid hc2
        clear hc2
        generalize cw (-1) x y k = c at *
        generalize rdg y k = d2 at *
        obtain ⟨r, hr⟩ : ∃ r : Nat, rdg z k = r := ⟨_, rfl⟩
        rw [hr] at D3 dg hr0
        have ht : c + -(d2 : Int) = c + -(d2 : Int) := rfl
        have dg2 : (c + -(d2 : Int)) % 10000 = (r : Int) := by
          rw [← dg]; congr 1; omega
        have nx2 : (c + -(d2 : Int)) / 10000 = c2 := by
          rw [← nx_]; congr 1; omega
        have m1 := go_mod (c + -(d2 : Int))
        have m2 := go_div (c + -(d2 : Int))
        rw [dg2] at m1 m2
        rw [nx2] at m2
        obtain ⟨t1, ht1⟩ : ∃ t1 : Int, (c + -(d2 : Int)).tmod 10000 = t1 := ⟨_, rfl⟩
        have hb1 : -10000 < t1 ∧ t1 < 10000 := by
          have h9 : t1.natAbs < 10000 := by rw [← ht1, Int.natAbs_tmod]; exact Nat.mod_lt _ (by decide)
          omega
        rw [ht1] at m1
        have HD3 := Lib.hid D3
        clear D3 dg nx_ dg2 nx2 ht hr
        go_wp2_with (at_builtin; refine wpList_append_own _ rfl _ _ 120 rfl w.heap.size 3 i0 (.int .i64 0) 1 8 Tryz.underlying120 hi0 hz0 hz1 hz2 rfl (by decide) _ _ _ rfl (hrow.alloc _) ⟨wr.heap.size, 0, none⟩ 1 1 [.int .i64 (r : Int)] rfl rfl (cell_one_new _ _ _) (by simp [Value.oneCell']) (by unfold maxLen; omega) (by omega) (by simp; omega) ?_; intro v' w6 hown' hgrow _)
        have hb6 := grown_below hsz hrow hgrow
        go_roundw
        case rel => exact ⟨k + 1, by omega, by go_num, by rw [HC2.out], by rw [HD3.out]; simpa using hown', hw.trans hb6⟩
        case measure => simp [intOf]; omega
      · by_cases hcz : cw (-1) x y k = 0
        · have hzz := HH.out k (by omega) (by omega)
          rw [hcz] at hzz
          have hfit : z < RB ^ k := by
            rcases Nat.lt_or_ge z (RB ^ k) with h9 | h9
            · exact h9
            · have := Nat.div_pos h9 (rb_pos k)
              omega
          have hkx : ¬ (k : Int) < (nx : Int) := by omega
          have hky : ¬ (k : Int) < (ny : Int) := by omega
          rw [hcz]
          obtain ⟨sa, cap, b, rfl, hR, _⟩ := rrow_of hrow hfit
          have hS := Lib.hid (SH.out sa k cap b 0 wr hR (by omega))
          have hRt := Lib.hid hR.trim
          clear hzz hfit hR hrow dg nx_ D3 bd ll1 ll2 hr0 hcz
          go_wp2_with fail
          refine hS.out.mono ?_
          rintro e w7 ⟨rfl, hww⟩
          subst w7
          go_wp2
          go_ret
          exact ⟨⟨_, rfl, sa, cap, b, 0, rfl, hRt.out⟩, hw⟩
        · have hkx : ¬ (k : Int) < (nx : Int) := by omega
          have zx := rdg_high (HFX.out k (by omega))
          rw [zx] at dg nx_
          have hky : ¬ (k : Int) < (ny : Int) := by omega
          have zy := rdg_high (HFY.out k (by omega))
          rw [zy] at dg nx_
          have hc0 : ¬ cw (-1) x y k = 0 := hcz
          have hend := HE.out k (by omega) (by omega)
          have hkk : k ≤ nx + ny := by
            rcases Nat.lt_or_ge (nx + ny) k with h9 | h9
            · exfalso
              have h8 := HE.out (k - 1) (by omega) (by omega)
              rw [show k - 1 + 1 = k by omega] at h8
              exact hc0 h8
            · exact h9
          obtain ⟨c2, hc2⟩ : ∃ c2, cw (-1) x y (k + 1) = c2 := ⟨_, rfl⟩
          have bd2 := HBD.out (k + 1)
          rw [hc2] at nx_ bd2
          have HC2 := Lib.hid hc2
          clear hc2 hend hcz
          generalize cw (-1) x y k = c at *
          obtain ⟨r, hr⟩ : ∃ r : Nat, rdg z k = r := ⟨_, rfl⟩
          rw [hr] at D3 dg hr0
          have ht : c = c := rfl
          have dg2 : (c) % 10000 = (r : Int) := by
            rw [← dg]; congr 1; omega
          have nx2 : (c) / 10000 = c2 := by
            rw [← nx_]; congr 1; omega
          have m1 := go_mod (c)
          have m2 := go_div (c)
          rw [dg2] at m1 m2
          rw [nx2] at m2
          obtain ⟨t1, ht1⟩ : ∃ t1 : Int, (c).tmod 10000 = t1 := ⟨_, rfl⟩
          have hb1 : -10000 < t1 ∧ t1 < 10000 := by
            have h9 : t1.natAbs < 10000 := by rw [← ht1, Int.natAbs_tmod]; exact Nat.mod_lt _ (by decide)
            omega
          rw [ht1] at m1
          have HD3 := Lib.hid D3
          clear D3 dg nx_ dg2 nx2 ht hr
          go_wp2_with (at_builtin; refine wpList_append_own _ rfl _ _ 120 rfl w.heap.size 3 i0 (.int .i64 0) 1 8 Tryz.underlying120 hi0 hz0 hz1 hz2 rfl (by decide) _ _ _ rfl (hrow.alloc _) ⟨wr.heap.size, 0, none⟩ 1 1 [.int .i64 (r : Int)] rfl rfl (cell_one_new _ _ _) (by simp [Value.oneCell']) (by unfold maxLen; omega) (by omega) (by simp; omega) ?_; intro v' w6 hown' hgrow _)
          have hb6 := grown_below hsz hrow hgrow
          go_roundw
          case rel => exact ⟨k + 1, by omega, by go_num, by rw [HC2.out], by rw [HD3.out]; simpa using hown', hw.trans hb6⟩
          case measure => simp [intOf]; omega
end Go.Proofs.YthdoadkdofgenaaGreatDoor
