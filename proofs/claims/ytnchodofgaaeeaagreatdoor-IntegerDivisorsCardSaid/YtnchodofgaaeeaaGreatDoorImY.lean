/- The reference's digits to the base 10000: carries of sums and differences, rows of them in memory; short, toInt. -/
import Derived.Test.YtnchodofgaaeeaaGreatDoorImU
namespace Go.Proofs.YtnchodofgaaeeaaGreatDoor
open Go Go.RowKit Go.Shelf

/-- The reference's base. -/
def RB : Nat := 10000
theorem rb2 : 2 ≤ RB := by unfold RB; omega
theorem rb_pos (k : Nat) : 0 < RB ^ k := Nat.pow_pos (by unfold RB; omega)
def rnd (x : Nat) : Nat := Im.nd RB x
def rdg (x k : Nat) : Nat := Im.dg RB x k
theorem rdg_lt (x k : Nat) : rdg x k < 10000 := Im.dg_lt rb2 x k
theorem rnd_zero : rnd 0 = 0 := Im.nd_zero
theorem rnd_pos_iff {x : Nat} : rnd x = 0 ↔ x = 0 := ⟨Im.nd_eq_zero rb2, fun h => by subst h; exact Im.nd_zero⟩
theorem rdg_above {x k : Nat} (h : rnd x ≤ k) : rdg x k = 0 := Im.dg_above rb2 h
theorem rdg_high {x k : Nat} (h : x < RB ^ k) : rdg x k = 0 := Im.dg_high h
theorem rmod_succ (n k : Nat) : n % RB ^ (k + 1) = n % RB ^ k + RB ^ k * rdg n k := Im.mod_succ n k
theorem rdiv_dg (x k : Nat) : x / RB ^ k = RB * (x / RB ^ (k + 1)) + rdg x k := by
  unfold rdg Im.dg
  rw [Nat.pow_succ, ← Nat.div_div_eq_div_mul]
  exact (Nat.div_add_mod _ _).symm
theorem rlt_of_nd {x y : Nat} (h : rnd x < rnd y) : x < y := by
  rcases Nat.lt_or_ge x y with h1 | h1
  · exact h1
  · have := Im.nd_mono rb2 h1
    unfold rnd at h
    omega
theorem rlt_of_dg {x y k : Nat} (h : x / RB ^ (k + 1) = y / RB ^ (k + 1)) (hd : rdg x k < rdg y k) : x < y := by
  have h1 := rdiv_dg x k
  have h2 := rdiv_dg y k
  rw [h] at h1
  rcases Nat.lt_or_ge x y with h3 | h3
  · exact h3
  · have := Nat.div_le_div_right (c := RB ^ k) h3
    omega

/-- The carry of a sum or difference at place k. -/
def cw (s : Int) (x y k : Nat) : Int := (((x % RB ^ k : Nat) : Int) + s * ((y % RB ^ k : Nat) : Int)) / ((RB ^ k : Nat) : Int)
theorem cw_zero (s : Int) (x y : Nat) : cw s x y 0 = 0 := by simp [cw, Nat.mod_one]
theorem cw_bounds {s : Int} (hs : s = 1 ∨ s = -1) (x y k : Nat) : -1 ≤ cw s x y k ∧ cw s x y k ≤ 1 := by
  have hp := rb_pos k
  have h1 := Nat.mod_lt x hp
  have h2 := Nat.mod_lt y hp
  unfold cw
  generalize x % RB ^ k = a at *
  generalize y % RB ^ k = b at *
  generalize RB ^ k = p at *
  have hp' : (0 : Int) < (p : Int) := by omega
  refine ⟨(Int.le_ediv_iff_mul_le hp').2 ?_, Int.lt_add_one_iff.1 ((Int.ediv_lt_iff_lt_mul hp').2 ?_)⟩
  · rcases hs with rfl | rfl <;> omega
  · rcases hs with rfl | rfl <;> omega
theorem cw_sum (s : Int) (x y k : Nat) : cw s x y k + (rdg x k : Int) + s * (rdg y k : Int) = (((x % RB ^ (k + 1) : Nat) : Int) + s * ((y % RB ^ (k + 1) : Nat) : Int)) / ((RB ^ k : Nat) : Int) := by
  have hp := rb_pos k
  rw [rmod_succ x k, rmod_succ y k]
  unfold cw
  generalize x % RB ^ k = a at *
  generalize y % RB ^ k = b at *
  generalize rdg x k = c at *
  generalize rdg y k = d at *
  generalize RB ^ k = p at *
  rw [show (((a + p * c : Nat) : Int) + s * ((b + p * d : Nat) : Int)) = ((a : Int) + s * (b : Int)) + (p : Int) * ((c : Int) + s * (d : Int)) by
    push_cast
    rw [Int.mul_add, Int.mul_add, Int.mul_left_comm s (p : Int) (d : Int)]
    omega]
  rw [Int.add_mul_ediv_left _ _ (by omega)]
  omega
theorem cw_next (s : Int) (x y k : Nat) : (cw s x y k + (rdg x k : Int) + s * (rdg y k : Int)) / 10000 = cw s x y (k + 1) := by
  rw [cw_sum]
  unfold cw
  rw [show ((RB ^ (k + 1) : Nat) : Int) = ((RB ^ k : Nat) : Int) * 10000 by rw [Nat.pow_succ, Int.natCast_mul]; rfl, Int.ediv_ediv_of_nonneg (by omega)]
theorem cw_digit {s : Int} {x y z : Nat} (hz : (z : Int) = (x : Int) + s * (y : Int)) (k : Nat) : (cw s x y k + (rdg x k : Int) + s * (rdg y k : Int)) % 10000 = (rdg z k : Int) := by
  have h1 := cw_sum s x y k
  have hp := rb_pos k
  have hq := rb_pos (k + 1)
  rw [h1]
  unfold rdg Im.dg
  have ex := Nat.div_add_mod x (RB ^ (k + 1))
  have ey := Nat.div_add_mod y (RB ^ (k + 1))
  generalize x % RB ^ (k + 1) = a at *
  generalize y % RB ^ (k + 1) = b at *
  generalize x / RB ^ (k + 1) = c at *
  generalize y / RB ^ (k + 1) = d at *
  have e2 : (z : Int) = ((a : Int) + s * (b : Int)) + ((RB ^ k : Nat) : Int) * (10000 * ((c : Int) + s * (d : Int))) := by
    rw [hz, ← ex, ← ey, Nat.pow_succ]
    generalize RB ^ k = p
    simp only [Int.natCast_add, Int.natCast_mul, show ((RB : Nat) : Int) = 10000 from rfl]
    generalize (p : Int) = p
    rw [show (10000 : Int) * ((c : Int) + s * (d : Int)) = 10000 * (c : Int) + 10000 * (s * (d : Int)) by rw [Int.mul_add], Int.mul_add, Int.mul_add, Int.mul_assoc, Int.mul_assoc, show s * (p * (10000 * (d : Int))) = p * (10000 * (s * (d : Int))) by rw [Int.mul_left_comm s p, Int.mul_left_comm s 10000]]
    omega
  have e3 : ((z / RB ^ k : Nat) : Int) = ((a : Int) + s * (b : Int)) / ((RB ^ k : Nat) : Int) + 10000 * ((c : Int) + s * (d : Int)) := by
    rw [Int.natCast_ediv, e2, Int.add_mul_ediv_left _ _ (by omega)]
  have e4 : ((z / RB ^ k % RB : Nat) : Int) = ((z / RB ^ k : Nat) : Int) % 10000 := by rw [Int.natCast_emod]; rfl
  rw [e4, e3, Int.add_mul_emod_self_left]
theorem cw_high {s : Int} {x y z k : Nat} (hz : (z : Int) = (x : Int) + s * (y : Int)) (hx : x < RB ^ k) (hy : y < RB ^ k) : cw s x y k = ((z / RB ^ k : Nat) : Int) := by
  unfold cw
  rw [Nat.mod_eq_of_lt hx, Nat.mod_eq_of_lt hy, ← hz, Int.natCast_ediv]

/-- A row of n digits of x, at a slice. -/
structure RRow (W : World) (sa : Option Addr) (n cap b o x : Nat) : Prop where
  cap : n ≤ cap
  at_ : 0 < n → sa = some ⟨b, o, none⟩
  lt : 0 < n → b < W.heap.size
  cell : ∀ k, k < n → W.cell? ⟨b, o + k, none⟩ = some (.int .i64 (rdg x k : Nat))
  fits : x < RB ^ n
theorem RRow.below {W W' : World} {B : Nat} {sa : Option Addr} {n cap b o x : Nat} (h : RRow W sa n cap b o x) (hb : Below B W W') (hB : W.heap.size ≤ B) : RRow W' sa n cap b o x :=
  ⟨h.cap, h.at_, fun p => Nat.lt_of_lt_of_le (h.lt p) hb.size, fun k hk => (hb.cell (p := ⟨b, o + k, none⟩) (Nat.lt_of_lt_of_le (h.lt (by omega)) hB)).trans (h.cell k hk), h.fits⟩
theorem RRow.trim {W : World} {sa : Option Addr} {n cap b o x : Nat} (h : RRow W sa n cap b o x) : RRow W sa (rnd x) cap b o x := by
  have hn : rnd x ≤ n := Im.nd_le rb2 h.fits
  exact ⟨Nat.le_trans hn h.cap, fun p => h.at_ (by omega), fun p => h.lt (by omega), fun k hk => h.cell k (by omega), Im.lt_pow_nd rb2 x⟩
/-- The magnitude x in the reference's memory, at a slice. -/
def RMag (W : World) (v : Value) (x : Nat) : Prop := ∃ (sa : Option Addr) (cap b o : Nat), v = .slice sa (rnd x) cap ∧ RRow W sa (rnd x) cap b o x
theorem RMag.below {W W' : World} {B : Nat} {v : Value} {x : Nat} (h : RMag W v x) (hb : Below B W W') (hB : W.heap.size ≤ B) : RMag W' v x := by
  obtain ⟨sa, cap, b, o, h1, h2⟩ := h
  exact ⟨sa, cap, b, o, h1, h2.below hb hB⟩
theorem RMag.call {W W' : World} {v : Value} {x : Nat} (h : RMag W v x) (hb : Below W.heap.size W W') : RMag W' v x := h.below hb (Nat.le_refl _)

def rpcs (x n : Nat) : List Value := (List.range n).map fun k => .int .i64 (rdg x k : Nat)
theorem rpcs_succ (x n : Nat) : rpcs x (n + 1) = rpcs x n ++ [.int .i64 (rdg x n : Nat)] := by simp [rpcs, List.range_succ]
theorem info_int : (Tryz.prog.info? 3).map (fun i => (i.zero, i.size, i.bytes)) = some (some (.int .i64 0), 1, 8) := by kernel_rfl
theorem rrow_of {W : World} {b0 n x : Nat} {v : Value} (h : W.ownsRow b0 3 1 v n (rpcs x n)) (hx : x < RB ^ n) :
    ∃ sa cap b, v = .slice sa n cap ∧ RRow W sa n cap b 0 x ∧ (0 < n → b0 ≤ b) := by
  have hc := fun g hv => h.cells (g := g) hv
  obtain ⟨_, h2⟩ := h
  rcases h2 with ⟨rfl, hn⟩ | ⟨g, cap, cur, rfl, hg, hh, hcap, hcm, hsz, htk⟩
  · obtain rfl : n = 0 := by first | omega | (have := hn.1; omega) | (have := hn.2; simp [rpcs] at this; omega)
    exact ⟨none, 0, 0, rfl, ⟨Nat.le_refl _, fun p => absurd p (Nat.lt_irrefl _), fun p => absurd p (Nat.lt_irrefl _), fun k hk => absurd hk (Nat.not_lt_zero _), hx⟩, fun p => absurd p (Nat.lt_irrefl _)⟩
  · refine ⟨some ⟨g, 0, none⟩, cap, g, rfl, ⟨hcap, fun _ => rfl, fun _ => (Array.getElem?_eq_some_iff.1 hh).1, fun k hk => ?_, hx⟩, fun _ => hg⟩
    have := hc g rfl k (.int .i64 (rdg x k : Nat)) (by simp [rpcs, hk])
    have e : (⟨g, 0, none⟩ : Addr).add k = ⟨g, 0 + k, none⟩ := by unfold Addr.add; split <;> simp_all
    rwa [e] at this

set_option maxHeartbeats 1000000 in
theorem short_any (sa : Option Addr) (n cap b o x : Nat) (w : World) (h : RRow w sa n cap b o x) (hn : n ≤ 1048576) :
    Calls Tryz.prog 105 #[.slice sa n cap] w fun e w' => e = .returned (.slice sa (rnd x) cap) ∧ w' = w := by
  have H := Lib.hid h
  have hcap := h.cap
  clear h
  go_enter Tryz.func105, Tryz.ntmps105
  go_wp2_with fail
  go_loop [0] (fun v => ∃ m : Nat, m ≤ n ∧ v = .slice sa m cap ∧ x < RB ^ m) (fun v => match v with | .slice _ m _ => m | _ => 0)
  case atStart => exact ⟨n, Nat.le_refl _, rfl, H.out.fits⟩
  case round =>
    obtain ⟨m, hm, rfl, hx⟩ := hrel
    have HX := Lib.hid hx
    clear hx
    cases m with
    | zero =>
      have hx0 : rnd x = 0 := rnd_pos_iff.2 (by have := HX.out; simp at this; omega)
      go_wp2
      go_ret
      exact ⟨rfl, rfl⟩
    | succ m =>
      have hc := H.out.cell m (by omega)
      obtain rfl := H.out.at_ (by omega)
      have hl := rdg_lt x m
      have hd1 : rdg x m ≠ 0 → rnd x = m + 1 := fun h0 => Im.nd_of_dg rb2 HX.out h0
      have hd0 : rdg x m = 0 → x < RB ^ m := fun h0 => Im.lt_of_dg rb2 HX.out h0
      have HD1 := Lib.hid hd1
      have HD0 := Lib.hid hd0
      clear hd1 hd0
      generalize rdg x m = d at *
      by_cases h0 : d = 0
      · subst h0
        go_wp2
        go_round
        case rel => exact ⟨m, by omega, rfl, HD0.out rfl⟩
        case measure => simp
      · have h1 : ¬ (d : Int) = 0 := by omega
        go_wp2
        go_ret
        rw [HD1.out h0]
        exact ⟨rfl, rfl⟩
theorem toInt_any (c : Bool) (w : World) :
    Calls Tryz.prog 63 #[.bool c] w fun e w' => e = .returned (.int .i64 (if c then 1 else 0)) ∧ w' = w := by
  cases c with
  | true =>
    go_enter Tryz.func63, Tryz.ntmps63
    go_wp2
    go_ret
    exact ⟨rfl, rfl⟩
  | false =>
    go_enter Tryz.func63, Tryz.ntmps63
    go_wp2
    go_ret
    exact ⟨rfl, rfl⟩
theorem atoi_digits {l : List UInt8} (h3 : l ≠ []) (h4 : l.all Im.isD = true) (hl : l.length ≤ 18) : Lib.atoiAll l = .ok (Im.valL l : Int) := by
  have hlt := Im.val_lt h4
  have hp : 10 ^ l.length ≤ 10 ^ 18 := Nat.pow_le_pow_right (by decide) hl
  have hpm : Lib.parseMag l = .ok (Im.valL l) := by
    unfold Lib.parseMag
    rw [if_neg h3]
    have := parse_digits l 0 h4 (by omega)
    simpa using this
  cases l with
  | nil => exact absurd rfl h3
  | cons c r =>
    have hd : Im.isD c = true := List.all_eq_true.1 h4 c (by simp)
    have hd2 := Im.isD_iff.1 hd
    unfold Lib.atoiAll
    simp only
    rw [if_neg (by omega), hpm]
    simp only
    rw [if_neg (by omega), if_neg (by omega), if_neg (by omega)]
end Go.Proofs.YtnchodofgaaeeaaGreatDoor
