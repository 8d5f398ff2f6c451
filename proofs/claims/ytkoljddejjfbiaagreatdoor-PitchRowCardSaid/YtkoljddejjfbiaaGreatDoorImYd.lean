/- The contract of Power. -/
import Derived.Test.YtkoljddejjfbiaaGreatDoorIvA
import Derived.Lib.ItoaNum
import Derived.Test.YtkoljddejjfbiaaGreatDoorImB
import Derived.Lib.SplitLaws
namespace Go.Proofs.YtkoljddejjfbiaaGreatDoor
open Go Go.RowKit Go.Shelf

theorem lt_bitLen {n : Nat} (h : n < 2 ^ 64) : n < 2 ^ Lib.bitLen n := by
  by_cases h0 : n = 0
  · subst h0; decide
  · exact (Lib.bitLenAux_bounds 64 n h h0).2.2
theorem pow_step1 (a : Int) (n k : Nat) (h : n / 2 ^ k % 2 = 1) : a ^ (n / 2 ^ (k + 1)) * a ^ (n / 2 ^ (k + 1)) * a = a ^ (n / 2 ^ k) := by
  have e : n / 2 ^ k = n / 2 ^ (k + 1) + n / 2 ^ (k + 1) + 1 := by
    rw [Nat.pow_succ, ← Nat.div_div_eq_div_mul]; omega
  rw [← Int.pow_add]
  conv => rhs; rw [e, Int.pow_succ]
theorem pow_step0 (a : Int) (n k : Nat) (h : ¬ n / 2 ^ k % 2 = 1) : a ^ (n / 2 ^ (k + 1)) * a ^ (n / 2 ^ (k + 1)) = a ^ (n / 2 ^ k) := by
  have e : n / 2 ^ k = n / 2 ^ (k + 1) + n / 2 ^ (k + 1) := by
    rw [Nat.pow_succ, ← Nat.div_div_eq_div_mul]; omega
  rw [← Int.pow_add]
  conv => rhs; rw [e]
theorem nd_pow (a : Int) : ∀ n : Nat, nd (a ^ n).natAbs ≤ n * nd a.natAbs + 1
  | 0 => by
    rw [Int.pow_zero]
    exact Im.nd_le bb2 (k := 0 * nd a.natAbs + 1) (by rw [Nat.zero_mul]; decide)
  | n + 1 => by
    rw [Int.pow_succ]
    have := nd_mul (a ^ n) a
    have := nd_pow a n
    rw [Nat.succ_mul]
    omega
theorem nd_dgs {s : ByteArray} (h : Im.canonI s.data.toList = true) : nd (iv s).natAbs ≤ (Im.dgs s.data.toList).length :=
  Im.nd_le bb2 (Nat.lt_of_lt_of_le (iv_lt h) (pow_BB _))
theorem and1 (x : Nat) (h : x < 1000000) : bits .and .i64 (x : Int) 1 = ((x % 2 : Nat) : Int) := by
  have h := bits_mask .i64 62 (by decide) (fun n h0 h1 => by rw [IntKind.wrap_i64]; omega) 1 (by decide) (x : Int) (by omega) (by omega)
  have e : ((2 : Int) ^ 1 - 1) = 1 := by decide
  have e2 : ((2 : Int) ^ 1) = 2 := by decide
  rw [e, e2] at h
  rw [h]
  omega
theorem shr_nat (n k : Nat) : (n : Int) / (2 : Int) ^ k = ((n / 2 ^ k : Nat) : Int) := by simp
theorem cn_one : Cn ⟨#[49]⟩ := ⟨by decide, by decide⟩
theorem iv_one : iv ⟨#[49]⟩ = 1 := by decide

theorem power_range (s : ByteArray) (n : Int) (h : n < 0 ∨ 6000 < n) (w : World) :
    Calls Tryz.prog 71 #[.string s, .int .i64 n] w fun e w' => e = .returned (.tuple #[.string ⟨#[]⟩, .int .i64 3]) ∧ w' = w := by
  by_cases h0 : n < 0
  · go_enter Tryz.func71, Tryz.ntmps71
    go_wp2
    exact bodyPost_ret (v := .tuple #[.string ⟨#[]⟩, .int .i64 3]) (by simp [results, Tryz.results71, go_sem]) rfl ⟨rfl, rfl⟩
  · have h1 : 6000 < n := by omega
    go_enter Tryz.func71, Tryz.ntmps71
    go_wp2
    exact bodyPost_ret (v := .tuple #[.string ⟨#[]⟩, .int .i64 3]) (by simp [results, Tryz.results71, go_sem]) rfl ⟨rfl, rfl⟩
theorem power_limit (s : ByteArray) (n d : Nat) (hd : (Im.dgs s.data.toList).length = d) (hdl : d ≤ 1048576) (hn : n ≤ 6000) (h : 24000 < n * d) (w : World) :
    Calls Tryz.prog 71 #[.string s, .int .i64 n] w fun e w' => e = .returned (.tuple #[.string ⟨#[]⟩, .int .i64 4]) ∧ w' = w := by
  have D := Lib.hid (fun W => digits_any s W)
  generalize Im.dgs s.data.toList = l at *
  subst hd
  obtain ⟨p, hp⟩ : ∃ p : Nat, n * l.length = p := ⟨_, rfl⟩
  have hpi : (n : Int) * (l.length : Int) = (p : Int) := by rw [← hp]; simp
  have hp2 : n * l.length ≤ 6000 * 1048576 := Nat.mul_le_mul hn hdl
  rw [hp] at h hp2
  clear hp
  have hn1 : ¬ (n : Int) < 0 := by omega
  have hn2 : ¬ (6000 : Int) < (n : Int) := by omega
  go_enter Tryz.func71, Tryz.ntmps71
  go_wp2_with fail
  refine (D.out _).mono ?_
  rintro e w1 ⟨rfl, hww⟩
  subst w1
  go_wp2
  exact bodyPost_ret (v := .tuple #[.string ⟨#[]⟩, .int .i64 4]) (by simp [results, Tryz.results71, go_sem]) rfl ⟨rfl, rfl⟩

set_option maxRecDepth 100000 in
set_option maxHeartbeats 4000000 in
theorem power_c (s : ByteArray) (hs : Cn s) (n : Nat) (hn : n ≤ 6000) (h : n * (Im.dgs s.data.toList).length ≤ 24000) (w : World) (G : Gi w) :
    Calls Tryz.prog 71 #[.string s, .int .i64 n] w fun e w' => e = .returned (.tuple #[.string (tz (iv s ^ n)), .int .i64 0]) ∧ Below w.heap.size w w' := by
  have DG := Lib.hid (fun W => digits_any s W)
  have RA := Lib.hid (fun W => read_c s hs W)
  have R1 := Lib.hid (fun W => read_c ⟨#[49]⟩ cn_one W)
  rw [iv_one] at R1
  have BL := Lib.hid (fun W => Tryz.bits_Len n W (by omega) (by omega))
  have hlb : Lib.bitLen n ≤ 13 := Lib.bitLen_le n 13 (by decide) (by omega)
  have hlt := lt_bitLen (n := n) (by omega)
  have NB := Lib.hid (fun (m : Nat) (hm : m ≤ n) => show nd (iv s ^ m).natAbs ≤ 24001 by
    have h1 := nd_pow (iv s) m
    have h2 := nd_dgs hs.canon
    have h3 := Nat.mul_le_mul hm h2
    omega)
  have NS := Lib.hid (nd_iv hs)
  have ST1 := Lib.hid (fun k => pow_step1 (iv s) n k)
  have ST0 := Lib.hid (fun k => pow_step0 (iv s) n k)
  obtain ⟨z, hz⟩ : ∃ z, iv s = z := ⟨_, rfl⟩
  rw [hz] at RA NB NS ST1 ST0 ⊢
  have hl1 : (Im.dgs s.data.toList).length ≤ 100000 := by have := dgs_len s.data.toList; have := size_list s; have := hs.size; omega
  generalize Im.dgs s.data.toList = l at *
  obtain ⟨p, hp⟩ : ∃ p : Nat, n * l.length = p := ⟨_, rfl⟩
  have hpi : (n : Int) * (l.length : Int) = (p : Int) := by rw [← hp]; simp
  rw [hp] at h
  have hn1 : ¬ (n : Int) < 0 := by omega
  have hn2 : ¬ (6000 : Int) < (n : Int) := by omega
  rw [show ((n : Int)).toNat = n from rfl] at BL
  obtain ⟨L, hL⟩ : ∃ L, Lib.bitLen n = L := ⟨_, rfl⟩
  rw [hL] at BL hlb hlt
  clear hp hz hs hL
  obtain ⟨D, hD⟩ : ∃ D, w.heap.size = D := ⟨_, rfl⟩
  go_enter Tryz.func71, Tryz.ntmps71
  go_wp2_with fail
  refine (DG.out _).mono ?_
  rintro e w1 ⟨rfl, hww⟩
  subst w1
  go_wp2_with fail
  refine (RA.out _).mono ?_
  rintro e w2 ⟨⟨v2, rfl, h2⟩, hb2⟩
  go_wp2_with fail
  refine (R1.out _).mono ?_
  rintro e w3 ⟨⟨v3, rfl, h3⟩, hb3⟩
  have h2' := h2.call hb3
  obtain ⟨ng, m, sa, cap, b, o, rfl, hr2, hz2⟩ := num_open h2'
  obtain ⟨ng1, m1, sa1, cap1, b1, o1, rfl, hr3, hz3⟩ := num_open h3
  have HZ3 := Lib.hid hz3
  have HZ2 := Lib.hid hz2
  clear hz3 hz2 h2 h2' h3
  go_wp2_with fail
  refine (BL.out _).mono ?_
  rintro e w4 ⟨rfl, hww⟩
  subst w4
  obtain ⟨V, hV⟩ : ∃ V, ((w3.alloc (.cells #[.bool ng, .slice sa (nd m) cap] 112)).alloc (.cells #[.bool ng1, .slice sa1 (nd m1) cap1] 112)) = V := ⟨_, rfl⟩
  obtain ⟨E, hE⟩ : ∃ E, w3.heap.size = E := ⟨_, rfl⟩
  have hb13 := hb2.trans (hb3.mono hb2.size)
  have hDE : D ≤ E := by have := hb13.size; omega
  have hwV : Below D w V := by rw [← hV, ← hD]; exact (hb13.alloc (by have := hb13.size; omega) _).alloc (by have := hb13.size; simp; omega) _
  have hVb : Below E w3 V := by rw [← hV, ← hE]; exact ((Below.refl _ _).alloc (Nat.le_refl _) _).alloc (by simp) _
  have hV0 : V.heap[E]? = some (.cells #[.bool ng, .slice sa (nd m) cap] 112) := by rw [← hV]; exact heap_up (heap_at hE.symm)
  have hV1 : V.heap[E + 1]? = some (.cells #[.bool ng1, .slice sa1 (nd m1) cap1] 112) := by rw [← hV]; exact heap_at (by simp [hE])
  have hzV : V.heap.size = E + 2 := by rw [← hV]; simp [hE]
  have hrV := hr2.below hVb (by omega)
  have hqV := hr3.below hVb (by omega)
  rw [hE, hV]
  clear hV hr2 hr3 hb2 hb3 hb13 hVb hE
  go_wp2_with fail
  go_loopw [8] (fun i wr => ∃ k ng3 m3 sa3 cap3 b3 o3, k ≤ L ∧ i = .int .i64 ((k : Int) - 1) ∧ sv ng3 m3 = z ^ (n / 2 ^ k) ∧ Row wr sa3 (nd m3) cap3 b3 o3 m3 ∧ wr.heap[E]? = some (.cells #[.bool ng, .slice sa (nd m) cap] 112) ∧ wr.heap[E + 1]? = some (.cells #[.bool ng3, .slice sa3 (nd m3) cap3] 112) ∧ Row wr sa (nd m) cap b o m ∧ E + 2 ≤ wr.heap.size ∧ Below D w wr) (fun i _ => ((intOf i) + 1).toNat)
  case atStart => exact ⟨L, ng1, m1, sa1, cap1, b1, o1, Nat.le_refl _, rfl, by rw [← HZ3.out, Nat.div_eq_of_lt hlt, Int.pow_zero], hqV, hV0, hV1, hrV, by omega, hwV⟩
  case round =>
    obtain ⟨k, ng3, m3, sa3, cap3, b3, o3, hk, rfl, hz3, hr3, hh0, hh1, hrb, hsz, hw⟩ := hrel
    cases k with
    | zero =>
      rw [Nat.pow_zero, Nat.div_one] at hz3
      have HN := Lib.hid (num_mk (neg := ng3) hr3)
      rw [hz3] at HN
      have BN := Lib.hid (NB.out n (Nat.le_refl _))
      have c0 := cells_fst hh1
      have c1 := cells_snd hh1
      have GW := G.below (hD ▸ hw)
      clear hz3 hr3 hh0 hh1 hrb
      go_wp2_with fail
      refine (text_any _ _ _ HN.out (by have := BN.out; omega) GW).mono ?_
      rintro e w7 ⟨rfl, hb7⟩
      go_wp2
      exact bodyPost_ret (v := .tuple #[.string (tz (z ^ n)), .int .i64 0]) (by simp [results, Tryz.results71, go_sem, tz]) rfl ⟨rfl, by rw [hD]; exact hw.trans (hb7.mono (by have := hw.size; omega))⟩
    | succ k =>
      have hq : n / 2 ^ (k + 1) ≤ n := Nat.div_le_self _ _
      have HN := Lib.hid (num_mk (neg := ng3) hr3)
      rw [hz3] at HN
      have hnb := NB.out _ hq
      have BN := Lib.hid hnb
      have c0 := cells_fst hh1
      have c1 := cells_snd hh1
      clear hz3 hr3 hq hnb
      have hk1 : ¬ (((k + 1 : Nat) : Int) - 1 < 0) := by omega
      have hke : ((k + 1 : Nat) : Int) - 1 = (k : Int) := by omega
      rw [hke]
      clear hk1 hke
      go_wp2_with fail
      refine (times_any _ _ _ _ _ HN.out HN.out (by have := BN.out; omega) (by have := BN.out; omega)).mono ?_
      rintro e w5 ⟨⟨v5, rfl, h5⟩, hb5⟩
      obtain ⟨ng5, m5, sa5, cap5, b5, o5, rfl, hr5, hz5⟩ := num_open h5
      have hh0' := (hb5.block E (by omega)).trans hh0
      have hh1' := (hb5.block (E + 1) (by omega)).trans hh1
      have hrb' := hrb.below hb5 (Nat.le_refl _)
      have hw' := hw.trans (hb5.mono (by have := hw.size; omega))
      have hsz' := Nat.le_trans hsz hb5.size
      clear c0 c1 hh0 hh1 hrb hw hsz h5 hb5 HN
      have f0 := cells_f0 hh1'
      have f1 := cells_f1 hh1'
      have g0 := cells_fst hh1'
      have g1 := cells_snd hh1'
      obtain ⟨W6, hW6⟩ : ∃ W6, ((w5.setCell ⟨E + 1, 0, none⟩ (.bool ng5)).setCell ⟨E + 1, 1, none⟩ (.slice sa5 (nd m5) cap5)) = W6 := ⟨_, rfl⟩
      have k0 : W6.heap[E]? = some (.cells #[.bool ng, .slice sa (nd m) cap] 112) := by rw [← hW6]; exact (set_two_else (by omega)).trans hh0'
      have k1 : W6.heap[E + 1]? = some (.cells #[.bool ng5, .slice sa5 (nd m5) cap5] 112) := by rw [← hW6]; exact set_two hh1'
      have kb : Row W6 sa (nd m) cap b o m := by rw [← hW6]; exact (hrb'.set _ (row_ne hrb' hh1') _).set _ (row_ne hrb' hh1') _
      have kr : Row W6 sa5 (nd m5) cap5 b5 o5 m5 := by rw [← hW6]; exact (hr5.set _ (row_ne hr5 hh1') _).set _ (row_ne hr5 hh1') _
      have kw : Below D w W6 := by rw [← hW6]; exact (hw'.setCell (by simp; omega) _).setCell (by simp; omega) _
      have ks : E + 2 ≤ W6.heap.size := by rw [← hW6]; simpa [World.setCell] using hsz'
      have HW6 := Lib.hid hW6
      have hsh := shr_nat n k
      have hand := and1 (n / 2 ^ k) (by have := Nat.div_le_self n (2 ^ k); omega)
      rw [← hsh] at hand
      clear hsh hh0' hrb' hw' hsz' hr5 hW6
      by_cases hbit : n / 2 ^ k % 2 = 1
      · rw [hbit] at hand
        have BIT := Lib.hid (ST1.out k hbit)
        have e0 : ((w5.setCell ⟨E + 1, 0, none⟩ (.bool ng5)).setCell ⟨E + 1, 1, none⟩ (.slice sa5 (nd m5) cap5)).cell? ⟨E, 0, none⟩ = some (.bool ng) := by rw [HW6.out]; exact cells_fst k0
        have e1 : ((w5.setCell ⟨E + 1, 0, none⟩ (.bool ng5)).setCell ⟨E + 1, 1, none⟩ (.slice sa5 (nd m5) cap5)).cell? ⟨E, 1, none⟩ = some (.slice sa (nd m) cap) := by rw [HW6.out]; exact cells_snd k0
        have HN5 := Lib.hid (num_mk (neg := ng5) kr)
        rw [← hz5, ← Int.pow_add] at HN5
        have HNB := Lib.hid (num_mk (neg := ng) kb)
        rw [← HZ2.out] at HNB
        have h2q : n / 2 ^ (k + 1) + n / 2 ^ (k + 1) ≤ n := by rw [Nat.pow_succ, ← Nat.div_div_eq_div_mul]; have := Nat.div_le_self n (2 ^ k); omega
        have BN2 := Lib.hid (NB.out _ h2q)
        rw [← Int.pow_add] at BIT
        have K0 := Lib.hid k0
        have K1 := Lib.hid k1
        have KB := Lib.hid kb
        have KS := Lib.hid ks
        have KW := Lib.hid kw
        clear kr kb hz5 h2q hbit k0 k1 ks kw
        go_wp2_with fail
        rw [HW6.out]
        clear e0 e1 f0 f1 g0 g1 hh1' HW6
        refine (times_any _ _ _ _ _ HN5.out HNB.out (by have := BN2.out; omega) (by have := NS.out; omega)).mono ?_
        rintro e w7 ⟨⟨v7, rfl, h7⟩, hb7⟩
        obtain ⟨ng7, m7, sa7, cap7, b7, o7, rfl, hr7, hz7⟩ := num_open h7
        have hks := KS.out
        have hh0 := (hb7.block E (by omega)).trans K0.out
        have hh1 := (hb7.block (E + 1) (by omega)).trans K1.out
        have hrb := KB.out.below hb7 (Nat.le_refl _)
        have hw7 := KW.out.trans (hb7.mono (by have := KW.out.size; omega))
        have hsz := Nat.le_trans hks hb7.size
        have f0 := cells_f0 hh1
        have f1 := cells_f1 hh1
        have g0 := cells_fst hh1
        have g1 := cells_snd hh1
        have T0 := Lib.hid (show ((w7.setCell ⟨E + 1, 0, none⟩ (.bool ng7)).setCell ⟨E + 1, 1, none⟩ (.slice sa7 (nd m7) cap7)).heap[E]? = some (.cells #[.bool ng, .slice sa (nd m) cap] 112) from (set_two_else (by omega)).trans hh0)
        have T1 := Lib.hid (show ((w7.setCell ⟨E + 1, 0, none⟩ (.bool ng7)).setCell ⟨E + 1, 1, none⟩ (.slice sa7 (nd m7) cap7)).heap[E + 1]? = some (.cells #[.bool ng7, .slice sa7 (nd m7) cap7] 112) from set_two hh1)
        have TB := Lib.hid ((hrb.set ⟨E + 1, 0, none⟩ (row_ne hrb hh1) (.bool ng7)).set ⟨E + 1, 1, none⟩ (row_ne hrb hh1) (.slice sa7 (nd m7) cap7))
        have TR := Lib.hid ((hr7.set ⟨E + 1, 0, none⟩ (row_ne hr7 hh1) (.bool ng7)).set ⟨E + 1, 1, none⟩ (row_ne hr7 hh1) (.slice sa7 (nd m7) cap7))
        have TW := Lib.hid ((hw7.setCell (p := ⟨E + 1, 0, none⟩) (by simp; omega) (.bool ng7)).setCell (p := ⟨E + 1, 1, none⟩) (by simp; omega) (.slice sa7 (nd m7) cap7))
        have TS := Lib.hid (show E + 2 ≤ ((w7.setCell ⟨E + 1, 0, none⟩ (.bool ng7)).setCell ⟨E + 1, 1, none⟩ (.slice sa7 (nd m7) cap7)).heap.size by simpa [World.setCell] using hsz)
        have HZ7 := Lib.hid hz7
        clear hz7 h7 hb7 hks hh0 hrb hw7 hr7 hsz HN5 HNB
        go_wp2_with fail
        go_roundw
        case rel => exact ⟨k, ng7, m7, sa7, cap7, b7, o7, by omega, by go_num, by rw [← HZ7.out, BIT.out], TR.out, T0.out, T1.out, TB.out, TS.out, TW.out⟩
        case measure => simp [intOf]
      · rw [show n / 2 ^ k % 2 = 0 by omega] at hand
        have BIT := Lib.hid (ST0.out k hbit)
        have HZ5 := Lib.hid hz5
        clear hbit hz5
        go_wp2_with fail
        go_roundw
        case rel => exact ⟨k, ng5, m5, sa5, cap5, b5, o5, by omega, by go_num, by rw [← HZ5.out, BIT.out], HW6.out ▸ kr, HW6.out ▸ k0, HW6.out ▸ k1, HW6.out ▸ kb, HW6.out ▸ ks, HW6.out ▸ kw⟩
        case measure => simp [intOf]
end Go.Proofs.YtkoljddejjfbiaaGreatDoor
/- Plain arithmetic of written integers: what a text with a sign and blanks writes; no program is named here. -/
namespace Go.Proofs.YtkoljddejjfbiaaGreatDoor.Im
open Go

/-- Digits, with at most one blank between each two; b: a digit stands before. -/
def gr : Bool → List UInt8 → Bool
  | b, [] => b
  | b, c :: r => if isD c = true then gr true r else if c = 32 ∧ b = true then gr false r else false
/-- The text without its sign. -/
def uns (l : List UInt8) : List UInt8 := if l.head? = some 45 ∨ l.head? = some 43 then l.tail else l
def noB (l : List UInt8) : List UInt8 := l.filter (fun c => c != 32)
def noZ (l : List UInt8) : List UInt8 := l.dropWhile (fun c => c == 48)
def prsL (l : List UInt8) : List UInt8 :=
  if l = [] then [] else if gr false (uns l) = false then [] else
  if 400 < (noZ (noB (uns l))).length then [] else
  if noZ (noB (uns l)) = [] then [48] else
  if l.head? = some 45 then 45 :: noZ (noB (uns l)) else noZ (noB (uns l))
def prsE (l : List UInt8) : Int :=
  if l = [] then 13 else if gr false (uns l) = false then 15 else
  if 400 < (noZ (noB (uns l))).length then 16 else 0

/-- The other way to read: a blank is passed over where its neighbours are there and no blanks. -/
def sk (p : Option UInt8) (c : UInt8) (r : List UInt8) : Bool := c == 32 && p.isSome && p != some 32 && !r.isEmpty && r.head? != some 32
def rf : Option UInt8 → List UInt8 → Bool
  | _, [] => true
  | p, c :: r => if sk p c r = true then rf (some c) r else if isD c = true then rf (some c) r else false
theorem not_blank {c : UInt8} (h : isD c = true) : c ≠ 32 := fun e => by subst e; exact absurd h (by decide)
theorem rf_yes {p : Option UInt8} {c : UInt8} {r : List UInt8} (h : sk p c r = true) : rf p (c :: r) = rf (some c) r := by
  show (if sk p c r = true then rf (some c) r else if isD c = true then rf (some c) r else false) = _
  rw [if_pos h]
theorem rf_no {p : Option UInt8} {c : UInt8} {r : List UInt8} (h : sk p c r = false) : rf p (c :: r) = if isD c = true then rf (some c) r else false := by
  show (if sk p c r = true then rf (some c) r else if isD c = true then rf (some c) r else false) = _
  rw [if_neg (by rw [h]; simp)]
theorem gr_d {b : Bool} {c : UInt8} {r : List UInt8} (h : isD c = true) : gr b (c :: r) = gr true r := by
  show (if isD c = true then gr true r else if c = 32 ∧ b = true then gr false r else false) = _
  rw [if_pos h]
theorem gr_o {b : Bool} {c : UInt8} {r : List UInt8} (h : ¬ isD c = true) : gr b (c :: r) = if c = 32 ∧ b = true then gr false r else false := by
  show (if isD c = true then gr true r else if c = 32 ∧ b = true then gr false r else false) = _
  rw [if_neg h]
theorem sk_no {p : Option UInt8} {c : UInt8} {r : List UInt8} (h : c ≠ 32) : sk p c r = false := by simp [sk, h]
theorem rf_gr : ∀ (l : List UInt8),
    (∀ d, isD d = true → rf (some d) l = gr true l) ∧ (l ≠ [] → l.head? ≠ some 32 → rf (some 32) l = gr false l)
  | [] => ⟨fun _ _ => rfl, fun h => absurd rfl h⟩
  | c :: r => by
    obtain ⟨ih1, ih2⟩ := rf_gr r
    refine ⟨fun d hd => ?_, fun _ hh => ?_⟩
    · by_cases hc : isD c = true
      · rw [rf_no (sk_no (not_blank hc)), if_pos hc, gr_d hc, ih1 c hc]
      · rw [gr_o hc]
        by_cases h32 : c = 32
        · subst h32
          rw [if_pos (And.intro rfl rfl)]
          have hd2 := not_blank hd
          cases r with
          | nil => rw [rf_no (by simp [sk]), if_neg hc]; rfl
          | cons x t =>
            by_cases hx : x = 32
            · subst hx
              rw [rf_no (by simp [sk]), if_neg hc, gr_o hc, if_neg (by simp)]
            · rw [rf_yes (by simp [sk, hd2, hx]), ih2 (by simp) (by simpa using hx)]
        · rw [rf_no (sk_no h32), if_neg hc, if_neg (by simp [h32])]
    · have h32 : c ≠ 32 := by simpa using hh
      rw [rf_no (sk_no h32)]
      by_cases hc : isD c = true
      · rw [if_pos hc, gr_d hc, ih1 c hc]
      · rw [if_neg hc, gr_o hc, if_neg (by simp [h32])]
theorem rf_none (l : List UInt8) : (rf none l && !(noB l).isEmpty) = gr false l := by
  cases l with
  | nil => rfl
  | cons c r =>
    rw [rf_no (by simp [sk])]
    by_cases hc : isD c = true
    · rw [if_pos hc, gr_d hc, (rf_gr r).1 c hc]
      have := not_blank hc
      simp [noB, this]
    · rw [if_neg hc, gr_o hc, if_neg (by simp), Bool.false_and]
theorem gr_digits : ∀ (l : List UInt8) (b : Bool), gr b l = true → (noB l).all isD = true
  | [], _, _ => rfl
  | c :: r, b, h => by
    unfold gr at h
    by_cases hc : isD c = true
    · rw [if_pos hc] at h
      have := gr_digits r true h
      have h2 := not_blank hc
      simp only [noB, List.filter_cons, bne_iff_ne, ne_eq, h2, not_false_eq_true, if_true, List.all_cons, hc, Bool.true_and]
      exact this
    · rw [if_neg hc] at h
      by_cases h3 : c = 32 ∧ b = true
      · rw [if_pos h3] at h
        have := gr_digits r false h
        obtain ⟨rfl, _⟩ := h3
        simpa [noB] using this
      · rw [if_neg h3] at h; cases h
/-- A canonical integer is read as it is. -/
theorem all_gr : ∀ (l : List UInt8) (b : Bool), l.all isD = true → gr b l = (b || !l.isEmpty)
  | [], b, _ => by simp [gr]
  | c :: r, b, h => by
    obtain ⟨h1, h2⟩ : isD c = true ∧ r.all isD = true := by simpa using h
    unfold gr
    rw [if_pos h1, all_gr r true h2]
    simp
theorem all_noB {l : List UInt8} (h : l.all isD = true) : noB l = l := by
  unfold noB
  rw [List.filter_eq_self]
  intro c hc
  have := not_blank (List.all_eq_true.1 h c hc)
  simpa using this
theorem prs_canon {l : List UInt8} (h : canonI l = true) (hl : (dgs l).length ≤ 400) : prsL l = l ∧ prsE l = 0 := by
  obtain ⟨h1, h2⟩ := canonI_canon h
  obtain ⟨h3, h4, h5⟩ := canonL_iff.1 h1
  have hne : l ≠ [] := fun e => by subst e; exact absurd h (by decide)
  have hu : uns l = dgs l := by
    unfold uns dgs
    by_cases hm : l.head? = some 45
    · rw [if_pos (.inl hm), if_pos hm]
    · rw [if_neg hm]
      by_cases hp : l.head? = some 43
      · exfalso
        have e : dgs l = l := by unfold dgs; rw [if_neg hm]
        rw [e] at h4
        cases l with
        | nil => exact hne rfl
        | cons c r =>
          simp at hp
          subst hp
          simp [isD] at h4
      · rw [if_neg (by simp [hm, hp])]
  have hg : gr false (uns l) = true := by
    rw [hu, all_gr _ _ h4]
    cases hd : dgs l with
    | nil => exact absurd hd h3
    | cons _ _ => rfl
  have hn : noZ (noB (uns l)) = if dgs l = [48] then [] else dgs l := by
    rw [hu, all_noB h4]
    unfold noZ
    by_cases e : dgs l = [48]
    · rw [if_pos e, e]; rfl
    · rw [if_neg e]
      cases hd : dgs l with
      | nil => exact absurd hd h3
      | cons c r =>
        have hc : c ≠ 48 := by
          rcases h5 with h5 | h5
          · rw [hd] at h5; simpa using h5
          · exact absurd h5 e
        rw [List.dropWhile_cons, if_neg (by simpa using hc)]
  have hl2 : ¬ 400 < (noZ (noB (uns l))).length := by
    rw [hn]
    split
    · simp
    · omega
  refine ⟨?_, by unfold prsE; rw [if_neg hne, if_neg (by rw [hg]; simp), if_neg hl2]⟩
  unfold prsL
  rw [if_neg hne, if_neg (by rw [hg]; simp), if_neg hl2, hn]
  by_cases e : dgs l = [48]
  · rw [if_pos e, if_pos rfl]
    unfold dgs at e
    by_cases hm : l.head? = some 45
    · rw [if_pos hm] at e
      exact absurd (by rw [e]; rfl) (h2 hm)
    · rw [if_neg hm] at e
      exact e.symm
  · rw [if_neg e, if_neg h3]
    unfold dgs
    by_cases hm : l.head? = some 45
    · rw [if_pos hm, if_pos hm]
      cases l with
      | nil => exact absurd rfl hne
      | cons c r => simp at hm; subst hm; rfl
    · rw [if_neg hm, if_neg hm]
end Go.Proofs.YtkoljddejjfbiaaGreatDoor.Im
/- The contracts of grouped and Parse. -/
namespace Go.Proofs.YtkoljddejjfbiaaGreatDoor
open Go Go.RowKit Go.Shelf

theorem index_cons {b c : UInt8} {r : List UInt8} {i : Nat} (h : b ≠ c) (hi : Lib.index r [c] = i) : Lib.index (b :: r) [c] = (i + 1 : Nat) := by
  have hp : ([c] : List UInt8).isPrefixOf (b :: r) = false := by simp [List.isPrefixOf, Ne.symm h]
  have hix : Lib.index (b :: r) [c] = if Lib.index r [c] == -1 then -1 else Lib.index r [c] + 1 := by rw [Lib.index, hp]; simp
  rw [hix, if_neg (fun e => by have := beq_iff_eq.1 e; omega), hi]; omega
theorem has_one (l : List UInt8) (c : UInt8) : Lib.hasPrefix l [c] = decide (l.head? = some c) := by
  cases l with
  | nil => rfl
  | cons x r => by_cases h : x = c <;> simp [Lib.hasPrefix, h, List.isPrefixOf] <;> exact fun e => h e.symm
theorem trim_one (l : List UInt8) (c : UInt8) : Lib.trimPrefix l [c] = if l.head? = some c then l.tail else l := by
  unfold Lib.trimPrefix
  cases l with
  | nil => rfl
  | cons x r => by_cases h : x = c <;> simp [Lib.hasPrefix, h, List.isPrefixOf] <;> exact fun e => absurd e.symm h

theorem filter_le (l : List UInt8) : (Im.noB l).length ≤ l.length := List.length_filter_le _ _
theorem drop_le (l : List UInt8) : (Im.noZ l).length ≤ l.length := by
  unfold Im.noZ
  exact List.Sublist.length_le (List.dropWhile_sublist _)
end Go.Proofs.YtkoljddejjfbiaaGreatDoor
/- The contract of DivMod for integers that are small. -/
namespace Go.Proofs.YtkoljddejjfbiaaGreatDoor
open Go Go.RowKit Go.Shelf

/-- The quotient, rounded down, and the remainder. -/
def dvC (x y : Int) : Bool := x.tmod y != 0 && (decide (x.tmod y < 0) != decide (y < 0))
def dvQ (x y : Int) : Int := if dvC x y then x.tdiv y - 1 else x.tdiv y
def dvR (x y : Int) : Int := if dvC x y then x.tmod y + y else x.tmod y
theorem dv_sum (x y : Int) : dvQ x y * y + dvR x y = x := by
  have h := Int.mul_tdiv_add_tmod x y
  have e := Int.sub_mul (x.tdiv y) 1 y
  rw [Int.mul_comm] at h
  unfold dvQ dvR
  split
  · rw [e]; omega
  · exact h
theorem dv_ends (x y : Int) (hy : y ≠ 0) : (0 < y → 0 ≤ dvR x y ∧ dvR x y < y) ∧ (y < 0 → y < dvR x y ∧ dvR x y ≤ 0) := by
  have h1 : (x.tmod y).natAbs < y.natAbs := by rw [Int.natAbs_tmod]; exact Nat.mod_lt _ (by omega)
  unfold dvR dvC
  by_cases h2 : x.tmod y = 0
  · rw [h2]
    simp
  · by_cases h3 : x.tmod y < 0
    · by_cases h4 : y < 0
      · simp [h3, h4]; omega
      · simp [h2, h3, h4]; omega
    · by_cases h4 : y < 0
      · simp [h2, h3, h4]; omega
      · simp [h3, h4]; omega
theorem dv_unique {x y q r q' r' : Int} (h : q * y + r = x) (h' : q' * y + r' = x) (e : (0 < y → 0 ≤ r ∧ r < y) ∧ (y < 0 → y < r ∧ r ≤ 0)) (e' : (0 < y → 0 ≤ r' ∧ r' < y) ∧ (y < 0 → y < r' ∧ r' ≤ 0)) (hy : y ≠ 0) : q = q' ∧ r = r' := by
  have h1 : (q - q') * y = r' - r := by rw [Int.sub_mul]; omega
  have h2 : (r' - r).natAbs < y.natAbs := by
    rcases Int.lt_or_gt_of_ne hy with h3 | h3
    · have := e.2 h3; have := e'.2 h3; omega
    · have := e.1 h3; have := e'.1 h3; omega
  have h3 : q - q' = 0 := by
    rcases Int.lt_trichotomy (q - q') 0 with h4 | h4 | h4
    · exfalso
      have h5 : (r' - r).natAbs = (q - q').natAbs * y.natAbs := by rw [← h1, Int.natAbs_mul]
      have h6 : 1 * y.natAbs ≤ (q - q').natAbs * y.natAbs := Nat.mul_le_mul_right _ (by omega)
      omega
    · exact h4
    · exfalso
      have h5 : (r' - r).natAbs = (q - q').natAbs * y.natAbs := by rw [← h1, Int.natAbs_mul]
      have h6 : 1 * y.natAbs ≤ (q - q').natAbs * y.natAbs := Nat.mul_le_mul_right _ (by omega)
      omega
  rw [h3, Int.zero_mul] at h1
  exact ⟨by omega, by omega⟩
theorem sgn_zero {z : Int} : sgn z = 0 ↔ z = 0 := by
  unfold sgn
  by_cases h : z = 0
  · simp [h]
  · rw [if_neg h]; split <;> simp [h]

end Go.Proofs.YtkoljddejjfbiaaGreatDoor
/- The law's known examples. -/
namespace Go.Proofs.YtkoljddejjfbiaaGreatDoor
open Go Go.RowKit Go.Shelf

theorem tz_of {z : Int} {s : ByteArray} (h : Im.canonI s.data.toList = true) (hv : iv s = z) : tz z = s := by rw [← hv]; exact tz_iv h
theorem cn_of {s : ByteArray} (h : Im.canonI s.data.toList = true) (hs : s.size ≤ 100000) : Cn s := ⟨h, hs⟩

end Go.Proofs.YtkoljddejjfbiaaGreatDoor
/- The reference's Cut, Canonical, Right, Of, Small; fits. -/
namespace Go.Proofs.YtkoljddejjfbiaaGreatDoor
open Go Go.RowKit Go.Shelf

theorem drew_below (w : World) (m : Nat) : Below w.heap.size w (w.drewN m) := ⟨rfl, rfl, rfl, Nat.le_refl _, fun _ _ => rfl⟩
def mns (l : List UInt8) : Bool := decide (l.head? = some 45)

set_option maxHeartbeats 1000000 in
theorem cut_any (s : ByteArray) (hs : s.size ≤ 1048576) (w : World) :
    Calls Tryz.prog 60 #[.string s] w fun e w' => e = .returned (.tuple #[.bool (mns s.data.toList), .string ⟨(Im.dgs s.data.toList).toArray⟩]) ∧ ∃ m, w' = w.drewN m := by
  have H := Lib.hid (fun W => Tryz.strings_HasPrefix s ⟨#[45]⟩ W)
  have hh : Lib.hasPrefix s.data.toList (ByteArray.mk #[45]).data.toList = mns s.data.toList := has_one _ _
  rw [hh] at H
  cases hm : mns s.data.toList with
  | true =>
    rw [hm] at H
    have hm' : s.data.toList.head? = some 45 := by simpa [mns] using hm
    have h1 : 1 ≤ s.size := by
      rw [← size_list]
      cases hl : s.data.toList with
      | nil => rw [hl] at hm'; simp at hm'
      | cons _ _ => simp
    have he : s.extract 1 s.size = ⟨(Im.dgs s.data.toList).toArray⟩ := by
      refine bytes_ext ?_
      rw [extract_list, ← size_list, List.take_length]
      unfold Im.dgs
      rw [if_pos hm', List.drop_one]
    have h1i : (1 : Int) ≤ (s.size : Int) := by omega
    rw [← he]
    clear hh hm hm' he
    go_enter Tryz.func60, Tryz.ntmps60
    go_wp2_with fail
    refine (H.out _).mono ?_
    rintro e w' ⟨rfl, rfl⟩
    go_wp2_with (go_quiet (fail))
    exact bodyPost_ret (v := .tuple #[.bool true, .string (s.extract 1 s.size)]) (by simp [results, Tryz.results60, go_sem]) rfl ⟨rfl, _, rfl⟩
  | false =>
    rw [hm] at H
    have hm' : ¬ s.data.toList.head? = some 45 := by simpa [mns] using hm
    have he : s = ⟨(Im.dgs s.data.toList).toArray⟩ := by
      apply ext_bytes
      unfold Im.dgs
      rw [if_neg hm']
    rw [← he]
    clear hh hm hm' he
    go_enter Tryz.func60, Tryz.ntmps60
    go_wp2_with fail
    refine (H.out _).mono ?_
    rintro e w' ⟨rfl, rfl⟩
    go_wp2_with (go_quiet (fail))
    exact bodyPost_ret (v := .tuple #[.bool false, .string s]) (by simp [results, Tryz.results60, go_sem]) rfl ⟨rfl, 0, rfl⟩
/-- What Right returns. -/
def rightL (l : List UInt8) : Bool := Im.canonI l && decide ((Im.dgs l).length ≤ 400)
theorem rof_any (n : Int) (h0 : -9223372036854775808 ≤ n) (h1 : n ≤ 9223372036854775807) (w : World) (G : Gi w) :
    Calls Tryz.prog 57 #[.int .i64 n] w fun e w' => e = .returned (.string (tz n)) ∧ Below w.heap.size w w' := by
  have T := Lib.hid (Tryz.strconv_Itoa n h0 h1 w G.tab)
  go_enter Tryz.func57, Tryz.ntmps57
  go_wp2_with fail
  refine T.out.mono ?_
  rintro e w' ⟨rfl, k, os, rfl⟩
  go_wp2
  go_ret
  exact ⟨rfl, Lib.below_grow _ w (Nat.le_refl _) k os⟩
theorem rsmall_any (s : ByteArray) (hs : s.size ≤ 1048576) (hc : Im.canonI s.data.toList = true) (w : World) :
    Calls Tryz.prog 61 #[.string s] w fun e w' => e = .returned (.tuple #[.int .i64 (smallV s.data.toList), .bool (smallB s.data.toList)]) ∧ Below w.heap.size w w' := by
  have C := Lib.hid (fun W => cut_any s hs W)
  have hlen := dgs_len s.data.toList
  rw [size_list] at hlen
  by_cases h1 : 18 < (Im.dgs s.data.toList).length
  · have e1 : smallV s.data.toList = 0 := by unfold smallV; rw [if_neg (by omega)]
    have e2 : smallB s.data.toList = false := by unfold smallB; simp; intro; omega
    rw [e1, e2]
    have h2 : (18 : Int) < ((Im.dgs s.data.toList).length : Int) := by omega
    clear e1 e2 hc
    generalize Im.dgs s.data.toList = d at *
    go_enter Tryz.func61, Tryz.ntmps61
    go_wp2_with fail
    refine (C.out _).mono ?_
    rintro e w1 ⟨rfl, m1, rfl⟩
    go_wp2
    exact bodyPost_ret (v := .tuple #[.int .i64 0, .bool false]) (by simp [results, Tryz.results61, go_sem]) rfl ⟨rfl, drew_below _ _⟩
  · have h2 : ¬ (18 : Int) < ((Im.dgs s.data.toList).length : Int) := by omega
    have e1 : smallV s.data.toList = Im.ivL s.data.toList := by unfold smallV; rw [if_pos ⟨hc, by omega⟩]
    have e2 : smallB s.data.toList = true := by unfold smallB; rw [hc]; simp; omega
    have A := Lib.hid (fun W => Tryz.strconv_Atoi_ok s (by omega) (Im.ivL s.data.toList) (atoi_canon hc (by omega)) W)
    rw [e1, e2]
    clear e1 e2 hc
    generalize Im.dgs s.data.toList = d at *
    generalize Im.ivL s.data.toList = z at *
    go_enter Tryz.func61, Tryz.ntmps61
    go_wp2_with fail
    refine (C.out _).mono ?_
    rintro e w1 ⟨rfl, m1, hw1⟩
    have hb1 : Below w.heap.size w w1 := by rw [hw1]; exact drew_below _ _
    clear hw1
    go_wp2_with fail
    refine (A.out _).mono ?_
    rintro e w2 ⟨rfl, hw⟩
    have hb : Below w1.heap.size w1 w2 := by
      rcases hw with rfl | ⟨t, rfl⟩
      · exact Below.refl _ _
      · exact Lib.bytesWorld_below _ _ _
    clear hw
    go_wp2_with (go_quiet (fail))
    exact bodyPost_ret (v := .tuple #[.int .i64 z, .bool true]) (by simp [results, Tryz.results61, go_sem]) rfl ⟨rfl, (hb1.trans (hb.mono hb1.size)).trans ⟨rfl, rfl, rfl, Nat.le_refl _, fun _ _ => rfl⟩⟩

/-- What fits asks of one integer. -/
def fitB (s : ByteArray) : Bool := decide (s.size ≤ 90) && Im.canonI s.data.toList
theorem fit_cn {s : ByteArray} (h : fitB s = true) : Cn s ∧ s.size ≤ 90 := by
  unfold fitB at h
  rw [Bool.and_eq_true, decide_eq_true_iff] at h
  exact ⟨⟨h.2, by omega⟩, h.1⟩
end Go.Proofs.YtkoljddejjfbiaaGreatDoor
/- The reference's digits to the base 10000: carries of sums and differences, rows of them in memory; short, toInt. -/
namespace Go.Proofs.YtkoljddejjfbiaaGreatDoor
open Go Go.RowKit Go.Shelf

/-- The reference's base. -/
def RB : Nat := 10000
theorem rb2 : 2 ≤ RB := by unfold RB; omega
theorem rb_pos (k : Nat) : 0 < RB ^ k := Nat.pow_pos (by unfold RB; omega)
def rnd (x : Nat) : Nat := Im.nd RB x
def rdg (x k : Nat) : Nat := Im.dg RB x k
theorem rdg_lt (x k : Nat) : rdg x k < 10000 := Im.dg_lt rb2 x k
theorem rnd_zero : rnd 0 = 0 := Im.nd_zero
theorem rnd_pos_iff {x : Nat} : rnd x = 0 ↔ x = 0 := ⟨Im.nd_eq_zero rb2, fun h => by subst h; exact Im.nd_zero⟩
theorem rdg_above {x k : Nat} (h : rnd x ≤ k) : rdg x k = 0 := Im.dg_above rb2 h
theorem rdg_high {x k : Nat} (h : x < RB ^ k) : rdg x k = 0 := Im.dg_high h
theorem rmod_succ (n k : Nat) : n % RB ^ (k + 1) = n % RB ^ k + RB ^ k * rdg n k := Im.mod_succ n k
theorem rdiv_dg (x k : Nat) : x / RB ^ k = RB * (x / RB ^ (k + 1)) + rdg x k := by
  unfold rdg Im.dg
  rw [Nat.pow_succ, ← Nat.div_div_eq_div_mul]
  exact (Nat.div_add_mod _ _).symm
theorem rlt_of_nd {x y : Nat} (h : rnd x < rnd y) : x < y := by
  rcases Nat.lt_or_ge x y with h1 | h1
  · exact h1
  · have := Im.nd_mono rb2 h1
    unfold rnd at h
    omega
theorem rlt_of_dg {x y k : Nat} (h : x / RB ^ (k + 1) = y / RB ^ (k + 1)) (hd : rdg x k < rdg y k) : x < y := by
  have h1 := rdiv_dg x k
  have h2 := rdiv_dg y k
  rw [h] at h1
  rcases Nat.lt_or_ge x y with h3 | h3
  · exact h3
  · have := Nat.div_le_div_right (c := RB ^ k) h3
    omega

/-- The carry of a sum or difference at place k. -/
def cw (s : Int) (x y k : Nat) : Int := (((x % RB ^ k : Nat) : Int) + s * ((y % RB ^ k : Nat) : Int)) / ((RB ^ k : Nat) : Int)
theorem cw_zero (s : Int) (x y : Nat) : cw s x y 0 = 0 := by simp [cw, Nat.mod_one]
theorem cw_bounds {s : Int} (hs : s = 1 ∨ s = -1) (x y k : Nat) : -1 ≤ cw s x y k ∧ cw s x y k ≤ 1 := by
  have hp := rb_pos k
  have h1 := Nat.mod_lt x hp
  have h2 := Nat.mod_lt y hp
  unfold cw
  generalize x % RB ^ k = a at *
  generalize y % RB ^ k = b at *
  generalize RB ^ k = p at *
  have hp' : (0 : Int) < (p : Int) := by omega
  refine ⟨(Int.le_ediv_iff_mul_le hp').2 ?_, Int.lt_add_one_iff.1 ((Int.ediv_lt_iff_lt_mul hp').2 ?_)⟩
  · rcases hs with rfl | rfl <;> omega
  · rcases hs with rfl | rfl <;> omega
theorem cw_sum (s : Int) (x y k : Nat) : cw s x y k + (rdg x k : Int) + s * (rdg y k : Int) = (((x % RB ^ (k + 1) : Nat) : Int) + s * ((y % RB ^ (k + 1) : Nat) : Int)) / ((RB ^ k : Nat) : Int) := by
  have hp := rb_pos k
  rw [rmod_succ x k, rmod_succ y k]
  unfold cw
  generalize x % RB ^ k = a at *
  generalize y % RB ^ k = b at *
  generalize rdg x k = c at *
  generalize rdg y k = d at *
  generalize RB ^ k = p at *
  rw [show (((a + p * c : Nat) : Int) + s * ((b + p * d : Nat) : Int)) = ((a : Int) + s * (b : Int)) + (p : Int) * ((c : Int) + s * (d : Int)) by
    push_cast
    rw [Int.mul_add, Int.mul_add, Int.mul_left_comm s (p : Int) (d : Int)]
    omega]
  rw [Int.add_mul_ediv_left _ _ (by omega)]
  omega
theorem cw_next (s : Int) (x y k : Nat) : (cw s x y k + (rdg x k : Int) + s * (rdg y k : Int)) / 10000 = cw s x y (k + 1) := by
  rw [cw_sum]
  unfold cw
  rw [show ((RB ^ (k + 1) : Nat) : Int) = ((RB ^ k : Nat) : Int) * 10000 by rw [Nat.pow_succ, Int.natCast_mul]; rfl, Int.ediv_ediv_of_nonneg (by omega)]
theorem cw_digit {s : Int} {x y z : Nat} (hz : (z : Int) = (x : Int) + s * (y : Int)) (k : Nat) : (cw s x y k + (rdg x k : Int) + s * (rdg y k : Int)) % 10000 = (rdg z k : Int) := by
  have h1 := cw_sum s x y k
  have hp := rb_pos k
  have hq := rb_pos (k + 1)
  rw [h1]
  unfold rdg Im.dg
  have ex := Nat.div_add_mod x (RB ^ (k + 1))
  have ey := Nat.div_add_mod y (RB ^ (k + 1))
  generalize x % RB ^ (k + 1) = a at *
  generalize y % RB ^ (k + 1) = b at *
  generalize x / RB ^ (k + 1) = c at *
  generalize y / RB ^ (k + 1) = d at *
  have e2 : (z : Int) = ((a : Int) + s * (b : Int)) + ((RB ^ k : Nat) : Int) * (10000 * ((c : Int) + s * (d : Int))) := by
    rw [hz, ← ex, ← ey, Nat.pow_succ]
    generalize RB ^ k = p
    simp only [Int.natCast_add, Int.natCast_mul, show ((RB : Nat) : Int) = 10000 from rfl]
    generalize (p : Int) = p
    rw [show (10000 : Int) * ((c : Int) + s * (d : Int)) = 10000 * (c : Int) + 10000 * (s * (d : Int)) by rw [Int.mul_add], Int.mul_add, Int.mul_add, Int.mul_assoc, Int.mul_assoc, show s * (p * (10000 * (d : Int))) = p * (10000 * (s * (d : Int))) by rw [Int.mul_left_comm s p, Int.mul_left_comm s 10000]]
    omega
  have e3 : ((z / RB ^ k : Nat) : Int) = ((a : Int) + s * (b : Int)) / ((RB ^ k : Nat) : Int) + 10000 * ((c : Int) + s * (d : Int)) := by
    rw [Int.natCast_ediv, e2, Int.add_mul_ediv_left _ _ (by omega)]
  have e4 : ((z / RB ^ k % RB : Nat) : Int) = ((z / RB ^ k : Nat) : Int) % 10000 := by rw [Int.natCast_emod]; rfl
  rw [e4, e3, Int.add_mul_emod_self_left]
theorem cw_high {s : Int} {x y z k : Nat} (hz : (z : Int) = (x : Int) + s * (y : Int)) (hx : x < RB ^ k) (hy : y < RB ^ k) : cw s x y k = ((z / RB ^ k : Nat) : Int) := by
  unfold cw
  rw [Nat.mod_eq_of_lt hx, Nat.mod_eq_of_lt hy, ← hz, Int.natCast_ediv]

/-- A row of n digits of x, at a slice. -/
structure RRow (W : World) (sa : Option Addr) (n cap b o x : Nat) : Prop where
  cap : n ≤ cap
  at_ : 0 < n → sa = some ⟨b, o, none⟩
  lt : 0 < n → b < W.heap.size
  cell : ∀ k, k < n → W.cell? ⟨b, o + k, none⟩ = some (.int .i64 (rdg x k : Nat))
  fits : x < RB ^ n
theorem RRow.below {W W' : World} {B : Nat} {sa : Option Addr} {n cap b o x : Nat} (h : RRow W sa n cap b o x) (hb : Below B W W') (hB : W.heap.size ≤ B) : RRow W' sa n cap b o x :=
  ⟨h.cap, h.at_, fun p => Nat.lt_of_lt_of_le (h.lt p) hb.size, fun k hk => (hb.cell (p := ⟨b, o + k, none⟩) (Nat.lt_of_lt_of_le (h.lt (by omega)) hB)).trans (h.cell k hk), h.fits⟩
theorem RRow.trim {W : World} {sa : Option Addr} {n cap b o x : Nat} (h : RRow W sa n cap b o x) : RRow W sa (rnd x) cap b o x := by
  have hn : rnd x ≤ n := Im.nd_le rb2 h.fits
  exact ⟨Nat.le_trans hn h.cap, fun p => h.at_ (by omega), fun p => h.lt (by omega), fun k hk => h.cell k (by omega), Im.lt_pow_nd rb2 x⟩
/-- The magnitude x in the reference's memory, at a slice. -/
def RMag (W : World) (v : Value) (x : Nat) : Prop := ∃ (sa : Option Addr) (cap b o : Nat), v = .slice sa (rnd x) cap ∧ RRow W sa (rnd x) cap b o x
theorem RMag.below {W W' : World} {B : Nat} {v : Value} {x : Nat} (h : RMag W v x) (hb : Below B W W') (hB : W.heap.size ≤ B) : RMag W' v x := by
  obtain ⟨sa, cap, b, o, h1, h2⟩ := h
  exact ⟨sa, cap, b, o, h1, h2.below hb hB⟩
theorem RMag.call {W W' : World} {v : Value} {x : Nat} (h : RMag W v x) (hb : Below W.heap.size W W') : RMag W' v x := h.below hb (Nat.le_refl _)

def rpcs (x n : Nat) : List Value := (List.range n).map fun k => .int .i64 (rdg x k : Nat)
theorem rpcs_succ (x n : Nat) : rpcs x (n + 1) = rpcs x n ++ [.int .i64 (rdg x n : Nat)] := by simp [rpcs, List.range_succ]
theorem info_int : (Tryz.prog.info? 3).map (fun i => (i.zero, i.size, i.bytes)) = some (some (.int .i64 0), 1, 8) := by kernel_rfl
theorem rrow_of {W : World} {b0 n x : Nat} {v : Value} (h : W.ownsRow b0 3 1 v n (rpcs x n)) (hx : x < RB ^ n) :
    ∃ sa cap b, v = .slice sa n cap ∧ RRow W sa n cap b 0 x ∧ (0 < n → b0 ≤ b) := by
  have hc := fun g hv => h.cells (g := g) hv
  obtain ⟨_, h2⟩ := h
  rcases h2 with ⟨rfl, hn⟩ | ⟨g, cap, cur, rfl, hg, hh, hcap, hcm, hsz, htk⟩
  · obtain rfl : n = 0 := by first | omega | (have := hn.1; omega) | (have := hn.2; simp [rpcs] at this; omega)
    exact ⟨none, 0, 0, rfl, ⟨Nat.le_refl _, fun p => absurd p (Nat.lt_irrefl _), fun p => absurd p (Nat.lt_irrefl _), fun k hk => absurd hk (Nat.not_lt_zero _), hx⟩, fun p => absurd p (Nat.lt_irrefl _)⟩
  · refine ⟨some ⟨g, 0, none⟩, cap, g, rfl, ⟨hcap, fun _ => rfl, fun _ => (Array.getElem?_eq_some_iff.1 hh).1, fun k hk => ?_, hx⟩, fun _ => hg⟩
    have := hc g rfl k (.int .i64 (rdg x k : Nat)) (by simp [rpcs, hk])
    have e : (⟨g, 0, none⟩ : Addr).add k = ⟨g, 0 + k, none⟩ := by unfold Addr.add; split <;> simp_all
    rwa [e] at this

set_option maxHeartbeats 1000000 in
theorem short_any (sa : Option Addr) (n cap b o x : Nat) (w : World) (h : RRow w sa n cap b o x) (hn : n ≤ 1048576) :
    Calls Tryz.prog 84 #[.slice sa n cap] w fun e w' => e = .returned (.slice sa (rnd x) cap) ∧ w' = w := by
  have H := Lib.hid h
  have hcap := h.cap
  clear h
  go_enter Tryz.func84, Tryz.ntmps84
  go_wp2_with fail
  go_loop [0] (fun v => ∃ m : Nat, m ≤ n ∧ v = .slice sa m cap ∧ x < RB ^ m) (fun v => match v with | .slice _ m _ => m | _ => 0)
  case atStart => exact ⟨n, Nat.le_refl _, rfl, H.out.fits⟩
  case round =>
    obtain ⟨m, hm, rfl, hx⟩ := hrel
    have HX := Lib.hid hx
    clear hx
    cases m with
    | zero =>
      have hx0 : rnd x = 0 := rnd_pos_iff.2 (by have := HX.out; simp at this; omega)
      go_wp2
      go_ret
      exact ⟨rfl, rfl⟩
    | succ m =>
      have hc := H.out.cell m (by omega)
      obtain rfl := H.out.at_ (by omega)
      have hl := rdg_lt x m
      have hd1 : rdg x m ≠ 0 → rnd x = m + 1 := fun h0 => Im.nd_of_dg rb2 HX.out h0
      have hd0 : rdg x m = 0 → x < RB ^ m := fun h0 => Im.lt_of_dg rb2 HX.out h0
      have HD1 := Lib.hid hd1
      have HD0 := Lib.hid hd0
      clear hd1 hd0
      generalize rdg x m = d at *
      by_cases h0 : d = 0
      · subst h0
        go_wp2
        go_round
        case rel => exact ⟨m, by omega, rfl, HD0.out rfl⟩
        case measure => simp
      · have h1 : ¬ (d : Int) = 0 := by omega
        go_wp2
        go_ret
        rw [HD1.out h0]
        exact ⟨rfl, rfl⟩
theorem toInt_any (c : Bool) (w : World) :
    Calls Tryz.prog 78 #[.bool c] w fun e w' => e = .returned (.int .i64 (if c then 1 else 0)) ∧ w' = w := by
  cases c with
  | true =>
    go_enter Tryz.func78, Tryz.ntmps78
    go_wp2
    go_ret
    exact ⟨rfl, rfl⟩
  | false =>
    go_enter Tryz.func78, Tryz.ntmps78
    go_wp2
    go_ret
    exact ⟨rfl, rfl⟩
theorem atoi_digits {l : List UInt8} (h3 : l ≠ []) (h4 : l.all Im.isD = true) (hl : l.length ≤ 18) : Lib.atoiAll l = .ok (Im.valL l : Int) := by
  have hlt := Im.val_lt h4
  have hp : 10 ^ l.length ≤ 10 ^ 18 := Nat.pow_le_pow_right (by decide) hl
  have hpm : Lib.parseMag l = .ok (Im.valL l) := by
    unfold Lib.parseMag
    rw [if_neg h3]
    have := parse_digits l 0 h4 (by omega)
    simpa using this
  cases l with
  | nil => exact absurd rfl h3
  | cons c r =>
    have hd : Im.isD c = true := List.all_eq_true.1 h4 c (by simp)
    have hd2 := Im.isD_iff.1 hd
    unfold Lib.atoiAll
    simp only
    rw [if_neg (by omega), hpm]
    simp only
    rw [if_neg (by omega), if_neg (by omega), if_neg (by omega)]
end Go.Proofs.YtkoljddejjfbiaaGreatDoor
/- The reference's order and whole. -/
namespace Go.Proofs.YtkoljddejjfbiaaGreatDoor
open Go Go.RowKit Go.Shelf

def cmpN (x y : Nat) : Int := if x < y then -1 else if y < x then 1 else 0

theorem order_len (sx : Option Addr) (nx cx : Nat) (sy : Option Addr) (ny cpy : Nat) (h : nx ≠ ny) (w : World) :
    Calls Tryz.prog 95 #[.slice sx nx cx, .slice sy ny cpy] w fun e w' => e = .returned (.int .i64 (if nx < ny then -1 else 1)) ∧ ∃ m, w' = w.drewN m := by
  have T := Lib.hid (fun c W => toInt_any c W)
  have h1 : ¬ ((nx : Int) = (ny : Int)) := by omega
  have h2 : ((nx : Int) == (ny : Int)) = false := by rw [beq_eq_false_iff_ne]; exact h1
  have h3 : ((nx : Int) != (ny : Int)) = true := by simp [bne, h2]
  by_cases hl : nx < ny
  · have h4 : ¬ (ny : Int) < (nx : Int) := by omega
    rw [if_pos hl]
    have T0 := Lib.hid (fun W => T.out false W)
    clear T h h2
    go_enter Tryz.func95, Tryz.ntmps95
    go_wp2_with fail
    refine (T0.out _).mono ?_
    rintro e w1 ⟨rfl, hww⟩
    subst w1
    go_wp2
    go_ret
    exact ⟨rfl, 0, rfl⟩
  · have h4 : (ny : Int) < (nx : Int) := by omega
    rw [if_neg hl]
    have T0 := Lib.hid (fun W => T.out true W)
    clear T h h2
    go_enter Tryz.func95, Tryz.ntmps95
    go_wp2_with fail
    refine (T0.out _).mono ?_
    rintro e w1 ⟨rfl, hww⟩
    subst w1
    go_wp2
    go_ret
    exact ⟨rfl, 0, rfl⟩

theorem drewN3 (w : World) (a b c : Nat) : ((w.drewN a).drewN b).drewN c = w.drewN (a + b + c) := by rw [World.drewN_drewN, World.drewN_drewN, Nat.add_assoc]
set_option maxHeartbeats 1000000 in
theorem order_same (sx : Option Addr) (n cx bx ox x : Nat) (sy : Option Addr) (cpy by_ oy y : Nat) (w : World) (hx : RRow w sx n cx bx ox x) (hy : RRow w sy n cpy by_ oy y) (hn : n ≤ 1048576) :
    Calls Tryz.prog 95 #[.slice sx n cx, .slice sy n cpy] w fun e w' => e = .returned (.int .i64 (cmpN x y)) ∧ ∃ m, w' = w.drewN m := by
  have HX := Lib.hid hx
  have HY := Lib.hid hy
  have T0 := Lib.hid (fun W => toInt_any false W)
  have T1 := Lib.hid (fun W => toInt_any true W)
  have hcx := hx.cap
  have hcy := hy.cap
  clear hx hy
  obtain ⟨R, hR⟩ : ∃ R, cmpN x y = R := ⟨_, rfl⟩
  have HR := Lib.hid hR
  rw [hR]
  clear hR
  go_enter Tryz.func95, Tryz.ntmps95
  go_wp2_with fail
  go_loopw [5] (fun i wr => ∃ k m : Nat, k ≤ n ∧ i = .int .i64 ((k : Int) - 1) ∧ wr = w.drewN m ∧ x / RB ^ k = y / RB ^ k) (fun i _ => (intOf i + 1).toNat)
  case atStart => exact ⟨n, 0, Nat.le_refl _, rfl, rfl, by rw [Nat.div_eq_of_lt HX.out.fits, Nat.div_eq_of_lt HY.out.fits]⟩
  case round =>
    obtain ⟨k, m, hk, rfl, rfl, he⟩ := hrel
    cases k with
    | zero =>
      have hxy : x = y := by simpa using he
      have hr : R = 0 := by rw [← HR.out, hxy]; unfold cmpN; simp
      subst hr
      clear he hxy
      go_wp2
      go_ret
      exact ⟨rfl, m, rfl⟩
    | succ k =>
      have hki : ((k + 1 : Nat) : Int) - 1 = (k : Int) := by omega
      rw [hki]
      have HK := Lib.hid hki
      have ca := HX.out.cell k (by omega)
      have cb := HY.out.cell k (by omega)
      obtain rfl := HX.out.at_ (by omega)
      obtain rfl := HY.out.at_ (by omega)
      have hl1 := @rlt_of_dg x y k he
      have hl2 := @rlt_of_dg y x k he.symm
      have he2 : rdg x k = rdg y k → x / RB ^ k = y / RB ^ k := fun h => by rw [rdiv_dg x k, rdiv_dg y k, he, h]
      have HL1 := Lib.hid hl1
      have HL2 := Lib.hid hl2
      have HE2 := Lib.hid he2
      have hk1 : (k : Int) < (n : Int) := by omega
      clear he hl1 hl2 he2 hki
      generalize rdg x k = d1 at *
      generalize rdg y k = d2 at *
      by_cases hd : d1 = d2
      · subst hd
        go_wp2_with (go_quiet (fail))
        go_roundw
        case rel => exact ⟨k, _, by omega, by go_num, rfl, HE2.out rfl⟩
        case measure => simp [intOf]
      · have hd1 : ¬ (d1 : Int) = (d2 : Int) := by omega
        have hd2 : ((d1 : Int) != (d2 : Int)) = true := by simpa using hd1
        rcases Nat.lt_or_ge d1 d2 with h2 | h2
        · have h3 : ¬ (d2 : Int) < (d1 : Int) := by omega
          have hr : R = -1 := by rw [← HR.out]; unfold cmpN; rw [if_pos (HL1.out h2)]
          subst hr
          clear hd h2
          go_wp2_with (go_quiet ((refine still_more (T0.out _ |>.mono fun _ _ h => ⟨h.1, h.2.symm⟩))))
          go_ret
          exact ⟨rfl, _, rfl⟩
        · have h3 : (d2 : Int) < (d1 : Int) := by omega
          have hlt := HL2.out (by omega)
          have hr : R = 1 := by rw [← HR.out]; unfold cmpN; rw [if_neg (by omega), if_pos hlt]
          subst hr
          clear hd h2 hlt
          go_wp2_with (go_quiet ((refine still_more (T1.out _ |>.mono fun _ _ h => ⟨h.1, h.2.symm⟩))))
          go_ret
          exact ⟨rfl, _, drewN3 w _ _ _⟩
theorem order_any (sx : Option Addr) (cx bx ox x : Nat) (sy : Option Addr) (cpy by_ oy y : Nat) (w : World) (hx : RRow w sx (rnd x) cx bx ox x) (hy : RRow w sy (rnd y) cpy by_ oy y) (hn : rnd x ≤ 1048576) :
    Calls Tryz.prog 95 #[.slice sx (rnd x) cx, .slice sy (rnd y) cpy] w fun e w' => e = .returned (.int .i64 (cmpN x y)) ∧ ∃ m, w' = w.drewN m := by
  by_cases h : rnd x = rnd y
  · rw [← h] at hy ⊢
    exact order_same sx (rnd x) cx bx ox x sy cpy by_ oy y w hx hy hn
  · have e : cmpN x y = if rnd x < rnd y then -1 else 1 := by
      unfold cmpN
      by_cases h1 : rnd x < rnd y
      · rw [if_pos h1, if_pos (rlt_of_nd h1)]
      · have h2 := rlt_of_nd (show rnd y < rnd x by omega)
        rw [if_neg h1, if_neg (by omega), if_pos h2]
    rw [e]
    exact order_len sx (rnd x) cx sy (rnd y) cpy h w
theorem order_mag (v u : Value) (x y : Nat) (w : World) (hx : RMag w v x) (hy : RMag w u y) (hn : rnd x ≤ 1048576) :
    Calls Tryz.prog 95 #[v, u] w fun e w' => e = .returned (.int .i64 (cmpN x y)) ∧ ∃ m, w' = w.drewN m := by
  obtain ⟨sx, cx, bx, ox, rfl, h1⟩ := hx
  obtain ⟨sy, cy, by_, oy, rfl, h2⟩ := hy
  exact order_any sx cx bx ox x sy cy by_ oy y w h1 h2 hn

/-! ### whole -/
theorem itoa_plus {d : Nat} (h : d < 10000) : Lib.itoa (10000 + (d : Int)) = 49 :: Im.pad 4 d := by
  rw [Im.itoa_nonneg (by omega), show ((10000 : Int) + (d : Int)).toNat = 1 * 10 ^ 4 + d by omega, Im.dec_pad (by decide) h (by decide), Im.dec_small (by decide)]
  rfl
theorem dec_next {x k : Nat} (h : 0 < x / RB ^ (k + 1)) : Lib.decDigits (x / RB ^ k) = Lib.decDigits (x / RB ^ (k + 1)) ++ Im.pad 4 (rdg x k) := by
  rw [rdiv_dg x k, Nat.mul_comm]
  exact Im.dec_pad (w := 4) h (rdg_lt x k) (by decide)

set_option maxHeartbeats 2000000 in
theorem whole_some (mn : Bool) (sa : Option Addr) (cap b o x : Nat) (hx : x ≠ 0) (w : World) (h : RRow w sa (rnd x) cap b o x) (hn : rnd x ≤ 100000) (G : Gi w) :
    Calls Tryz.prog 62 #[.bool mn, .slice sa (rnd x) cap] w fun e w' => e = .returned (.string ⟨((if mn then [45] else []) ++ Lib.decDigits x).toArray⟩) ∧ Below w.heap.size w w' := by
  obtain ⟨n, hnn⟩ : ∃ n, rnd x = n := ⟨_, rfl⟩
  have hx0 : 0 < x := by omega
  have htop : x / RB ^ (n - 1) = rdg x (n - 1) := by
    rw [rdiv_dg x (n - 1)]
    have h1 : n - 1 + 1 = n := by have := Im.nd_pos rb2 hx0; change rnd x = _ at this; omega
    rw [h1, Nat.div_eq_of_lt (by rw [← hnn]; exact Im.lt_pow_nd rb2 x), Nat.mul_zero, Nat.zero_add]
  have hpos : ∀ k, k ≤ n - 1 → 0 < x / RB ^ k := fun k hk => Nat.div_pos (Nat.le_trans (Nat.pow_le_pow_right (by unfold RB; omega) hk) (by rw [← hnn]; exact Im.pow_nd_le rb2 hx0)) (rb_pos k)
  have hn0 : 0 < n := by
    rcases Nat.eq_zero_or_pos n with h0 | h0
    · exact absurd (rnd_pos_iff.1 (by omega)) hx
    · exact h0
  rw [hnn] at h hn ⊢
  have HT := Lib.hid htop
  have HP := Lib.hid hpos
  have H := Lib.hid h
  have hcap := h.cap
  have I := Lib.hid (fun (z : Int) h0 h1 W (g : Gi W) => Tryz.strconv_Itoa z h0 h1 W g.tab)
  have hn0' : ((n : Int) == 0) = false := by rw [beq_eq_false_iff_ne]; omega
  have hlt1 := rdg_lt x (n - 1)
  have c0 := h.cell (n - 1) (by omega)
  obtain rfl := h.at_ hn0
  clear hnn h htop hpos hx
  obtain ⟨N1, hN1⟩ : ∃ N1, n - 1 = N1 := ⟨_, rfl⟩
  have hN1i : (n : Int) - 1 = (N1 : Int) := by omega
  have hN2i : (n : Int) - 2 = (N1 : Int) - 1 := by omega
  have hN1n : N1 < n := by omega
  rw [hN1] at HT HP hlt1 c0
  have IT := Lib.hid (fun W g => I.out (rdg x N1 : Int) (by omega) (by omega) W g)
  rw [show Lib.itoa (rdg x N1 : Int) = Lib.decDigits (x / RB ^ N1) by rw [HT.out, Im.itoa_nonneg (by omega)]; rfl] at IT
  have hlen : ∀ k, k ≤ N1 → (Lib.decDigits (x / RB ^ k)).length ≤ 4 * (N1 + 1 - k) := fun k hk => by
    refine Im.dec_len ?_ (by omega)
    have : x < RB ^ (N1 + 1) := by have := H.out.fits; rwa [show N1 + 1 = n by omega]
    rw [Nat.div_lt_iff_lt_mul (rb_pos k), Nat.pow_mul, show (10 : Nat) ^ 4 = RB from rfl, ← Nat.pow_add, show N1 + 1 - k + k = N1 + 1 by omega]
    exact this
  have HLN := Lib.hid hlen
  clear hlen hN1
  cases mn with
  | false =>
    go_enter Tryz.func62, Tryz.ntmps62
    go_wp2_with fail
    refine (IT.out _ G).mono ?_
    rintro e w1 ⟨rfl, q1, os1, hw1⟩
    have hb1 : Below w.heap.size w w1 := by rw [hw1]; exact Lib.below_grow _ w (Nat.le_refl _) q1 os1
    clear hw1
    go_wp2_with fail
    go_loopw [5, 6] (fun s i wr => ∃ k : Nat, k ≤ N1 ∧ i = .int .i64 ((k : Int) - 1) ∧ s = .string ⟨(Lib.decDigits (x / RB ^ k)).toArray⟩ ∧ Below w.heap.size w wr) (fun _ i _ => (intOf i + 1).toNat)
    case atStart => exact ⟨N1, Nat.le_refl _, by first | rfl | go_num, rfl, hb1⟩
    case round =>
      obtain ⟨k, hk, rfl, rfl, hw⟩ := hrel
      cases k with
      | zero =>
        go_wp2
        go_ret
        exact ⟨ret_str (by simp), hw⟩
      | succ k =>
        have hki : ((k + 1 : Nat) : Int) - 1 = (k : Int) := by omega
        rw [hki]
        have ck := (hw.cell (p := ⟨b, o + k, none⟩) (H.out.lt (by omega))).trans (H.out.cell k (by omega))
        have hd := rdg_lt x k
        have hk0 : ¬ (k : Int) < 0 := by omega
        have hkn : (k : Int) < (n : Int) := by omega
        have IK := Lib.hid (fun W g => I.out (10000 + (rdg x k : Int)) (by omega) (by omega) W g)
        rw [itoa_plus hd] at IK
        have hpl := Im.pad_len (w := 4) (n := rdg x k) hd (by decide)
        have hdn := dec_next (x := x) (k := k) (HP.out (k + 1) (by omega))
        have hl1 := HLN.out (k + 1) (by omega)
        have hex : (ByteArray.mk (49 :: Im.pad 4 (rdg x k)).toArray).extract 1 (ByteArray.mk (49 :: Im.pad 4 (rdg x k)).toArray).size = ⟨(Im.pad 4 (rdg x k)).toArray⟩ := by
          apply ext_bytes
          rw [extract_list, ← size_list, List.take_length]; rfl
        have hsz : (ByteArray.mk (49 :: Im.pad 4 (rdg x k)).toArray).size = 5 := by rw [size_mk, List.length_cons, hpl]
        rw [hsz] at hex
        have hcat : (ByteArray.mk (Lib.decDigits (x / RB ^ (k + 1))).toArray) ++ (ByteArray.mk (Im.pad 4 (rdg x k)).toArray) = ⟨(Lib.decDigits (x / RB ^ k)).toArray⟩ := by
          apply ext_bytes
          rw [hdn]; simp
        have hs2 : (ByteArray.mk (Im.pad 4 (rdg x k)).toArray).size = 4 := by rw [size_mk, hpl]
        have hs3 : (ByteArray.mk (Lib.decDigits (x / RB ^ (k + 1))).toArray).size ≤ 400004 := by rw [size_mk]; omega
        obtain ⟨E, hE⟩ : ∃ E : ByteArray, ⟨(49 :: Im.pad 4 (rdg x k)).toArray⟩ = E := ⟨_, rfl⟩
        obtain ⟨P4, hP4⟩ : ∃ P4 : ByteArray, ⟨(Im.pad 4 (rdg x k)).toArray⟩ = P4 := ⟨_, rfl⟩
        obtain ⟨S, hS⟩ : ∃ S : ByteArray, ⟨(Lib.decDigits (x / RB ^ (k + 1))).toArray⟩ = S := ⟨_, rfl⟩
        rw [hE] at hex hsz IK
        rw [hP4] at hex hs2 hcat
        rw [hS] at hcat hs3 ⊢
        have hcl : ¬ 9223372036854775807 < S.size + P4.size := by omega
        have HCAT := Lib.hid hcat
        have hb0 := hw.size
        clear hdn hl1 hpl hE hP4 hS hcat
        generalize rdg x k = d at *
        go_wp2_with fail
        refine (IK.out _ (G.below hw)).mono ?_
        rintro e w3 ⟨rfl, q3, os3, hw3⟩
        have hb3 : Below w.heap.size w w3 := by rw [hw3]; exact hw.trans (Lib.below_grow _ wr hb0 q3 os3)
        clear hw3
        go_wp2_with (go_quiet (fail))
        go_roundw
        case rel => exact ⟨k, by omega, by go_num, by first | rw [HCAT.out] | (rw [← HCAT.out]; rfl), by first | exact hb3 | exact hb3.trans (drew_below _ _ |>.mono hb3.size)⟩
        case measure => simp [intOf]
  | true =>
    rw [show ((if true = true then [45] else []) ++ Lib.decDigits x) = 45 :: Lib.decDigits x from rfl]
    go_enter Tryz.func62, Tryz.ntmps62
    go_wp2_with fail
    refine (IT.out _ G).mono ?_
    rintro e w1 ⟨rfl, q1, os1, hw1⟩
    have hb1 : Below w.heap.size w w1 := by rw [hw1]; exact Lib.below_grow _ w (Nat.le_refl _) q1 os1
    clear hw1
    go_wp2_with fail
    go_loopw [5, 6] (fun s i wr => ∃ k : Nat, k ≤ N1 ∧ i = .int .i64 ((k : Int) - 1) ∧ s = .string ⟨(Lib.decDigits (x / RB ^ k)).toArray⟩ ∧ Below w.heap.size w wr) (fun _ i _ => (intOf i + 1).toNat)
    case atStart => exact ⟨N1, Nat.le_refl _, by first | rfl | go_num, rfl, hb1⟩
    case round =>
      obtain ⟨k, hk, rfl, rfl, hw⟩ := hrel
      cases k with
      | zero =>
        have hl0 := HLN.out 0 (by omega)
        have e0 : x / RB ^ 0 = x := by simp
        rw [e0] at hl0 ⊢
        have hcl : ¬ 9223372036854775807 < 1 + (Lib.decDigits x).length := by omega
        have hcl2 : ¬ 9223372036854775807 < 1 + (ByteArray.mk (Lib.decDigits x).toArray).size := by rw [size_mk]; omega
        clear e0
        go_wp2
        go_ret
        exact ⟨ret_str (ext_bytes (by simp)), hw⟩
      | succ k =>
        have hki : ((k + 1 : Nat) : Int) - 1 = (k : Int) := by omega
        rw [hki]
        have ck := (hw.cell (p := ⟨b, o + k, none⟩) (H.out.lt (by omega))).trans (H.out.cell k (by omega))
        have hd := rdg_lt x k
        have hk0 : ¬ (k : Int) < 0 := by omega
        have hkn : (k : Int) < (n : Int) := by omega
        have IK := Lib.hid (fun W g => I.out (10000 + (rdg x k : Int)) (by omega) (by omega) W g)
        rw [itoa_plus hd] at IK
        have hpl := Im.pad_len (w := 4) (n := rdg x k) hd (by decide)
        have hdn := dec_next (x := x) (k := k) (HP.out (k + 1) (by omega))
        have hl1 := HLN.out (k + 1) (by omega)
        have hex : (ByteArray.mk (49 :: Im.pad 4 (rdg x k)).toArray).extract 1 (ByteArray.mk (49 :: Im.pad 4 (rdg x k)).toArray).size = ⟨(Im.pad 4 (rdg x k)).toArray⟩ := by
          apply ext_bytes
          rw [extract_list, ← size_list, List.take_length]; rfl
        have hsz : (ByteArray.mk (49 :: Im.pad 4 (rdg x k)).toArray).size = 5 := by rw [size_mk, List.length_cons, hpl]
        rw [hsz] at hex
        have hcat : (ByteArray.mk (Lib.decDigits (x / RB ^ (k + 1))).toArray) ++ (ByteArray.mk (Im.pad 4 (rdg x k)).toArray) = ⟨(Lib.decDigits (x / RB ^ k)).toArray⟩ := by
          apply ext_bytes
          rw [hdn]; simp
        have hs2 : (ByteArray.mk (Im.pad 4 (rdg x k)).toArray).size = 4 := by rw [size_mk, hpl]
        have hs3 : (ByteArray.mk (Lib.decDigits (x / RB ^ (k + 1))).toArray).size ≤ 400004 := by rw [size_mk]; omega
        obtain ⟨E, hE⟩ : ∃ E : ByteArray, ⟨(49 :: Im.pad 4 (rdg x k)).toArray⟩ = E := ⟨_, rfl⟩
        obtain ⟨P4, hP4⟩ : ∃ P4 : ByteArray, ⟨(Im.pad 4 (rdg x k)).toArray⟩ = P4 := ⟨_, rfl⟩
        obtain ⟨S, hS⟩ : ∃ S : ByteArray, ⟨(Lib.decDigits (x / RB ^ (k + 1))).toArray⟩ = S := ⟨_, rfl⟩
        rw [hE] at hex hsz IK
        rw [hP4] at hex hs2 hcat
        rw [hS] at hcat hs3 ⊢
        have hcl : ¬ 9223372036854775807 < S.size + P4.size := by omega
        have HCAT := Lib.hid hcat
        have hb0 := hw.size
        clear hdn hl1 hpl hE hP4 hS hcat
        generalize rdg x k = d at *
        go_wp2_with fail
        refine (IK.out _ (G.below hw)).mono ?_
        rintro e w3 ⟨rfl, q3, os3, hw3⟩
        have hb3 : Below w.heap.size w w3 := by rw [hw3]; exact hw.trans (Lib.below_grow _ wr hb0 q3 os3)
        clear hw3
        go_wp2_with (go_quiet (fail))
        go_roundw
        case rel => exact ⟨k, by omega, by go_num, by first | rw [HCAT.out] | (rw [← HCAT.out]; rfl), by first | exact hb3 | exact hb3.trans (drew_below _ _ |>.mono hb3.size)⟩
        case measure => simp [intOf]
theorem whole_any (mn : Bool) (v : Value) (x : Nat) (w : World) (h : RMag w v x) (hn : rnd x ≤ 100000) (G : Gi w) :
    Calls Tryz.prog 62 #[.bool mn, v] w fun e w' => e = .returned (.string (tz (sv mn x))) ∧ Below w.heap.size w w' := by
  obtain ⟨sa, cap, b, o, rfl, hr⟩ := h
  by_cases h0 : x = 0
  · subst h0
    have e : tz (sv mn 0) = ⟨#[48]⟩ := by
      rw [show sv mn 0 = 0 by cases mn <;> rfl]
      unfold tz
      rw [show Lib.itoa 0 = [48] from (Im.itoa_nonneg (Int.le_refl 0)).trans Im.dec_zero]
    rw [e, rnd_zero]
    clear hr
    go_enter Tryz.func62, Tryz.ntmps62
    go_wp2
    go_ret
    exact ⟨rfl, Below.refl _ _⟩
  · have := whole_some mn sa cap b o x h0 w hr hn G
    refine this.mono fun e w' ⟨h1, h2⟩ => ⟨?_, h2⟩
    rw [h1]
    refine ret_str (ext_bytes ?_)
    unfold tz
    cases mn with
    | false => simp [sv, Im.itoa_nonneg (Int.natCast_nonneg x)]
    | true => rw [show sv true x = -(x : Int) from rfl, Im.itoa_neg (by omega), Int.natAbs_neg]; simp
end Go.Proofs.YtkoljddejjfbiaaGreatDoor
/- The reference's both: sums and differences of rows. -/
namespace Go.Proofs.YtkoljddejjfbiaaGreatDoor
open Go Go.RowKit Go.Shelf

theorem go_mod (c : Int) : (c.tmod 10000 + 10000).tmod 10000 = c % 10000 := by
  by_cases h : 0 ≤ c
  · rw [Int.tmod_eq_emod_of_nonneg h, Int.tmod_eq_emod_of_nonneg (by omega)]; omega
  · have e : c.tmod 10000 = -((-c) % 10000) := by
      rw [show c = -(-c) by omega, Int.neg_tmod, Int.tmod_eq_emod_of_nonneg (by omega), Int.neg_neg]
    rw [e, Int.tmod_eq_emod_of_nonneg (by omega)]; omega
theorem go_div (c : Int) : (c - c % 10000).tdiv 10000 = c / 10000 := by
  rw [show c - c % 10000 = 10000 * (c / 10000) by omega, Int.mul_tdiv_cancel_left _ (by decide)]
theorem info_both {W w1 : World} {B e size : Nat} {v : Value} {k : Nat} {xs : List Value} {o : Obj} (hB : B ≤ W.heap.size) (hrow : W.ownsRow B e size v k xs) (hg : (W.alloc o).grownBy w1 v.ownBlock) : Below B W w1 := grown_below hB hrow hg
set_option maxRecDepth 100000 in
set_option maxHeartbeats 4000000 in
theorem both_add (sx : Option Addr) (nx cx bx ox x : Nat) (sy : Option Addr) (ny cpy by_ oy y z : Nat) (hz : (z : Int) = (x : Int) + 1 * (y : Int)) (w : World) (hx : RRow w sx nx cx bx ox x) (hy : RRow w sy ny cpy by_ oy y) (hn1 : nx ≤ 200000) (hn2 : ny ≤ 200000) :
    Calls Tryz.prog 83 #[.slice sx nx cx, .slice sy ny cpy, .int .i64 1] w fun e w' => (∃ v, e = .returned v ∧ RMag w' v z) ∧ Below w.heap.size w w' := by
  obtain ⟨i0, hi0, hz0, hz1, hz2⟩ := info_parts info_int
  have HX := Lib.hid hx
  have HY := Lib.hid hy
  have hcx := hx.cap
  have hcy := hy.cap
  have SH := Lib.hid (fun sa n cap b o W h hn => short_any sa n cap b o z W h hn)
  have HDG := Lib.hid (fun k => cw_digit (s := 1) hz k)
  have HNX := Lib.hid (fun k => cw_next 1 x y k)
  have HBD := Lib.hid (fun k => cw_bounds (s := 1) (by decide) x y k)
  have hfx : ∀ k, nx ≤ k → x < RB ^ k := fun k hk => Nat.lt_of_lt_of_le hx.fits (Nat.pow_le_pow_right (by unfold RB; omega) hk)
  have hfy : ∀ k, ny ≤ k → y < RB ^ k := fun k hk => Nat.lt_of_lt_of_le hy.fits (Nat.pow_le_pow_right (by unfold RB; omega) hk)
  have HFX := Lib.hid hfx
  have HFY := Lib.hid hfy
  have hhigh : ∀ k, nx ≤ k → ny ≤ k → cw 1 x y k = ((z / RB ^ k : Nat) : Int) := fun k h1 h2 => cw_high hz (hfx k h1) (hfy k h2)
  have HH := Lib.hid hhigh
  have hend : ∀ k, nx ≤ k → ny ≤ k → cw 1 x y (k + 1) = 0 := fun k h1 h2 => by
    rw [hhigh (k + 1) (by omega) (by omega), Nat.div_eq_of_lt]
    · rfl
    · have a1 := hfx k h1
      have a2 := hfy k h2
      rw [Nat.pow_succ]
      generalize RB ^ k = p at *
      unfold RB
      omega
  have HE := Lib.hid hend
  clear hx hy hz hfx hfy hhigh hend
  go_enter Tryz.func83, Tryz.ntmps83
  go_wp2_with fail
  go_loopw [7, 8, 9] (fun v c i wr => ∃ k : Nat, k ≤ nx + ny + 1 ∧ i = .int .i64 (k : Int) ∧ c = .int .i64 (cw 1 x y k) ∧ wr.ownsRow w.heap.size 3 1 v k (rpcs z k) ∧ Below w.heap.size w wr) (fun _ _ i _ => nx + ny + 2 - (intOf i).toNat)
  case atStart => exact ⟨0, by omega, rfl, by rw [cw_zero], World.ownsRow_nil _ _ _ _, Below.refl _ _⟩
  case round =>
    obtain ⟨k, hk, rfl, rfl, hrow, hw⟩ := hrel
    have hsz := hw.size
    have bd := HBD.out k
    have dg := HDG.out k
    have nx_ := HNX.out k
    have D3 := rpcs_succ z k
    have ll1 := rdg_lt x k
    have ll2 := rdg_lt y k
    have hr0 := rdg_lt z k
    by_cases h1 : k < nx
    · by_cases h2 : k < ny
      · have hkx : (k : Int) < (nx : Int) := by omega
        have ca := (hw.cell (p := ⟨bx, ox + k, none⟩) (HX.out.lt (by omega))).trans (HX.out.cell k (by omega))
        obtain rfl := HX.out.at_ (by omega)
        have hky : (k : Int) < (ny : Int) := by omega
        have cb := (hw.cell (p := ⟨by_, oy + k, none⟩) (HY.out.lt (by omega))).trans (HY.out.cell k (by omega))
        obtain rfl := HY.out.at_ (by omega)
        have hkk : k ≤ nx + ny := by omega
        obtain ⟨c2, hc2⟩ : ∃ c2, cw 1 x y (k + 1) = c2 := ⟨_, rfl⟩
        have bd2 := HBD.out (k + 1)
        rw [hc2] at nx_ bd2
        have HC2 := Lib.hid hc2
        clear hc2
        generalize cw 1 x y k = c at *
        generalize rdg x k = d1 at *
        generalize rdg y k = d2 at *
        obtain ⟨r, hr⟩ : ∃ r : Nat, rdg z k = r := ⟨_, rfl⟩
        rw [hr] at D3 dg hr0
        have ht : c + (d1 : Int) + (d2 : Int) = c + (d1 : Int) + (d2 : Int) := rfl
        have dg2 : (c + (d1 : Int) + (d2 : Int)) % 10000 = (r : Int) := by
          rw [← dg]; congr 1; omega
        have nx2 : (c + (d1 : Int) + (d2 : Int)) / 10000 = c2 := by
          rw [← nx_]; congr 1; omega
        have m1 := go_mod (c + (d1 : Int) + (d2 : Int))
        have m2 := go_div (c + (d1 : Int) + (d2 : Int))
        rw [dg2] at m1 m2
        rw [nx2] at m2
        obtain ⟨t1, ht1⟩ : ∃ t1 : Int, (c + (d1 : Int) + (d2 : Int)).tmod 10000 = t1 := ⟨_, rfl⟩
        have hb1 : -10000 < t1 ∧ t1 < 10000 := by
          have h9 : t1.natAbs < 10000 := by rw [← ht1, Int.natAbs_tmod]; exact Nat.mod_lt _ (by decide)
          omega
        rw [ht1] at m1
        have HD3 := Lib.hid D3
        clear D3 dg nx_ dg2 nx2 ht hr
        go_wp2_with (at_builtin; refine wpList_append_own _ rfl _ _ 86 rfl w.heap.size 3 i0 (.int .i64 0) 1 8 Tryz.underlying86 hi0 hz0 hz1 hz2 rfl (by decide) _ _ _ rfl (hrow.alloc _) ⟨wr.heap.size, 0, none⟩ 1 1 [.int .i64 (r : Int)] rfl rfl (cell_one_new _ _ _) (by simp [Value.oneCell']) (by unfold maxLen; omega) (by omega) (by simp; omega) ?_; intro v' w6 hown' hgrow _)
        have hb6 := grown_below hsz hrow hgrow
        go_roundw
        case rel => exact ⟨k + 1, by omega, by go_num, by rw [HC2.out], by rw [HD3.out]; simpa using hown', hw.trans hb6⟩
        case measure => simp [intOf]; omega
      · have hkx : (k : Int) < (nx : Int) := by omega
        have ca := (hw.cell (p := ⟨bx, ox + k, none⟩) (HX.out.lt (by omega))).trans (HX.out.cell k (by omega))
        obtain rfl := HX.out.at_ (by omega)
        have hky : ¬ (k : Int) < (ny : Int) := by omega
        have zy := rdg_high (HFY.out k (by omega))
        rw [zy] at dg nx_
        have hkk : k ≤ nx + ny := by omega
        obtain ⟨c2, hc2⟩ : ∃ c2, cw 1 x y (k + 1) = c2 := ⟨_, rfl⟩
        have bd2 := HBD.out (k + 1)
        rw [hc2] at nx_ bd2
        have HC2 := Lib.hid hc2
        clear hc2
        generalize cw 1 x y k = c at *
        generalize rdg x k = d1 at *
        obtain ⟨r, hr⟩ : ∃ r : Nat, rdg z k = r := ⟨_, rfl⟩
        rw [hr] at D3 dg hr0
        have ht : c + (d1 : Int) = c + (d1 : Int) := rfl
        have dg2 : (c + (d1 : Int)) % 10000 = (r : Int) := by
          rw [← dg]; congr 1; omega
        have nx2 : (c + (d1 : Int)) / 10000 = c2 := by
          rw [← nx_]; congr 1; omega
        have m1 := go_mod (c + (d1 : Int))
        have m2 := go_div (c + (d1 : Int))
        rw [dg2] at m1 m2
        rw [nx2] at m2
        obtain ⟨t1, ht1⟩ : ∃ t1 : Int, (c + (d1 : Int)).tmod 10000 = t1 := ⟨_, rfl⟩
        have hb1 : -10000 < t1 ∧ t1 < 10000 := by
          have h9 : t1.natAbs < 10000 := by rw [← ht1, Int.natAbs_tmod]; exact Nat.mod_lt _ (by decide)
          omega
        rw [ht1] at m1
        have HD3 := Lib.hid D3
        clear D3 dg nx_ dg2 nx2 ht hr
        go_wp2_with (at_builtin; refine wpList_append_own _ rfl _ _ 86 rfl w.heap.size 3 i0 (.int .i64 0) 1 8 Tryz.underlying86 hi0 hz0 hz1 hz2 rfl (by decide) _ _ _ rfl (hrow.alloc _) ⟨wr.heap.size, 0, none⟩ 1 1 [.int .i64 (r : Int)] rfl rfl (cell_one_new _ _ _) (by simp [Value.oneCell']) (by unfold maxLen; omega) (by omega) (by simp; omega) ?_; intro v' w6 hown' hgrow _)
        have hb6 := grown_below hsz hrow hgrow
        go_roundw
        case rel => exact ⟨k + 1, by omega, by go_num, by rw [HC2.out], by rw [HD3.out]; simpa using hown', hw.trans hb6⟩
        case measure => simp [intOf]; omega
    · by_cases h2 : k < ny
      · have hkx : ¬ (k : Int) < (nx : Int) := by omega
        have zx := rdg_high (HFX.out k (by omega))
        rw [zx] at dg nx_
        have hky : (k : Int) < (ny : Int) := by omega
        have cb := (hw.cell (p := ⟨by_, oy + k, none⟩) (HY.out.lt (by omega))).trans (HY.out.cell k (by omega))
        obtain rfl := HY.out.at_ (by omega)
        have hkk : k ≤ nx + ny := by omega
        obtain ⟨c2, hc2⟩ : ∃ c2, cw 1 x y (k + 1) = c2 := ⟨_, rfl⟩
        have bd2 := HBD.out (k + 1)
        rw [hc2] at nx_ bd2
        have HC2 := Lib.hid hc2
        clear hc2
        generalize cw 1 x y k = c at *
        generalize rdg y k = d2 at *
        obtain ⟨r, hr⟩ : ∃ r : Nat, rdg z k = r := ⟨_, rfl⟩
        rw [hr] at D3 dg hr0
        have ht : c + (d2 : Int) = c + (d2 : Int) := rfl
        have dg2 : (c + (d2 : Int)) % 10000 = (r : Int) := by
          rw [← dg]; congr 1; omega
        have nx2 : (c + (d2 : Int)) / 10000 = c2 := by
          rw [← nx_]; congr 1; omega
        have m1 := go_mod (c + (d2 : Int))
        have m2 := go_div (c + (d2 : Int))
        rw [dg2] at m1 m2
        rw [nx2] at m2
        obtain ⟨t1, ht1⟩ : ∃ t1 : Int, (c + (d2 : Int)).tmod 10000 = t1 := ⟨_, rfl⟩
        have hb1 : -10000 < t1 ∧ t1 < 10000 := by
          have h9 : t1.natAbs < 10000 := by rw [← ht1, Int.natAbs_tmod]; exact Nat.mod_lt _ (by decide)
          omega
        rw [ht1] at m1
        have HD3 := Lib.hid D3
        clear D3 dg nx_ dg2 nx2 ht hr
        go_wp2_with (at_builtin; refine wpList_append_own _ rfl _ _ 86 rfl w.heap.size 3 i0 (.int .i64 0) 1 8 Tryz.underlying86 hi0 hz0 hz1 hz2 rfl (by decide) _ _ _ rfl (hrow.alloc _) ⟨wr.heap.size, 0, none⟩ 1 1 [.int .i64 (r : Int)] rfl rfl (cell_one_new _ _ _) (by simp [Value.oneCell']) (by unfold maxLen; omega) (by omega) (by simp; omega) ?_; intro v' w6 hown' hgrow _)
        have hb6 := grown_below hsz hrow hgrow
        go_roundw
        case rel => exact ⟨k + 1, by omega, by go_num, by rw [HC2.out], by rw [HD3.out]; simpa using hown', hw.trans hb6⟩
        case measure => simp [intOf]; omega
      · by_cases hcz : cw 1 x y k = 0
        · have hzz := HH.out k (by omega) (by omega)
          rw [hcz] at hzz
          have hfit : z < RB ^ k := by
            rcases Nat.lt_or_ge z (RB ^ k) with h9 | h9
            · exact h9
            · have := Nat.div_pos h9 (rb_pos k)
              omega
          have hkx : ¬ (k : Int) < (nx : Int) := by omega
          have hky : ¬ (k : Int) < (ny : Int) := by omega
          rw [hcz]
          obtain ⟨sa, cap, b, rfl, hR, _⟩ := rrow_of hrow hfit
          have hS := Lib.hid (SH.out sa k cap b 0 wr hR (by omega))
          have hRt := Lib.hid hR.trim
          clear hzz hfit hR hrow dg nx_ D3 bd ll1 ll2 hr0 hcz
          go_wp2_with fail
          refine hS.out.mono ?_
          rintro e w7 ⟨rfl, hww⟩
          subst w7
          go_wp2
          go_ret
          exact ⟨⟨_, rfl, sa, cap, b, 0, rfl, hRt.out⟩, hw⟩
        · have hkx : ¬ (k : Int) < (nx : Int) := by omega
          have zx := rdg_high (HFX.out k (by omega))
          rw [zx] at dg nx_
          have hky : ¬ (k : Int) < (ny : Int) := by omega
          have zy := rdg_high (HFY.out k (by omega))
          rw [zy] at dg nx_
          have hc0 : ¬ cw 1 x y k = 0 := hcz
          have hend := HE.out k (by omega) (by omega)
          have hkk : k ≤ nx + ny := by
            rcases Nat.lt_or_ge (nx + ny) k with h9 | h9
            · exfalso
              have h8 := HE.out (k - 1) (by omega) (by omega)
              rw [show k - 1 + 1 = k by omega] at h8
              exact hc0 h8
            · exact h9
          obtain ⟨c2, hc2⟩ : ∃ c2, cw 1 x y (k + 1) = c2 := ⟨_, rfl⟩
          have bd2 := HBD.out (k + 1)
          rw [hc2] at nx_ bd2
          have HC2 := Lib.hid hc2
          clear hc2 hend hcz
          generalize cw 1 x y k = c at *
          obtain ⟨r, hr⟩ : ∃ r : Nat, rdg z k = r := ⟨_, rfl⟩
          rw [hr] at D3 dg hr0
          have ht : c = c := rfl
          have dg2 : (c) % 10000 = (r : Int) := by
            rw [← dg]; congr 1; omega
          have nx2 : (c) / 10000 = c2 := by
            rw [← nx_]; congr 1; omega
          have m1 := go_mod (c)
          have m2 := go_div (c)
          rw [dg2] at m1 m2
          rw [nx2] at m2
          obtain ⟨t1, ht1⟩ : ∃ t1 : Int, (c).tmod 10000 = t1 := ⟨_, rfl⟩
          have hb1 : -10000 < t1 ∧ t1 < 10000 := by
            have h9 : t1.natAbs < 10000 := by rw [← ht1, Int.natAbs_tmod]; exact Nat.mod_lt _ (by decide)
            omega
          rw [ht1] at m1
          have HD3 := Lib.hid D3
          clear D3 dg nx_ dg2 nx2 ht hr
          go_wp2_with (at_builtin; refine wpList_append_own _ rfl _ _ 86 rfl w.heap.size 3 i0 (.int .i64 0) 1 8 Tryz.underlying86 hi0 hz0 hz1 hz2 rfl (by decide) _ _ _ rfl (hrow.alloc _) ⟨wr.heap.size, 0, none⟩ 1 1 [.int .i64 (r : Int)] rfl rfl (cell_one_new _ _ _) (by simp [Value.oneCell']) (by unfold maxLen; omega) (by omega) (by simp; omega) ?_; intro v' w6 hown' hgrow _)
          have hb6 := grown_below hsz hrow hgrow
          go_roundw
          case rel => exact ⟨k + 1, by omega, by go_num, by rw [HC2.out], by rw [HD3.out]; simpa using hown', hw.trans hb6⟩
          case measure => simp [intOf]; omega
set_option maxRecDepth 100000 in
set_option maxHeartbeats 4000000 in
theorem both_sub (sx : Option Addr) (nx cx bx ox x : Nat) (sy : Option Addr) (ny cpy by_ oy y z : Nat) (hz : (z : Int) = (x : Int) + (-1) * (y : Int)) (w : World) (hx : RRow w sx nx cx bx ox x) (hy : RRow w sy ny cpy by_ oy y) (hn1 : nx ≤ 200000) (hn2 : ny ≤ 200000) :
    Calls Tryz.prog 83 #[.slice sx nx cx, .slice sy ny cpy, .int .i64 (-1)] w fun e w' => (∃ v, e = .returned v ∧ RMag w' v z) ∧ Below w.heap.size w w' := by
  obtain ⟨i0, hi0, hz0, hz1, hz2⟩ := info_parts info_int
  have HX := Lib.hid hx
  have HY := Lib.hid hy
  have hcx := hx.cap
  have hcy := hy.cap
  have SH := Lib.hid (fun sa n cap b o W h hn => short_any sa n cap b o z W h hn)
  have HDG := Lib.hid (fun k => cw_digit (s := (-1)) hz k)
  have HNX := Lib.hid (fun k => cw_next (-1) x y k)
  have HBD := Lib.hid (fun k => cw_bounds (s := (-1)) (by decide) x y k)
  have hfx : ∀ k, nx ≤ k → x < RB ^ k := fun k hk => Nat.lt_of_lt_of_le hx.fits (Nat.pow_le_pow_right (by unfold RB; omega) hk)
  have hfy : ∀ k, ny ≤ k → y < RB ^ k := fun k hk => Nat.lt_of_lt_of_le hy.fits (Nat.pow_le_pow_right (by unfold RB; omega) hk)
  have HFX := Lib.hid hfx
  have HFY := Lib.hid hfy
  have hhigh : ∀ k, nx ≤ k → ny ≤ k → cw (-1) x y k = ((z / RB ^ k : Nat) : Int) := fun k h1 h2 => cw_high hz (hfx k h1) (hfy k h2)
  have HH := Lib.hid hhigh
  have hend : ∀ k, nx ≤ k → ny ≤ k → cw (-1) x y (k + 1) = 0 := fun k h1 h2 => by
    rw [hhigh (k + 1) (by omega) (by omega), Nat.div_eq_of_lt]
    · rfl
    · have a1 := hfx k h1
      have a2 := hfy k h2
      rw [Nat.pow_succ]
      generalize RB ^ k = p at *
      unfold RB
      omega
  have HE := Lib.hid hend
  clear hx hy hz hfx hfy hhigh hend
  go_enter Tryz.func83, Tryz.ntmps83
  go_wp2_with fail
  go_loopw [7, 8, 9] (fun v c i wr => ∃ k : Nat, k ≤ nx + ny + 1 ∧ i = .int .i64 (k : Int) ∧ c = .int .i64 (cw (-1) x y k) ∧ wr.ownsRow w.heap.size 3 1 v k (rpcs z k) ∧ Below w.heap.size w wr) (fun _ _ i _ => nx + ny + 2 - (intOf i).toNat)
  case atStart => exact ⟨0, by omega, rfl, by rw [cw_zero], World.ownsRow_nil _ _ _ _, Below.refl _ _⟩
  case round =>
    obtain ⟨k, hk, rfl, rfl, hrow, hw⟩ := hrel
    have hsz := hw.size
    have bd := HBD.out k
    have dg := HDG.out k
    have nx_ := HNX.out k
    have D3 := rpcs_succ z k
    have ll1 := rdg_lt x k
    have ll2 := rdg_lt y k
    have hr0 := rdg_lt z k
    by_cases h1 : k < nx
    · by_cases h2 : k < ny
      · have hkx : (k : Int) < (nx : Int) := by omega
        have ca := (hw.cell (p := ⟨bx, ox + k, none⟩) (HX.out.lt (by omega))).trans (HX.out.cell k (by omega))
        obtain rfl := HX.out.at_ (by omega)
        have hky : (k : Int) < (ny : Int) := by omega
        have cb := (hw.cell (p := ⟨by_, oy + k, none⟩) (HY.out.lt (by omega))).trans (HY.out.cell k (by omega))
        obtain rfl := HY.out.at_ (by omega)
        have hkk : k ≤ nx + ny := by omega
        obtain ⟨c2, hc2⟩ : ∃ c2, cw (-1) x y (k + 1) = c2 := ⟨_, rfl⟩
        have bd2 := HBD.out (k + 1)
        rw [hc2] at nx_ bd2
        have HC2 := Lib.hid hc2
        clear hc2
        generalize cw (-1) x y k = c at *
        generalize rdg x k = d1 at *
        generalize rdg y k = d2 at *
        obtain ⟨r, hr⟩ : ∃ r : Nat, rdg z k = r := ⟨_, rfl⟩
        rw [hr] at D3 dg hr0
        have ht : c + (d1 : Int) + -(d2 : Int) = c + (d1 : Int) + -(d2 : Int) := rfl
        have dg2 : (c + (d1 : Int) + -(d2 : Int)) % 10000 = (r : Int) := by
          rw [← dg]; congr 1; omega
        have nx2 : (c + (d1 : Int) + -(d2 : Int)) / 10000 = c2 := by
          rw [← nx_]; congr 1; omega
        have m1 := go_mod (c + (d1 : Int) + -(d2 : Int))
        have m2 := go_div (c + (d1 : Int) + -(d2 : Int))
        rw [dg2] at m1 m2
        rw [nx2] at m2
        obtain ⟨t1, ht1⟩ : ∃ t1 : Int, (c + (d1 : Int) + -(d2 : Int)).tmod 10000 = t1 := ⟨_, rfl⟩
        have hb1 : -10000 < t1 ∧ t1 < 10000 := by
          have h9 : t1.natAbs < 10000 := by rw [← ht1, Int.natAbs_tmod]; exact Nat.mod_lt _ (by decide)
          omega
        rw [ht1] at m1
        have HD3 := Lib.hid D3
        clear D3 dg nx_ dg2 nx2 ht hr
        go_wp2_with (at_builtin; refine wpList_append_own _ rfl _ _ 86 rfl w.heap.size 3 i0 (.int .i64 0) 1 8 Tryz.underlying86 hi0 hz0 hz1 hz2 rfl (by decide) _ _ _ rfl (hrow.alloc _) ⟨wr.heap.size, 0, none⟩ 1 1 [.int .i64 (r : Int)] rfl rfl (cell_one_new _ _ _) (by simp [Value.oneCell']) (by unfold maxLen; omega) (by omega) (by simp; omega) ?_; intro v' w6 hown' hgrow _)
        have hb6 := grown_below hsz hrow hgrow
        go_roundw
        case rel => exact ⟨k + 1, by omega, by go_num, by rw [HC2.out], by rw [HD3.out]; simpa using hown', hw.trans hb6⟩
        case measure => simp [intOf]; omega
      · have hkx : (k : Int) < (nx : Int) := by omega
        have ca := (hw.cell (p := ⟨bx, ox + k, none⟩) (HX.out.lt (by omega))).trans (HX.out.cell k (by omega))
        obtain rfl := HX.out.at_ (by omega)
        have hky : ¬ (k : Int) < (ny : Int) := by omega
        have zy := rdg_high (HFY.out k (by omega))
        rw [zy] at dg nx_
        have hkk : k ≤ nx + ny := by omega
        obtain ⟨c2, hc2⟩ : ∃ c2, cw (-1) x y (k + 1) = c2 := ⟨_, rfl⟩
        have bd2 := HBD.out (k + 1)
        rw [hc2] at nx_ bd2
        have HC2 := Lib.hid hc2
        clear hc2
        generalize cw (-1) x y k = c at *
        generalize rdg x k = d1 at *
        obtain ⟨r, hr⟩ : ∃ r : Nat, rdg z k = r := ⟨_, rfl⟩
        rw [hr] at D3 dg hr0
        have ht : c + (d1 : Int) = c + (d1 : Int) := rfl
        have dg2 : (c + (d1 : Int)) % 10000 = (r : Int) := by
          rw [← dg]; congr 1; omega
        have nx2 : (c + (d1 : Int)) / 10000 = c2 := by
          rw [← nx_]; congr 1; omega
        have m1 := go_mod (c + (d1 : Int))
        have m2 := go_div (c + (d1 : Int))
        rw [dg2] at m1 m2
        rw [nx2] at m2
        obtain ⟨t1, ht1⟩ : ∃ t1 : Int, (c + (d1 : Int)).tmod 10000 = t1 := ⟨_, rfl⟩
        have hb1 : -10000 < t1 ∧ t1 < 10000 := by
          have h9 : t1.natAbs < 10000 := by rw [← ht1, Int.natAbs_tmod]; exact Nat.mod_lt _ (by decide)
          omega
        rw [ht1] at m1
        have HD3 := Lib.hid D3
        clear D3 dg nx_ dg2 nx2 ht hr
        go_wp2_with (at_builtin; refine wpList_append_own _ rfl _ _ 86 rfl w.heap.size 3 i0 (.int .i64 0) 1 8 Tryz.underlying86 hi0 hz0 hz1 hz2 rfl (by decide) _ _ _ rfl (hrow.alloc _) ⟨wr.heap.size, 0, none⟩ 1 1 [.int .i64 (r : Int)] rfl rfl (cell_one_new _ _ _) (by simp [Value.oneCell']) (by unfold maxLen; omega) (by omega) (by simp; omega) ?_; intro v' w6 hown' hgrow _)
        have hb6 := grown_below hsz hrow hgrow
        go_roundw
        case rel => exact ⟨k + 1, by omega, by go_num, by rw [HC2.out], by rw [HD3.out]; simpa using hown', hw.trans hb6⟩
        case measure => simp [intOf]; omega
    · by_cases h2 : k < ny
      · have hkx : ¬ (k : Int) < (nx : Int) := by omega
        have zx := rdg_high (HFX.out k (by omega))
        rw [zx] at dg nx_
        have hky : (k : Int) < (ny : Int) := by omega
        have cb := (hw.cell (p := ⟨by_, oy + k, none⟩) (HY.out.lt (by omega))).trans (HY.out.cell k (by omega))
        obtain rfl := HY.out.at_ (by omega)
        have hkk : k ≤ nx + ny := by omega
        obtain ⟨c2, hc2⟩ : ∃ c2, cw (-1) x y (k + 1) = c2 := ⟨_, rfl⟩
        have bd2 := HBD.out (k + 1)
        rw [hc2] at nx_ bd2
        have HC2 := Lib.hid hc2
        clear hc2
        generalize cw (-1) x y k = c at *
        generalize rdg y k = d2 at *
        obtain ⟨r, hr⟩ : ∃ r : Nat, rdg z k = r := ⟨_, rfl⟩
        rw [hr] at D3 dg hr0
        have ht : c + -(d2 : Int) = c + -(d2 : Int) := rfl
        have dg2 : (c + -(d2 : Int)) % 10000 = (r : Int) := by
          rw [← dg]; congr 1; omega
        have nx2 : (c + -(d2 : Int)) / 10000 = c2 := by
          rw [← nx_]; congr 1; omega
        have m1 := go_mod (c + -(d2 : Int))
        have m2 := go_div (c + -(d2 : Int))
        rw [dg2] at m1 m2
        rw [nx2] at m2
        obtain ⟨t1, ht1⟩ : ∃ t1 : Int, (c + -(d2 : Int)).tmod 10000 = t1 := ⟨_, rfl⟩
        have hb1 : -10000 < t1 ∧ t1 < 10000 := by
          have h9 : t1.natAbs < 10000 := by rw [← ht1, Int.natAbs_tmod]; exact Nat.mod_lt _ (by decide)
          omega
        rw [ht1] at m1
        have HD3 := Lib.hid D3
        clear D3 dg nx_ dg2 nx2 ht hr
        go_wp2_with (at_builtin; refine wpList_append_own _ rfl _ _ 86 rfl w.heap.size 3 i0 (.int .i64 0) 1 8 Tryz.underlying86 hi0 hz0 hz1 hz2 rfl (by decide) _ _ _ rfl (hrow.alloc _) ⟨wr.heap.size, 0, none⟩ 1 1 [.int .i64 (r : Int)] rfl rfl (cell_one_new _ _ _) (by simp [Value.oneCell']) (by unfold maxLen; omega) (by omega) (by simp; omega) ?_; intro v' w6 hown' hgrow _)
        have hb6 := grown_below hsz hrow hgrow
        go_roundw
        case rel => exact ⟨k + 1, by omega, by go_num, by rw [HC2.out], by rw [HD3.out]; simpa using hown', hw.trans hb6⟩
        case measure => simp [intOf]; omega
      · by_cases hcz : cw (-1) x y k = 0
        · have hzz := HH.out k (by omega) (by omega)
          rw [hcz] at hzz
          have hfit : z < RB ^ k := by
            rcases Nat.lt_or_ge z (RB ^ k) with h9 | h9
            · exact h9
            · have := Nat.div_pos h9 (rb_pos k)
              omega
          have hkx : ¬ (k : Int) < (nx : Int) := by omega
          have hky : ¬ (k : Int) < (ny : Int) := by omega
          rw [hcz]
          obtain ⟨sa, cap, b, rfl, hR, _⟩ := rrow_of hrow hfit
          have hS := Lib.hid (SH.out sa k cap b 0 wr hR (by omega))
          have hRt := Lib.hid hR.trim
          clear hzz hfit hR hrow dg nx_ D3 bd ll1 ll2 hr0 hcz
          go_wp2_with fail
          refine hS.out.mono ?_
          rintro e w7 ⟨rfl, hww⟩
          subst w7
          go_wp2
          go_ret
          exact ⟨⟨_, rfl, sa, cap, b, 0, rfl, hRt.out⟩, hw⟩
        · have hkx : ¬ (k : Int) < (nx : Int) := by omega
          have zx := rdg_high (HFX.out k (by omega))
          rw [zx] at dg nx_
          have hky : ¬ (k : Int) < (ny : Int) := by omega
          have zy := rdg_high (HFY.out k (by omega))
          rw [zy] at dg nx_
          have hc0 : ¬ cw (-1) x y k = 0 := hcz
          have hend := HE.out k (by omega) (by omega)
          have hkk : k ≤ nx + ny := by
            rcases Nat.lt_or_ge (nx + ny) k with h9 | h9
            · exfalso
              have h8 := HE.out (k - 1) (by omega) (by omega)
              rw [show k - 1 + 1 = k by omega] at h8
              exact hc0 h8
            · exact h9
          obtain ⟨c2, hc2⟩ : ∃ c2, cw (-1) x y (k + 1) = c2 := ⟨_, rfl⟩
          have bd2 := HBD.out (k + 1)
          rw [hc2] at nx_ bd2
          have HC2 := Lib.hid hc2
          clear hc2 hend hcz
          generalize cw (-1) x y k = c at *
          obtain ⟨r, hr⟩ : ∃ r : Nat, rdg z k = r := ⟨_, rfl⟩
          rw [hr] at D3 dg hr0
          have ht : c = c := rfl
          have dg2 : (c) % 10000 = (r : Int) := by
            rw [← dg]; congr 1; omega
          have nx2 : (c) / 10000 = c2 := by
            rw [← nx_]; congr 1; omega
          have m1 := go_mod (c)
          have m2 := go_div (c)
          rw [dg2] at m1 m2
          rw [nx2] at m2
          obtain ⟨t1, ht1⟩ : ∃ t1 : Int, (c).tmod 10000 = t1 := ⟨_, rfl⟩
          have hb1 : -10000 < t1 ∧ t1 < 10000 := by
            have h9 : t1.natAbs < 10000 := by rw [← ht1, Int.natAbs_tmod]; exact Nat.mod_lt _ (by decide)
            omega
          rw [ht1] at m1
          have HD3 := Lib.hid D3
          clear D3 dg nx_ dg2 nx2 ht hr
          go_wp2_with (at_builtin; refine wpList_append_own _ rfl _ _ 86 rfl w.heap.size 3 i0 (.int .i64 0) 1 8 Tryz.underlying86 hi0 hz0 hz1 hz2 rfl (by decide) _ _ _ rfl (hrow.alloc _) ⟨wr.heap.size, 0, none⟩ 1 1 [.int .i64 (r : Int)] rfl rfl (cell_one_new _ _ _) (by simp [Value.oneCell']) (by unfold maxLen; omega) (by omega) (by simp; omega) ?_; intro v' w6 hown' hgrow _)
          have hb6 := grown_below hsz hrow hgrow
          go_roundw
          case rel => exact ⟨k + 1, by omega, by go_num, by rw [HC2.out], by rw [HD3.out]; simpa using hown', hw.trans hb6⟩
          case measure => simp [intOf]; omega
end Go.Proofs.YtkoljddejjfbiaaGreatDoor
