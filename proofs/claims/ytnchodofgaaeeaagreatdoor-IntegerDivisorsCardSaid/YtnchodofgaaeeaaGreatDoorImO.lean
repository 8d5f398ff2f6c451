/- The contract of Power. -/
import Derived.Test.YtnchodofgaaeeaaGreatDoorImN
import Derived.Lib.ItoaNum
namespace Go.Proofs.YtnchodofgaaeeaaGreatDoor
open Go Go.RowKit Go.Shelf

theorem lt_bitLen {n : Nat} (h : n < 2 ^ 64) : n < 2 ^ Lib.bitLen n := by
  by_cases h0 : n = 0
  · subst h0; decide
  · exact (Lib.bitLenAux_bounds 64 n h h0).2.2
theorem pow_step1 (a : Int) (n k : Nat) (h : n / 2 ^ k % 2 = 1) : a ^ (n / 2 ^ (k + 1)) * a ^ (n / 2 ^ (k + 1)) * a = a ^ (n / 2 ^ k) := by
  have e : n / 2 ^ k = n / 2 ^ (k + 1) + n / 2 ^ (k + 1) + 1 := by
    rw [Nat.pow_succ, ← Nat.div_div_eq_div_mul]; omega
  rw [← Int.pow_add]
  conv => rhs; rw [e, Int.pow_succ]
theorem pow_step0 (a : Int) (n k : Nat) (h : ¬ n / 2 ^ k % 2 = 1) : a ^ (n / 2 ^ (k + 1)) * a ^ (n / 2 ^ (k + 1)) = a ^ (n / 2 ^ k) := by
  have e : n / 2 ^ k = n / 2 ^ (k + 1) + n / 2 ^ (k + 1) := by
    rw [Nat.pow_succ, ← Nat.div_div_eq_div_mul]; omega
  rw [← Int.pow_add]
  conv => rhs; rw [e]
theorem nd_pow (a : Int) : ∀ n : Nat, nd (a ^ n).natAbs ≤ n * nd a.natAbs + 1
  | 0 => by
    rw [Int.pow_zero]
    exact Im.nd_le bb2 (k := 0 * nd a.natAbs + 1) (by rw [Nat.zero_mul]; decide)
  | n + 1 => by
    rw [Int.pow_succ]
    have := nd_mul (a ^ n) a
    have := nd_pow a n
    rw [Nat.succ_mul]
    omega
theorem nd_dgs {s : ByteArray} (h : Im.canonI s.data.toList = true) : nd (iv s).natAbs ≤ (Im.dgs s.data.toList).length :=
  Im.nd_le bb2 (Nat.lt_of_lt_of_le (iv_lt h) (pow_BB _))
theorem and1 (x : Nat) (h : x < 1000000) : bits .and .i64 (x : Int) 1 = ((x % 2 : Nat) : Int) := by
  have h := bits_mask .i64 62 (by decide) (fun n h0 h1 => by rw [IntKind.wrap_i64]; omega) 1 (by decide) (x : Int) (by omega) (by omega)
  have e : ((2 : Int) ^ 1 - 1) = 1 := by decide
  have e2 : ((2 : Int) ^ 1) = 2 := by decide
  rw [e, e2] at h
  rw [h]
  omega
theorem shr_nat (n k : Nat) : (n : Int) / (2 : Int) ^ k = ((n / 2 ^ k : Nat) : Int) := by simp
theorem cn_one : Cn ⟨#[49]⟩ := ⟨by decide, by decide⟩
theorem iv_one : iv ⟨#[49]⟩ = 1 := by decide

theorem power_range (s : ByteArray) (n : Int) (h : n < 0 ∨ 6000 < n) (w : World) :
    Calls Tryz.prog 43 #[.string s, .int .i64 n] w fun e w' => e = .returned (.tuple #[.string ⟨#[]⟩, .int .i64 3]) ∧ w' = w := by
  by_cases h0 : n < 0
  · go_enter Tryz.func43, Tryz.ntmps43
    go_wp2
    exact bodyPost_ret (v := .tuple #[.string ⟨#[]⟩, .int .i64 3]) (by simp [results, Tryz.results43, go_sem]) rfl ⟨rfl, rfl⟩
  · have h1 : 6000 < n := by omega
    go_enter Tryz.func43, Tryz.ntmps43
    go_wp2
    exact bodyPost_ret (v := .tuple #[.string ⟨#[]⟩, .int .i64 3]) (by simp [results, Tryz.results43, go_sem]) rfl ⟨rfl, rfl⟩
theorem power_limit (s : ByteArray) (n d : Nat) (hd : (Im.dgs s.data.toList).length = d) (hdl : d ≤ 1048576) (hn : n ≤ 6000) (h : 24000 < n * d) (w : World) :
    Calls Tryz.prog 43 #[.string s, .int .i64 n] w fun e w' => e = .returned (.tuple #[.string ⟨#[]⟩, .int .i64 4]) ∧ w' = w := by
  have D := Lib.hid (fun W => digits_any s W)
  generalize Im.dgs s.data.toList = l at *
  subst hd
  obtain ⟨p, hp⟩ : ∃ p : Nat, n * l.length = p := ⟨_, rfl⟩
  have hpi : (n : Int) * (l.length : Int) = (p : Int) := by rw [← hp]; simp
  have hp2 : n * l.length ≤ 6000 * 1048576 := Nat.mul_le_mul hn hdl
  rw [hp] at h hp2
  clear hp
  have hn1 : ¬ (n : Int) < 0 := by omega
  have hn2 : ¬ (6000 : Int) < (n : Int) := by omega
  go_enter Tryz.func43, Tryz.ntmps43
  go_wp2_with fail
  refine (D.out _).mono ?_
  rintro e w1 ⟨rfl, hww⟩
  subst w1
  go_wp2
  exact bodyPost_ret (v := .tuple #[.string ⟨#[]⟩, .int .i64 4]) (by simp [results, Tryz.results43, go_sem]) rfl ⟨rfl, rfl⟩

set_option maxRecDepth 100000 in
set_option maxHeartbeats 4000000 in
theorem power_c (s : ByteArray) (hs : Cn s) (n : Nat) (hn : n ≤ 6000) (h : n * (Im.dgs s.data.toList).length ≤ 24000) (w : World) (G : Gi w) :
    Calls Tryz.prog 43 #[.string s, .int .i64 n] w fun e w' => e = .returned (.tuple #[.string (tz (iv s ^ n)), .int .i64 0]) ∧ Below w.heap.size w w' := by
  have DG := Lib.hid (fun W => digits_any s W)
  have RA := Lib.hid (fun W => read_c s hs W)
  have R1 := Lib.hid (fun W => read_c ⟨#[49]⟩ cn_one W)
  rw [iv_one] at R1
  have BL := Lib.hid (fun W => Tryz.bits_Len n W (by omega) (by omega))
  have hlb : Lib.bitLen n ≤ 13 := Lib.bitLen_le n 13 (by decide) (by omega)
  have hlt := lt_bitLen (n := n) (by omega)
  have NB := Lib.hid (fun (m : Nat) (hm : m ≤ n) => show nd (iv s ^ m).natAbs ≤ 24001 by
    have h1 := nd_pow (iv s) m
    have h2 := nd_dgs hs.canon
    have h3 := Nat.mul_le_mul hm h2
    omega)
  have NS := Lib.hid (nd_iv hs)
  have ST1 := Lib.hid (fun k => pow_step1 (iv s) n k)
  have ST0 := Lib.hid (fun k => pow_step0 (iv s) n k)
  obtain ⟨z, hz⟩ : ∃ z, iv s = z := ⟨_, rfl⟩
  rw [hz] at RA NB NS ST1 ST0 ⊢
  have hl1 : (Im.dgs s.data.toList).length ≤ 100000 := by have := dgs_len s.data.toList; have := size_list s; have := hs.size; omega
  generalize Im.dgs s.data.toList = l at *
  obtain ⟨p, hp⟩ : ∃ p : Nat, n * l.length = p := ⟨_, rfl⟩
  have hpi : (n : Int) * (l.length : Int) = (p : Int) := by rw [← hp]; simp
  rw [hp] at h
  have hn1 : ¬ (n : Int) < 0 := by omega
  have hn2 : ¬ (6000 : Int) < (n : Int) := by omega
  rw [show ((n : Int)).toNat = n from rfl] at BL
  obtain ⟨L, hL⟩ : ∃ L, Lib.bitLen n = L := ⟨_, rfl⟩
  rw [hL] at BL hlb hlt
  clear hp hz hs hL
  obtain ⟨D, hD⟩ : ∃ D, w.heap.size = D := ⟨_, rfl⟩
  go_enter Tryz.func43, Tryz.ntmps43
  go_wp2_with fail
  refine (DG.out _).mono ?_
  rintro e w1 ⟨rfl, hww⟩
  subst w1
  go_wp2_with fail
  refine (RA.out _).mono ?_
  rintro e w2 ⟨⟨v2, rfl, h2⟩, hb2⟩
  go_wp2_with fail
  refine (R1.out _).mono ?_
  rintro e w3 ⟨⟨v3, rfl, h3⟩, hb3⟩
  have h2' := h2.call hb3
  obtain ⟨ng, m, sa, cap, b, o, rfl, hr2, hz2⟩ := num_open h2'
  obtain ⟨ng1, m1, sa1, cap1, b1, o1, rfl, hr3, hz3⟩ := num_open h3
  have HZ3 := Lib.hid hz3
  have HZ2 := Lib.hid hz2
  clear hz3 hz2 h2 h2' h3
  go_wp2_with fail
  refine (BL.out _).mono ?_
  rintro e w4 ⟨rfl, hww⟩
  subst w4
  obtain ⟨V, hV⟩ : ∃ V, ((w3.alloc (.cells #[.bool ng, .slice sa (nd m) cap] 80)).alloc (.cells #[.bool ng1, .slice sa1 (nd m1) cap1] 80)) = V := ⟨_, rfl⟩
  obtain ⟨E, hE⟩ : ∃ E, w3.heap.size = E := ⟨_, rfl⟩
  have hb13 := hb2.trans (hb3.mono hb2.size)
  have hDE : D ≤ E := by have := hb13.size; omega
  have hwV : Below D w V := by rw [← hV, ← hD]; exact (hb13.alloc (by have := hb13.size; omega) _).alloc (by have := hb13.size; simp; omega) _
  have hVb : Below E w3 V := by rw [← hV, ← hE]; exact ((Below.refl _ _).alloc (Nat.le_refl _) _).alloc (by simp) _
  have hV0 : V.heap[E]? = some (.cells #[.bool ng, .slice sa (nd m) cap] 80) := by rw [← hV]; exact heap_up (heap_at hE.symm)
  have hV1 : V.heap[E + 1]? = some (.cells #[.bool ng1, .slice sa1 (nd m1) cap1] 80) := by rw [← hV]; exact heap_at (by simp [hE])
  have hzV : V.heap.size = E + 2 := by rw [← hV]; simp [hE]
  have hrV := hr2.below hVb (by omega)
  have hqV := hr3.below hVb (by omega)
  rw [hE, hV]
  clear hV hr2 hr3 hb2 hb3 hb13 hVb hE
  go_wp2_with fail
  go_loopw [8] (fun i wr => ∃ k ng3 m3 sa3 cap3 b3 o3, k ≤ L ∧ i = .int .i64 ((k : Int) - 1) ∧ sv ng3 m3 = z ^ (n / 2 ^ k) ∧ Row wr sa3 (nd m3) cap3 b3 o3 m3 ∧ wr.heap[E]? = some (.cells #[.bool ng, .slice sa (nd m) cap] 80) ∧ wr.heap[E + 1]? = some (.cells #[.bool ng3, .slice sa3 (nd m3) cap3] 80) ∧ Row wr sa (nd m) cap b o m ∧ E + 2 ≤ wr.heap.size ∧ Below D w wr) (fun i _ => ((intOf i) + 1).toNat)
  case atStart => exact ⟨L, ng1, m1, sa1, cap1, b1, o1, Nat.le_refl _, rfl, by rw [← HZ3.out, Nat.div_eq_of_lt hlt, Int.pow_zero], hqV, hV0, hV1, hrV, by omega, hwV⟩
  case round =>
    obtain ⟨k, ng3, m3, sa3, cap3, b3, o3, hk, rfl, hz3, hr3, hh0, hh1, hrb, hsz, hw⟩ := hrel
    cases k with
    | zero =>
      rw [Nat.pow_zero, Nat.div_one] at hz3
      have HN := Lib.hid (num_mk (neg := ng3) hr3)
      rw [hz3] at HN
      have BN := Lib.hid (NB.out n (Nat.le_refl _))
      have c0 := cells_fst hh1
      have c1 := cells_snd hh1
      have GW := G.below (hD ▸ hw)
      clear hz3 hr3 hh0 hh1 hrb
      go_wp2_with fail
      refine (text_any _ _ _ HN.out (by have := BN.out; omega) GW).mono ?_
      rintro e w7 ⟨rfl, hb7⟩
      go_wp2
      exact bodyPost_ret (v := .tuple #[.string (tz (z ^ n)), .int .i64 0]) (by simp [results, Tryz.results43, go_sem, tz]) rfl ⟨rfl, by rw [hD]; exact hw.trans (hb7.mono (by have := hw.size; omega))⟩
    | succ k =>
      have hq : n / 2 ^ (k + 1) ≤ n := Nat.div_le_self _ _
      have HN := Lib.hid (num_mk (neg := ng3) hr3)
      rw [hz3] at HN
      have hnb := NB.out _ hq
      have BN := Lib.hid hnb
      have c0 := cells_fst hh1
      have c1 := cells_snd hh1
      clear hz3 hr3 hq hnb
      have hk1 : ¬ (((k + 1 : Nat) : Int) - 1 < 0) := by omega
      have hke : ((k + 1 : Nat) : Int) - 1 = (k : Int) := by omega
      rw [hke]
      clear hk1 hke
      go_wp2_with fail
      refine (times_any _ _ _ _ _ HN.out HN.out (by have := BN.out; omega) (by have := BN.out; omega)).mono ?_
      rintro e w5 ⟨⟨v5, rfl, h5⟩, hb5⟩
      obtain ⟨ng5, m5, sa5, cap5, b5, o5, rfl, hr5, hz5⟩ := num_open h5
      have hh0' := (hb5.block E (by omega)).trans hh0
      have hh1' := (hb5.block (E + 1) (by omega)).trans hh1
      have hrb' := hrb.below hb5 (Nat.le_refl _)
      have hw' := hw.trans (hb5.mono (by have := hw.size; omega))
      have hsz' := Nat.le_trans hsz hb5.size
      clear c0 c1 hh0 hh1 hrb hw hsz h5 hb5 HN
      have f0 := cells_f0 hh1'
      have f1 := cells_f1 hh1'
      have g0 := cells_fst hh1'
      have g1 := cells_snd hh1'
      obtain ⟨W6, hW6⟩ : ∃ W6, ((w5.setCell ⟨E + 1, 0, none⟩ (.bool ng5)).setCell ⟨E + 1, 1, none⟩ (.slice sa5 (nd m5) cap5)) = W6 := ⟨_, rfl⟩
      have k0 : W6.heap[E]? = some (.cells #[.bool ng, .slice sa (nd m) cap] 80) := by rw [← hW6]; exact (set_two_else (by omega)).trans hh0'
      have k1 : W6.heap[E + 1]? = some (.cells #[.bool ng5, .slice sa5 (nd m5) cap5] 80) := by rw [← hW6]; exact set_two hh1'
      have kb : Row W6 sa (nd m) cap b o m := by rw [← hW6]; exact (hrb'.set _ (row_ne hrb' hh1') _).set _ (row_ne hrb' hh1') _
      have kr : Row W6 sa5 (nd m5) cap5 b5 o5 m5 := by rw [← hW6]; exact (hr5.set _ (row_ne hr5 hh1') _).set _ (row_ne hr5 hh1') _
      have kw : Below D w W6 := by rw [← hW6]; exact (hw'.setCell (by simp; omega) _).setCell (by simp; omega) _
      have ks : E + 2 ≤ W6.heap.size := by rw [← hW6]; simpa [World.setCell] using hsz'
      have HW6 := Lib.hid hW6
      have hsh := shr_nat n k
      have hand := and1 (n / 2 ^ k) (by have := Nat.div_le_self n (2 ^ k); omega)
      rw [← hsh] at hand
      clear hsh hh0' hrb' hw' hsz' hr5 hW6
      by_cases hbit : n / 2 ^ k % 2 = 1
      · rw [hbit] at hand
        have BIT := Lib.hid (ST1.out k hbit)
        have e0 : ((w5.setCell ⟨E + 1, 0, none⟩ (.bool ng5)).setCell ⟨E + 1, 1, none⟩ (.slice sa5 (nd m5) cap5)).cell? ⟨E, 0, none⟩ = some (.bool ng) := by rw [HW6.out]; exact cells_fst k0
        have e1 : ((w5.setCell ⟨E + 1, 0, none⟩ (.bool ng5)).setCell ⟨E + 1, 1, none⟩ (.slice sa5 (nd m5) cap5)).cell? ⟨E, 1, none⟩ = some (.slice sa (nd m) cap) := by rw [HW6.out]; exact cells_snd k0
        have HN5 := Lib.hid (num_mk (neg := ng5) kr)
        rw [← hz5, ← Int.pow_add] at HN5
        have HNB := Lib.hid (num_mk (neg := ng) kb)
        rw [← HZ2.out] at HNB
        have h2q : n / 2 ^ (k + 1) + n / 2 ^ (k + 1) ≤ n := by rw [Nat.pow_succ, ← Nat.div_div_eq_div_mul]; have := Nat.div_le_self n (2 ^ k); omega
        have BN2 := Lib.hid (NB.out _ h2q)
        rw [← Int.pow_add] at BIT
        have K0 := Lib.hid k0
        have K1 := Lib.hid k1
        have KB := Lib.hid kb
        have KS := Lib.hid ks
        have KW := Lib.hid kw
        clear kr kb hz5 h2q hbit k0 k1 ks kw
        go_wp2_with fail
        rw [HW6.out]
        clear e0 e1 f0 f1 g0 g1 hh1' HW6
        refine (times_any _ _ _ _ _ HN5.out HNB.out (by have := BN2.out; omega) (by have := NS.out; omega)).mono ?_
        rintro e w7 ⟨⟨v7, rfl, h7⟩, hb7⟩
        obtain ⟨ng7, m7, sa7, cap7, b7, o7, rfl, hr7, hz7⟩ := num_open h7
        have hks := KS.out
        have hh0 := (hb7.block E (by omega)).trans K0.out
        have hh1 := (hb7.block (E + 1) (by omega)).trans K1.out
        have hrb := KB.out.below hb7 (Nat.le_refl _)
        have hw7 := KW.out.trans (hb7.mono (by have := KW.out.size; omega))
        have hsz := Nat.le_trans hks hb7.size
        have f0 := cells_f0 hh1
        have f1 := cells_f1 hh1
        have g0 := cells_fst hh1
        have g1 := cells_snd hh1
        have T0 := Lib.hid (show ((w7.setCell ⟨E + 1, 0, none⟩ (.bool ng7)).setCell ⟨E + 1, 1, none⟩ (.slice sa7 (nd m7) cap7)).heap[E]? = some (.cells #[.bool ng, .slice sa (nd m) cap] 80) from (set_two_else (by omega)).trans hh0)
        have T1 := Lib.hid (show ((w7.setCell ⟨E + 1, 0, none⟩ (.bool ng7)).setCell ⟨E + 1, 1, none⟩ (.slice sa7 (nd m7) cap7)).heap[E + 1]? = some (.cells #[.bool ng7, .slice sa7 (nd m7) cap7] 80) from set_two hh1)
        have TB := Lib.hid ((hrb.set ⟨E + 1, 0, none⟩ (row_ne hrb hh1) (.bool ng7)).set ⟨E + 1, 1, none⟩ (row_ne hrb hh1) (.slice sa7 (nd m7) cap7))
        have TR := Lib.hid ((hr7.set ⟨E + 1, 0, none⟩ (row_ne hr7 hh1) (.bool ng7)).set ⟨E + 1, 1, none⟩ (row_ne hr7 hh1) (.slice sa7 (nd m7) cap7))
        have TW := Lib.hid ((hw7.setCell (p := ⟨E + 1, 0, none⟩) (by simp; omega) (.bool ng7)).setCell (p := ⟨E + 1, 1, none⟩) (by simp; omega) (.slice sa7 (nd m7) cap7))
        have TS := Lib.hid (show E + 2 ≤ ((w7.setCell ⟨E + 1, 0, none⟩ (.bool ng7)).setCell ⟨E + 1, 1, none⟩ (.slice sa7 (nd m7) cap7)).heap.size by simpa [World.setCell] using hsz)
        have HZ7 := Lib.hid hz7
        clear hz7 h7 hb7 hks hh0 hrb hw7 hr7 hsz HN5 HNB
        go_wp2_with fail
        go_roundw
        case rel => exact ⟨k, ng7, m7, sa7, cap7, b7, o7, by omega, by go_num, by rw [← HZ7.out, BIT.out], TR.out, T0.out, T1.out, TB.out, TS.out, TW.out⟩
        case measure => simp [intOf]
      · rw [show n / 2 ^ k % 2 = 0 by omega] at hand
        have BIT := Lib.hid (ST0.out k hbit)
        have HZ5 := Lib.hid hz5
        clear hbit hz5
        go_wp2_with fail
        go_roundw
        case rel => exact ⟨k, ng5, m5, sa5, cap5, b5, o5, by omega, by go_num, by rw [← HZ5.out, BIT.out], HW6.out ▸ kr, HW6.out ▸ k0, HW6.out ▸ k1, HW6.out ▸ kb, HW6.out ▸ ks, HW6.out ▸ kw⟩
        case measure => simp [intOf]
end Go.Proofs.YtnchodofgaaeeaaGreatDoor
