/- The set of a plan: law 3's Make. -/
import Derived.Test.YtinopmdefndhoaaDoorNsM
namespace Go.Proofs.YtinopmdefndhoaaDoor
open Go Go.RowKit Go.Shelf

/-- The notes of a plan, from the lowest on. -/
def mkL (pb pq m : Nat) : List Nat := ((List.range m).filter fun i => decide (pq / 2 ^ i % 2 = 1) && decide (pb % 128 + i ≤ 127)).map fun i => pb % 128 + i
theorem mkL_succ (pb pq m : Nat) : mkL pb pq (m + 1) = if pq / 2 ^ m % 2 = 1 ∧ pb % 128 + m ≤ 127 then mkL pb pq m ++ [pb % 128 + m] else mkL pb pq m := by
  unfold mkL
  rw [List.range_succ, List.filter_append, List.map_append]
  by_cases h : pq / 2 ^ m % 2 = 1 <;> by_cases h2 : pb % 128 + m ≤ 127 <;> simp [h, h2]
theorem mkL_lt (pb pq m : Nat) : ∀ n, n ∈ mkL pb pq m → n < 128 := by
  intro n hn
  unfold mkL at hn
  obtain ⟨i, hi, rfl⟩ := List.mem_map.1 hn
  have := (List.mem_filter.1 hi).2
  simp at this
  omega
theorem and_one_u16 (k i : Nat) (hk : k < 65536) : bits BinOp.and IntKind.u16 ((k : Int) / 2 ^ i) 1 = ((k / 2 ^ i % 2 : Nat) : Int) := by
  have h1 : k / 2 ^ i < 65536 := Nat.lt_of_le_of_lt (Nat.div_le_self _ _) hk
  have e : ((k : Int) / 2 ^ i) = ((k / 2 ^ i : Nat) : Int) := by simp
  rw [e]
  generalize k / 2 ^ i = E at h1 ⊢
  have h3 : (BitVec.ofInt IntKind.u16.bits ((E : Nat) : Int) &&& BitVec.ofInt IntKind.u16.bits 1).toNat = E % 2 := by
    show (BitVec.ofNat 16 E &&& BitVec.ofNat 16 1).toNat = E % 2
    rw [BitVec.toNat_and, BitVec.toNat_ofNat, BitVec.toNat_ofNat, Nat.mod_eq_of_lt (show E < 2 ^ 16 by omega), Nat.mod_eq_of_lt (show 1 < 2 ^ 16 by omega), Nat.and_one_is_mod]
  show IntKind.u16.wrap (((BitVec.ofInt IntKind.u16.bits ((E : Nat) : Int) &&& BitVec.ofInt IntKind.u16.bits 1).toNat : Nat) : Int) = _
  rw [h3]
  have h2 : E % 2 < 2 := Nat.mod_lt _ (by omega)
  generalize E % 2 = q at h2 ⊢
  have : q = 0 ∨ q = 1 := by omega
  rcases this with rfl | rfl <;> rfl
set_option maxHeartbeats 2000000 in
theorem make_any (pb pq : Nat) (hpb : pb < 256) (hpq : pq < 65536) (w : World) :
    Calls Tryd.prog 27 #[.agg #[.int .u8 pb, .int .u16 pq]] w fun e w' => e = .returned (.agg #[.int .u64 ((ofN (mkL pb pq 16)).1 : Nat), .int .u64 ((ofN (mkL pb pq 16)).2 : Nat)]) ∧ Below w.heap.size w w' := by
  obtain ⟨S, hS⟩ : ∃ S : Nat → Nat × Nat, S = fun k => ofN (mkL pb pq k) := ⟨_, rfl⟩
  have HS0 := Lib.hid (show S 0 = (0, 0) by rw [hS]; rfl)
  have HSs := Lib.hid (show ∀ k, S (k + 1) = if pq / 2 ^ k % 2 = 1 ∧ pb % 128 + k ≤ 127 then ((S k).1 ||| Ns.sLo (pb % 128 + k), (S k).2 ||| Ns.sHi (pb % 128 + k)) else S k from fun k => by
    rw [hS]
    simp only [mkL_succ]
    split
    · rw [ofN_snoc]
    · rfl)
  have HSl := Lib.hid (show ∀ k, (S k).1 < 18446744073709551616 ∧ (S k).2 < 18446744073709551616 from fun k => by rw [hS]; exact ofN_lt _ (mkL_lt pb pq k))
  rw [show ofN (mkL pb pq 16) = S 16 by rw [hS]]
  clear hS
  obtain ⟨D, hD⟩ : ∃ D, w.heap.size = D := ⟨_, rfl⟩
  obtain ⟨r, hr⟩ : ∃ r, pb % 128 = r := ⟨_, rfl⟩
  have hr1 : (pb : Int) % 128 = (r : Int) := by omega
  have hr2 : (pb : Int).tmod 128 = (r : Int) := by rw [Int.tmod_eq_emod_of_nonneg (by omega)]; exact hr1
  have hr3 : r < 128 := by omega
  rw [hr] at HSs
  go_enter Tryd.func27, Tryd.ntmps27
  go_wp2_with fail
  go_loopw [4, 5] (fun i _ wr => ∃ k : Nat, k ≤ 16 ∧ i = .int .i64 (k : Int) ∧ SetAt wr (D + 2) (S k).1 (S k).2 ∧ Below (D + 2) ((w.alloc (.cells #[.int .u8 pb, .int .u16 pq] 61)).alloc (.cells #[.int .u64 0, .int .u64 0] 26)) wr) (fun i _ _ => 16 - (intOf i).toNat)
  case atStart =>
    refine ⟨0, Nat.zero_le _, rfl, ?_, (Below.refl (D + 2) _).alloc (by first | (simp; omega) | omega) _⟩
    rw [HS0.out]
    have := SetAt.new ((w.alloc (.cells #[.int .u8 pb, .int .u16 pq] 61)).alloc (.cells #[.int .u64 0, .int .u64 0] 26)) 0 0
    simpa [hD] using this
  case round =>
    obtain ⟨k, hk, rfl, hs, hw⟩ := hrel
    have hsz := hw.size
    simp at hsz
    have hp := (hw.block D (by omega)).trans (heap_old (o := .cells #[.int .u64 0, .int .u64 0] 26) (heap_new hD.symm))
    have y0 := cell2_0 hp
    have y1 := cell2_1 hp
    clear hp
    have hz : SetAt wr (D + 1) 0 0 := by
      have h := SetAt.new (w.alloc (.cells #[.int .u8 pb, .int .u16 pq] 61)) 0 0
      have h2 := h.below (show _ < D + 2 by simp; omega) hw
      simpa [hD] using h2
    by_cases h1 : k < 16
    · have h1i : (k : Int) < 16 := by omega
      have hlt := HSl.out k
      have g0 := hs.fst
      have g1 := hs.snd
      have g2 := hs.f0
      have g3 := hs.f1
      have g4 := hs.lt
      have hbit := and_one_u16 pq k hpq
      have hss := HSs.out k
      by_cases hb : pq / 2 ^ k % 2 = 1
      · rw [hb] at hbit
        by_cases hc : r + k ≤ 127
        · rw [if_pos ⟨hb, hc⟩] at hss
          have HSS := Lib.hid hss
          have hci : (r : Int) + k ≤ 127 := by omega
          have WI := Lib.hid (fun W => with_any (S k).1 (S k).2 (r + k) (by omega) hlt.1 hlt.2 W)
          simp only [Int.natCast_add] at WI
          clear hss hb
          go_wp2_with fail
          refine (WI.out _).mono ?_
          rintro e w5 ⟨rfl, hb5⟩
          have q0 := (bcell hb5).1 (D + 2) 0 g4
          have q1 := (bcell hb5).1 (D + 2) 1 g4
          have q2 := (bcell hb5).2 (D + 2) 0 g4
          have q3 := (bcell hb5).2 (D + 2) 1 g4
          have q4 : D + 2 < w5.heap.size := Nat.lt_of_lt_of_le g4 hb5.size
          rw [g2] at q2
          rw [g3] at q3
          go_wp2_with fail
          have hp := (hs.below g4 hb5).put ((S k).1 ||| Ns.sLo (r + k)) ((S k).2 ||| Ns.sHi (r + k))
          go_roundw
          case rel =>
            exact ⟨k + 1, by omega, by go_num, by rw [HSS.out]; exact hp, ((hw.trans (hb5.mono (by omega))).setCell (p := ⟨D + 2, 0, none⟩) (Nat.le_refl _) _).setCell (p := ⟨D + 2, 1, none⟩) (Nat.le_refl _) _⟩
          case measure => simp [intOf]; omega
        · rw [if_neg (fun h => hc h.2)] at hss
          have HSS := Lib.hid hss
          have hci : ¬ (r : Int) + k ≤ 127 := by omega
          clear hss hb g0 g1 g2 g3
          go_wp2_with fail
          go_roundw
          case rel => exact ⟨k + 1, by omega, by go_num, by rw [HSS.out]; exact hs, hw⟩
          case measure => simp [intOf]; omega
      · have h0 : pq / 2 ^ k % 2 = 0 := by omega
        rw [h0] at hbit
        rw [if_neg (fun h => hb h.1)] at hss
        have HSS := Lib.hid hss
        clear hss hb h0 g0 g1 g2 g3
        go_wp2_with fail
        go_roundw
        case rel => exact ⟨k + 1, by omega, by go_num, by rw [HSS.out]; exact hs, hw⟩
        case measure => simp [intOf]; omega
    · obtain rfl : k = 16 := by omega
      have g0 := hs.fst
      have g1 := hs.snd
      have z0 := hz.fst
      have z1 := hz.snd
      have z2 := hz.f0
      have z3 := hz.f1
      simp only [Int.ofNat_zero] at z0 z1
      go_wp2
      have hq := hz.put (S 16).1 (S 16).2
      have q0 := hq.fst
      have q1 := hq.snd
      refine bodyPost_ret (v := .agg #[.int .u64 ((S 16).1 : Nat), .int .u64 ((S 16).2 : Nat)]) (by simp [results, Tryd.results27, go_sem, q0, q1]) rfl ⟨rfl, ?_⟩
      rw [hD]
      exact (((((Below.refl D w).alloc (by omega) _).alloc (by simp; omega) _).trans (hw.mono (by omega))).setCell (p := ⟨D + 1, 0, none⟩) (by simp) _).setCell (p := ⟨D + 1, 1, none⟩) (by simp) _
end Go.Proofs.YtinopmdefndhoaaDoor
