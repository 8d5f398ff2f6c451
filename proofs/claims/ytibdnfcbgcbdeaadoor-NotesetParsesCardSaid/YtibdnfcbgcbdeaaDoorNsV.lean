/- Note: a hit and a miss. -/
import Derived.Test.YtibdnfcbgcbdeaaDoorNsU
namespace Go.Proofs.YtibdnfcbgcbdeaaDoor
open Go Go.RowKit Go.Shelf

theorem index_any (k : Nat) (hk : k < 12) (W : World) : Sem.run Tryd.prog (Instr.index 63 (.agg #[.string ⟨#[67]⟩, .string ⟨#[67, 35]⟩, .string ⟨#[68]⟩, .string ⟨#[68, 35]⟩, .string ⟨#[69]⟩, .string ⟨#[70]⟩, .string ⟨#[70, 35]⟩, .string ⟨#[71]⟩, .string ⟨#[71, 35]⟩, .string ⟨#[65]⟩, .string ⟨#[65, 35]⟩, .string ⟨#[66]⟩]) (.int .i64 k)) W = .ok (.string (letterOf k)) W := by
  obtain rfl | rfl | rfl | rfl | rfl | rfl | rfl | rfl | rfl | rfl | rfl | rfl : k = 0 ∨ k = 1 ∨ k = 2 ∨ k = 3 ∨ k = 4 ∨ k = 5 ∨ k = 6 ∨ k = 7 ∨ k = 8 ∨ k = 9 ∨ k = 10 ∨ k = 11 := by omega
  all_goals kernel_rfl

set_option maxRecDepth 100000 in
set_option maxHeartbeats 2000000 in
theorem note_miss (s L R : ByteArray) (o : Nat) (is : Bool) (_hs : s.size ≤ 9223372036854775807) (hll : L.size ≤ s.size) (hL : s.extract 0 L.size = L) (hR : s.extract L.size s.size = R) (ho : o ≤ 10)
    (hA : ∀ W : World, Calls Tryd.prog 45 #[.string s] W fun e w' => e = .returned (.int .i64 L.size) ∧ W = w')
    (hB : ∀ W : World, Calls Tryd.prog 46 #[.string R] W fun e w' => e = .returned (.tuple #[.int .i64 o, .bool is]) ∧ W = w')
    (hC : ∀ k, k < 12 → is = false ∨ letterOf k ≠ L ∨ 127 < o * 12 + k) (w : World) (G : Gl w) :
    Calls Tryd.prog 15 #[.string s] w fun e w' => e = .returned (.tuple #[.int .i64 0, .int .i64 8]) ∧ w = w' := by
  have c0 := G.names 0 _ rfl
  have c1 := G.names 1 _ rfl
  have c2 := G.names 2 _ rfl
  have c3 := G.names 3 _ rfl
  have c4 := G.names 4 _ rfl
  have c5 := G.names 5 _ rfl
  have c6 := G.names 6 _ rfl
  have c7 := G.names 7 _ rfl
  have c8 := G.names 8 _ rfl
  have c9 := G.names 9 _ rfl
  have c10 := G.names 10 _ rfl
  have c11 := G.names 11 _ rfl
  have HA := Lib.hid hA
  have HB := Lib.hid hB
  have HC := Lib.hid hC
  have hll2 : (L.size : Int) ≤ (s.size : Int) := by omega
  clear hA hB hC
  go_enter Tryd.func15, Tryd.ntmps15
  go_wp2_with fail
  refine (HA.out _).mono ?_
  rintro e w' ⟨rfl, rfl⟩
  go_wp2_with fail
  refine (HB.out _).mono ?_
  rintro e w' ⟨rfl, rfl⟩
  go_wp2_with fail
  go_loop [23] (fun i => ∃ k : Nat, k ≤ 12 ∧ i = .int .i64 (k : Int)) (fun i => 12 - (intOf i).toNat)
  case atStart => exact ⟨0, Nat.zero_le _, rfl⟩
  case round =>
    obtain ⟨k, hk, rfl⟩ := hrel
    by_cases h1 : k < 12
    · have hidx := fun W => index_any k h1 W
      have hc := HC.out k h1
      have hk12 : (k : Int) < 12 := by omega
      have v := fun W => valid_any ((o : Int) * 12 + k) W
      generalize letterOf k = N at hidx hc
      have hiff : validB ((o : Int) * 12 + k) = decide (o * 12 + k ≤ 127) := by unfold validB; rw [decide_eq_decide]; omega
      rw [hiff] at v
      have V := Lib.hid v
      clear v hiff
      cases is with
      | false =>
        clear hc
        go_wp2_with fail
        go_round
        case rel => exact ⟨k + 1, by omega, by go_num⟩
        case measure => simp [intOf]; omega
      | true =>
        by_cases hN : N = L
        · subst hN
          have hbig : decide (o * 12 + k ≤ 127) = false := by
            rcases hc with h | h | h
            · cases h
            · exact absurd rfl h
            · exact decide_eq_false (by omega)
          rw [hbig] at V
          clear hc hbig
          go_wp2_with fail
          refine (V.out _).mono ?_
          rintro e w' ⟨rfl, rfl⟩
          go_wp2_with fail
          go_round
          case rel => exact ⟨k + 1, by omega, by go_num⟩
          case measure => simp [intOf]; omega
        · have hb := toList_ne hN
          clear hc
          go_wp2_with fail
          go_round
          case rel => exact ⟨k + 1, by omega, by go_num⟩
          case measure => simp [intOf]; omega
    · obtain rfl : k = 12 := by omega
      go_wp2
      go_ret2
      exact ⟨rfl, rfl⟩

theorem letter_inj {a b : Nat} (ha : a < 12) (hb : b < 12) (h : letterOf a = letterOf b) : a = b := by
  have : ∀ a, a < 12 → ∀ b, b < 12 → letterOf a = letterOf b → a = b := by decide +kernel
  exact this a ha b hb h

set_option maxRecDepth 100000 in
set_option maxHeartbeats 2000000 in
theorem note_hit (s R : ByteArray) (o j : Nat) (hj : j < 12) (_hs : s.size ≤ 9223372036854775807) (hll : (letterOf j).size ≤ s.size) (hL : s.extract 0 (letterOf j).size = letterOf j) (hR : s.extract (letterOf j).size s.size = R) (ho : o ≤ 10) (hoj : o * 12 + j ≤ 127)
    (hA : ∀ W : World, Calls Tryd.prog 45 #[.string s] W fun e w' => e = .returned (.int .i64 (letterOf j).size) ∧ W = w')
    (hB : ∀ W : World, Calls Tryd.prog 46 #[.string R] W fun e w' => e = .returned (.tuple #[.int .i64 o, .bool true]) ∧ W = w') (w : World) (G : Gl w) :
    Calls Tryd.prog 15 #[.string s] w fun e w' => e = .returned (.tuple #[.int .i64 (o * 12 + j : Nat), .int .i64 0]) ∧ w = w' := by
  have c0 := G.names 0 _ rfl
  have c1 := G.names 1 _ rfl
  have c2 := G.names 2 _ rfl
  have c3 := G.names 3 _ rfl
  have c4 := G.names 4 _ rfl
  have c5 := G.names 5 _ rfl
  have c6 := G.names 6 _ rfl
  have c7 := G.names 7 _ rfl
  have c8 := G.names 8 _ rfl
  have c9 := G.names 9 _ rfl
  have c10 := G.names 10 _ rfl
  have c11 := G.names 11 _ rfl
  have HA := Lib.hid hA
  have HB := Lib.hid hB
  have hll2 : ((letterOf j).size : Int) ≤ (s.size : Int) := by omega
  have HN := Lib.hid (show ∀ k, k < 12 → letterOf k = letterOf j → k = j from fun k hk h => letter_inj hk hj h)
  obtain ⟨L, hLe⟩ : ∃ L, letterOf j = L := ⟨_, rfl⟩
  have HE := Lib.hid hLe
  rw [hLe] at hll hL hR HA HN hll2
  have V0 := fun W => valid_any ((o : Int) * 12 + j) W
  rw [show validB ((o : Int) * 12 + j) = true by simp [validB]; omega] at V0
  have V := Lib.hid V0
  have hcast : ((o * 12 + j : Nat) : Int) = (o : Int) * 12 + j := by simp
  rw [hcast]
  clear hA hB hLe V0 hcast
  go_enter Tryd.func15, Tryd.ntmps15
  go_wp2_with fail
  refine (HA.out _).mono ?_
  rintro e w' ⟨rfl, rfl⟩
  go_wp2_with fail
  refine (HB.out _).mono ?_
  rintro e w' ⟨rfl, rfl⟩
  go_wp2_with fail
  go_loop [23] (fun i => ∃ k : Nat, k ≤ j ∧ i = .int .i64 (k : Int)) (fun i => j + 1 - (intOf i).toNat)
  case atStart => exact ⟨0, Nat.zero_le _, rfl⟩
  case round =>
    obtain ⟨k, hk, rfl⟩ := hrel
    have hidx := fun W => index_any k (by omega) W
    have hk12 : (k : Int) < 12 := by omega
    by_cases h1 : k = j
    · subst h1
      rw [HE.out] at hidx
      go_wp2_with fail
      refine (V.out _).mono ?_
      rintro e w' ⟨rfl, rfl⟩
      go_wp2_with fail
      go_ret2
      exact ⟨rfl, rfl⟩
    · have hN : letterOf k ≠ L := fun h => h1 (HN.out k (by omega) h)
      generalize letterOf k = N at hidx hN
      have hb := toList_ne hN
      have hkj : k < j := by omega
      clear h1 hN
      go_wp2_with fail
      go_round
      case rel => exact ⟨k + 1, by omega, by go_num⟩
      case measure => simp [intOf]; omega

theorem octaveOf_q (q : Nat) (hq : q ≤ 10) (w : World) : Calls Tryd.prog 46 #[.string ⟨(octave q).toArray⟩] w fun e w' => e = .returned (.tuple #[.int .i64 q, .bool true]) ∧ w = w' := by
  have e : ∀ q, q ≤ 10 → (⟨(octave q).toArray⟩ : ByteArray) = if q = 0 then ⟨#[45, 49]⟩ else ⟨#[(47 + q).toUInt8]⟩ := by decide +kernel
  rw [e q hq]
  obtain rfl | rfl | rfl | rfl | rfl | rfl | rfl | rfl | rfl | rfl | rfl : q = 0 ∨ q = 1 ∨ q = 2 ∨ q = 3 ∨ q = 4 ∨ q = 5 ∨ q = 6 ∨ q = 7 ∨ q = 8 ∨ q = 9 ∨ q = 10 := by omega
  all_goals
    first | rw [if_pos rfl] | rw [if_neg (by decide)]
    go_enter Tryd.func46, Tryd.ntmps46
    go_wp2
    go_ret2
    exact ⟨rfl, rfl⟩
end Go.Proofs.YtibdnfcbgcbdeaaDoor
