/- IntegerLimits, the walk. -/
import Derived.Test.YtnchodofgaaeeaaGreatDoorImV
namespace Go.Proofs.YtnchodofgaaeeaaGreatDoor
open Go Go.RowKit Go.Shelf

theorem ones_canon {d : Nat} (h : 0 < d) : Im.canonI (List.replicate d 49) = true ∧ Im.dgs (List.replicate d 49) = List.replicate d 49 := by
  obtain ⟨k, rfl⟩ : ∃ k, d = k + 1 := ⟨d - 1, by omega⟩
  have e : Im.dgs (List.replicate (k + 1) 49) = List.replicate (k + 1) 49 := by
    unfold Im.dgs
    rw [if_neg (by simp [List.replicate_succ])]
  refine ⟨?_, e⟩
  unfold Im.canonI
  rw [e]
  have h1 : (List.replicate (k + 1) (49 : UInt8)).all Im.isD = true := by
    rw [List.all_eq_true]; intro x hx
    rw [(List.mem_replicate.1 hx).2]; decide
  rw [h1]
  simp [List.replicate_succ]
theorem rep_one (d : Nat) : Lib.repeatL [49] d = List.replicate d 49 := by
  induction d with
  | zero => rfl
  | succ d ih => rw [List.replicate_succ, ← ih]; simp [Lib.repeatL, List.replicate_succ]

set_option maxRecDepth 100000 in
set_option maxHeartbeats 2000000 in
theorem limits_walk (D : Int) (d0 : 0 ≤ D) (d1 : D ≤ 255) (b : Int) (b0 : -128 ≤ b) (b1 : b ≤ 127) (w : World) (G : Gi w) :
    Calls Tryz.prog 11 #[.int .u8 D, .int .i8 b] w fun e w' => e = .returned (.bool true) ∧ Below w.heap.size w w' := by
  have K := Lib.hid (fun W (G : Gi W) => known_any W G)
  obtain ⟨r, hr⟩ : ∃ r : Nat, D.tmod 40 = (r : Int) := ⟨(D.tmod 40).toNat, by have := Int.tmod_nonneg 40 d0; omega⟩
  have hr2 : r < 40 := by
    have h1 := Int.tmod_lt_of_pos D (show (0 : Int) < 40 by decide)
    omega
  obtain ⟨d, hd⟩ : ∃ d : Nat, 1 + r = d := ⟨_, rfl⟩
  have hdi : (1 : Int) + (r : Int) = (d : Int) := by omega
  have hd0 : ¬ (d : Int) = 0 := by omega
  obtain ⟨t, ht⟩ : ∃ t : Int, b.tmod 3 = t := ⟨_, rfl⟩
  have ht2 : -3 < t ∧ t < 3 := by
    have h1 : (b.tmod 3).natAbs < 3 := by rw [Int.natAbs_tmod]; exact Nat.mod_lt _ (by decide)
    omega
  obtain ⟨q, hq⟩ : ∃ q : Nat, 24000 / d = q := ⟨_, rfl⟩
  have hq2 : (24000 : Int).tdiv (d : Int) = (q : Int) := by rw [← hq]; rfl
  have hq3 : q ≤ 24000 := by rw [← hq]; exact Nat.div_le_self _ _
  have hdd : d ≤ 40 := by omega
  have RP := Lib.hid (fun W => Tryz.strings_Repeat ⟨#[49]⟩ d W (by omega) (by show 1 * d ≤ _; omega))
  have e1 : Lib.repeatL (ByteArray.mk #[49]).data.toList d = List.replicate d 49 := rep_one d
  rw [e1] at RP
  obtain ⟨c1, c2⟩ := ones_canon (d := d) (by omega)
  obtain ⟨a, ha⟩ : ∃ a : ByteArray, ⟨(List.replicate d 49).toArray⟩ = a := ⟨_, rfl⟩
  have hal : a.data.toList = List.replicate d 49 := by rw [← ha]
  have hasz : a.size = d := by rw [← size_list, hal, List.length_replicate]
  have PC := Lib.hid (fun (n : Nat) (hn : n ≤ 6000) (h : n * d ≤ 24000) W G => power_c a ⟨by rw [hal]; exact c1, by omega⟩ n hn (by rw [hal, c2, List.length_replicate]; exact h) W G)
  have PL := Lib.hid (fun (n : Nat) (hn : n ≤ 6000) (h : 24000 < n * d) W => power_limit a n d (by rw [hal, c2, List.length_replicate]) (by omega) hn h W)
  rw [ha] at RP
  clear e1 c1 c2 hal hasz ha hd hq
  have hpos : ∀ z : Int, 0 < (tz z).size := fun z => by
    rw [← size_list]
    have := canon_tz z
    cases h : (tz z).data.toList with
    | nil => rw [h] at this; exact absurd this (by decide)
    | cons _ _ => simp
  by_cases h1 : (q : Int) + t < 0
  · clear PC PL
    go_enter Tryz.func11, Tryz.ntmps11
    go_wp2_with fail
    refine (K.out _ G).mono ?_
    rintro e w1 ⟨rfl, b1⟩
    go_wp2_with fail
    refine (RP.out _).mono ?_
    rintro e w2 ⟨rfl, b2⟩
    have b12 := b1.trans (b2.mono b1.size)
    go_wp2_with (go_quiet (fail))
    go_ret
    exact ⟨rfl, b12.trans ⟨rfl, rfl, rfl, Nat.le_refl _, fun _ _ => rfl⟩⟩
  · by_cases h2 : 6000 < (q : Int) + t
    · clear PC PL
      go_enter Tryz.func11, Tryz.ntmps11
      go_wp2_with fail
      refine (K.out _ G).mono ?_
      rintro e w1 ⟨rfl, b1⟩
      go_wp2_with fail
      refine (RP.out _).mono ?_
      rintro e w2 ⟨rfl, b2⟩
      have b12 := b1.trans (b2.mono b1.size)
      go_wp2_with (go_quiet (fail))
      go_ret
      exact ⟨rfl, b12.trans ⟨rfl, rfl, rfl, Nat.le_refl _, fun _ _ => rfl⟩⟩
    · obtain ⟨n, hn⟩ : ∃ n : Nat, (q : Int) + t = (n : Int) := ⟨((q : Int) + t).toNat, by omega⟩
      have hn1 : n ≤ 6000 := by omega
      obtain ⟨p, hp⟩ : ∃ p : Nat, n * d = p := ⟨_, rfl⟩
      have hpi : (n : Int) * (d : Int) = (p : Int) := by rw [← hp]; simp
      have hp2 : p ≤ 6000 * 40 := by rw [← hp]; exact Nat.mul_le_mul hn1 hdd
      by_cases h3 : 24000 < p
      · have PL2 := Lib.hid (PL.out n hn1 (by rw [hp]; exact h3))
        clear PC PL hp
        go_enter Tryz.func11, Tryz.ntmps11
        go_wp2_with fail
        refine (K.out _ G).mono ?_
        rintro e w1 ⟨rfl, b1⟩
        go_wp2_with fail
        refine (RP.out _).mono ?_
        rintro e w2 ⟨rfl, b2⟩
        have b12 := b1.trans (b2.mono b1.size)
        go_wp2_with (go_quiet (fail))
        refine (PL2.out _).mono ?_
        rintro e w3 ⟨rfl, hww⟩
        subst w3
        go_wp2
        go_ret
        exact ⟨rfl, b12⟩
      · have PC2 := Lib.hid (PC.out n hn1 (by rw [hp]; omega))
        clear PC PL hp
        go_enter Tryz.func11, Tryz.ntmps11
        go_wp2_with fail
        refine (K.out _ G).mono ?_
        rintro e w1 ⟨rfl, b1⟩
        go_wp2_with fail
        refine (RP.out _).mono ?_
        rintro e w2 ⟨rfl, b2⟩
        have b12 := b1.trans (b2.mono b1.size)
        go_wp2_with (go_quiet (fail))
        refine (PC2.out _ (G.below b12)).mono ?_
        rintro e w3 ⟨rfl, b3⟩
        go_wp2
        go_ret
        exact ⟨rfl, b12.trans (b3.mono b12.size)⟩
end Go.Proofs.YtnchodofgaaeeaaGreatDoor
