/- NotesetReturns: the law's walk. -/
import Derived.Test.YtibdnfcbgcbdeaaDoorNsZd
import Derived.Test.YtibdnfcbgcbdeaaDoorNsJ
namespace Go.Proofs.YtibdnfcbgcbdeaaDoor
open Go Go.RowKit Go.Shelf

theorem has_back (lo hi m : Nat) (k : Int) (hl : lo < 18446744073709551616) (hh : hi < 18446744073709551616) (hm : m < 128) :
    Ns.has (Ns.shLo (Ns.shLo lo hi k) (Ns.shHi lo hi k) (-k)) (Ns.shHi (Ns.shLo lo hi k) (Ns.shHi lo hi k) (-k)) m = (decide (0 ≤ (m : Int) + k ∧ (m : Int) + k ≤ 127) && Ns.has lo hi m) := by
  have h1 := Ns.sh_lt lo hi k hl hh
  rw [Ns.has_sh _ _ m (-k) h1.1 h1.2 hm]
  unfold Ns.movedB
  rw [show (m : Int) - -k = m + k by omega]
  by_cases h : 0 ≤ (m : Int) + k ∧ (m : Int) + k ≤ 127
  · rw [decide_eq_true h, decide_eq_true (by omega), Bool.true_and, Bool.true_and]
    obtain ⟨q, hq⟩ : ∃ q : Nat, (m : Int) + k = q := ⟨((m : Int) + k).toNat, by omega⟩
    rw [hq, Int.toNat_natCast, Ns.has_sh lo hi q k hl hh (by omega)]
    unfold Ns.movedB
    rw [show (q : Int) - k = m by omega, decide_eq_true (by omega), Bool.true_and, Int.toNat_natCast]
  · rw [decide_eq_false h, decide_eq_false (by omega)]
    rfl

theorem within_back (lo hi : Nat) (k : Int) (hl : lo < 18446744073709551616) (hh : hi < 18446744073709551616) :
    Ns.withinB (Ns.shLo (Ns.shLo lo hi k) (Ns.shHi lo hi k) (-k)) (Ns.shHi (Ns.shLo lo hi k) (Ns.shHi lo hi k) (-k)) lo hi = true := by
  have h1 := Ns.sh_lt lo hi k hl hh
  have h2 := Ns.sh_lt _ _ (-k) h1.1 h1.2
  refine decide_eq_true (Ns.ext (Ns.wo_lt _ _ h2.1) (Ns.wo_lt _ _ h2.2) (by decide) (by decide) fun m hm => ?_)
  rw [Ns.has_wo _ _ _ _ _ h2.1 h2.2 hl hh, has_zero, has_back lo hi m k hl hh hm]
  cases Ns.has lo hi m <;> simp

theorem returns_out (a b : Int) (k : Int) (w : World) (G : Gl w) (h : k < -200 ∨ 200 < k) :
    Calls Tryd.prog 12 #[.agg #[.int .u64 a, .int .u64 b], .int .i64 k] w fun e w' => e = .returned (.bool true) ∧ Below w.heap.size w w' := by
  have b0 : Below w.heap.size w (w.alloc (.cells #[.int .u64 a, .int .u64 b] 34)) := (Below.refl _ _).alloc (Nat.le_refl _) _
  have B0 := Lib.hid b0
  have K := Lib.hid (known_any (w.alloc (.cells #[.int .u64 a, .int .u64 b] 34)) (G.below b0))
  have K2 := Lib.hid (show ∀ W, Below w.heap.size w W → _ from fun W h => known_any W (G.below h))
  clear b0
  rcases (show k < -200 ∨ (¬ k < -200 ∧ 200 < k) by omega) with h1 | ⟨h1, h2⟩
  all_goals
    go_enter Tryd.func12, Tryd.ntmps12
    go_wp2_with fail
    refine K.out.mono ?_
    rintro e w1 ⟨rfl, hb1⟩
    have bb1 : Below w.heap.size w w1 := B0.out.trans (hb1.mono (by simp))
    go_wp2_with fail
    refine (K2.out _ bb1).mono ?_
    rintro e w2 ⟨rfl, hb2⟩
    go_wp2
    go_ret
    exact ⟨rfl, bb1.trans (hb2.mono bb1.size)⟩

set_option maxRecDepth 100000 in
set_option maxHeartbeats 4000000 in
theorem returns_in (lo hi : Nat) (k : Int) (hl : lo < 18446744073709551616) (hh : hi < 18446744073709551616) (w : World) (G : Gl w) (hk0 : -200 ≤ k) (hk1 : k ≤ 200) :
    Calls Tryd.prog 12 #[.agg #[.int .u64 lo, .int .u64 hi], .int .i64 k] w fun e w' => e = .returned (.bool true) ∧ Below w.heap.size w w' := by
  have l1 := Ns.sh_lt lo hi k hl hh
  have l2 := Ns.sh_lt _ _ (-k) l1.1 l1.2
  have s1 := fun W => shift_any lo hi k hl W
  have s2 := fun W => shift_any (Ns.shLo lo hi k) (Ns.shHi lo hi k) (-k) l1.1 W
  have hw := within_back lo hi k hl hh
  have hb := fun m hm => has_back lo hi m k hl hh hm
  obtain ⟨x, hx⟩ : ∃ x, Ns.shLo lo hi k = x := ⟨_, rfl⟩
  obtain ⟨y, hy⟩ : ∃ y, Ns.shHi lo hi k = y := ⟨_, rfl⟩
  rw [hx, hy] at s1 s2 hw hb l1 l2
  obtain ⟨p, hp⟩ : ∃ p, Ns.shLo x y (-k) = p := ⟨_, rfl⟩
  obtain ⟨q, hq⟩ : ∃ q, Ns.shHi x y (-k) = q := ⟨_, rfl⟩
  rw [hp, hq] at s2 hw hb l2
  clear hx hy hp hq
  have S1 := Lib.hid s1
  have S2 := Lib.hid s2
  have HW := Lib.hid (fun W => within_any p q lo hi l2.1 l2.2 hl hh W)
  rw [hw] at HW
  have HB := Lib.hid (show ∀ m : Nat, m < 128 → ∀ W : World, Calls Tryd.prog 30 #[.agg #[.int .u64 p, .int .u64 q], .int .i64 m] W fun e w' => e = .returned (.bool (decide (0 ≤ (m : Int) + k ∧ (m : Int) + k ≤ 127) && Ns.has lo hi m)) ∧ Below W.heap.size W w' from fun m hm W => by
    rw [← hb m hm, ← withinB_has p q m hm l2.1 l2.2]; exact has_yes p q m hm l2.1 l2.2 W)
  have HN := Lib.hid (show ∀ j, j < (Ns.notes lo hi).length → ∃ m : Nat, m < 128 ∧ nth (Ns.notes lo hi) j = m ∧ Ns.has lo hi m = true from fun j hj => by
    have hm := List.getElem_mem hj
    have h2 := Ns.mem_notes.1 hm
    exact ⟨_, h2.1, by unfold nth; simp [hj], h2.2⟩)
  have hN := Ns.notes_length lo hi
  have ML := Lib.hid (show ∀ W : World, Gl W → Calls Tryd.prog 28 #[.agg #[.int .u64 lo, .int .u64 hi]] W fun e w' => (∃ v, e = .returned v ∧ RowAt w' v (Ns.notes lo hi).length (nth (Ns.notes lo hi))) ∧ Below W.heap.size W w' from
    fun W g => (memberList_any lo hi hl hh W g).mono fun _ _ ⟨⟨v, h1, h2⟩, h3⟩ => ⟨⟨v, h1, rowAt_of h2⟩, h3⟩)
  generalize nth (Ns.notes lo hi) = X at HN ML
  generalize (Ns.notes lo hi).length = N at HN ML hN
  have b0 : Below w.heap.size w (w.alloc (.cells #[.int .u64 lo, .int .u64 hi] 34)) := (Below.refl _ _).alloc (Nat.le_refl _) _
  have s0 : SetAt (w.alloc (.cells #[.int .u64 lo, .int .u64 hi] 34)) w.heap.size lo hi := SetAt.new w lo hi
  have B0 := Lib.hid b0
  have S0 := Lib.hid s0
  have GG := Lib.hid (show ∀ W : World, Below w.heap.size w W → Gl W from fun W h => G.below h)
  have K := Lib.hid (known_any (w.alloc (.cells #[.int .u64 lo, .int .u64 hi] 34)) (G.below b0))
  have hk0' : ¬ k < -200 := by omega
  have hk1' : ¬ 200 < k := by omega
  have hneg : IntKind.i64.wrap (-k) = -k := by rw [IntKind.wrap_i64]; omega
  clear s1 s2 hw hb l1 l2 b0 s0 G hl hh
  go_enter Tryd.func12, Tryd.ntmps12
  go_wp2_with fail
  refine K.out.mono ?_
  rintro e w1 ⟨rfl, hb1⟩
  have s1 : SetAt w1 w.heap.size lo hi := S0.out.below (by simp) hb1
  have bb1 : Below w.heap.size w w1 := B0.out.trans (hb1.mono (by simp))
  have c0 := s1.fst
  have c1 := s1.snd
  go_wp2_with fail
  refine (S1.out _).mono ?_
  rintro e w2 ⟨rfl, hb2⟩
  have s2 := s1.below s1.lt hb2
  have bb2 : Below w.heap.size w w2 := bb1.trans (hb2.mono bb1.size)
  go_wp2_with fail
  refine (S2.out _).mono ?_
  rintro e w3 ⟨rfl, hb3⟩
  have s3 := s2.below s2.lt hb3
  have bb3 : Below w.heap.size w w3 := bb2.trans (hb3.mono bb2.size)
  clear c0 c1 hb1 hb2 hb3 bb1 bb2 s1 s2
  have c2 := s3.fst
  have c3 := s3.snd
  have z3 := s3.lt
  have n3 : w.heap.size ≠ w3.heap.size := by omega
  have a0 := ((Below.refl w3.heap.size w3).alloc (Nat.le_refl _) (.cells #[.int .u64 p, .int .u64 q] 34)).cell (p := ⟨w.heap.size, 0, none⟩) z3
  have a1 := ((Below.refl w3.heap.size w3).alloc (Nat.le_refl _) (.cells #[.int .u64 p, .int .u64 q] 34)).cell (p := ⟨w.heap.size, 1, none⟩) z3
  rw [c2] at a0
  rw [c3] at a1
  go_wp2_with fail
  refine (ML.out _ (GG.out _ (bb3.alloc bb3.size _))).mono ?_
  rintro e w4 ⟨⟨v4, rfl, hv4⟩, hb4⟩
  have sB : SetAt w4 w3.heap.size p q := (SetAt.new w3 p q).below (SetAt.new w3 p q).lt hb4
  have sS : SetAt w4 w.heap.size lo hi := (s3.below z3 ((Below.refl _ _).alloc (Nat.le_refl _) _)).below (by simp; omega) hb4
  have bb4 : Below w.heap.size w w4 := (bb3.alloc bb3.size _).trans (hb4.mono (by simp; omega))
  obtain ⟨va, vc, rfl, hop⟩ := hv4.open
  have OP := Lib.hid hop
  clear hop hv4 a0 a1 c2 c3 n3 z3 s3 bb3 hb4
  go_wp2_with fail
  go_loopw [28] (fun i wr => ∃ j : Nat, j ≤ N ∧ i = .int .i64 (j : Int) ∧ Below w4.heap.size w4 wr) (fun i _ => N - (intOf i).toNat)
  case atStart => exact ⟨0, Nat.zero_le _, rfl, Below.refl _ _⟩
  case round =>
    obtain ⟨j, hj, rfl, hw⟩ := hrel
    have hsz := hw.size
    have tB := sB.below sB.lt hw
    have tS := sS.below sS.lt hw
    have p0 := tB.fst
    have p1 := tB.snd
    have q0 := tS.fst
    have q1 := tS.snd
    by_cases h1 : j < N
    · obtain ⟨g, off, rfl, hg, hx⟩ := OP.out (by omega)
      obtain ⟨m, hm, hXm, hhas⟩ := HN.out j h1
      have x1 : wr.cell? ⟨g, off + j, none⟩ = some (.int .i64 m) := by rw [← hXm]; exact (hw.cell (p := ⟨g, off + j, none⟩) hg).trans (hx j h1)
      have hH := HB.out m hm
      rw [hhas, Bool.and_true] at hH
      have hjn : (j : Int) < (N : Int) := by omega
      have hwr : IntKind.i64.wrap ((m : Int) + k) = (m : Int) + k := by rw [IntKind.wrap_i64]; omega
      clear hx OP
      rcases (show (m : Int) + k < 0 ∨ (0 ≤ (m : Int) + k ∧ (m : Int) + k ≤ 127) ∨ (0 ≤ (m : Int) + k ∧ 127 < (m : Int) + k) by omega) with h2 | ⟨h2, h3⟩ | ⟨h2, h3⟩
      · rw [decide_eq_false (by omega)] at hH
        have H := Lib.hid hH
        have h2' : ¬ 0 ≤ (m : Int) + k := by omega
        clear hH
        go_wp2_with fail
        refine (H.out _).mono ?_
        rintro e w5 ⟨rfl, hb5⟩
        go_wp2
        go_roundw
        case rel => exact ⟨j + 1, by omega, by go_num, hw.trans (hb5.mono hsz)⟩
        case measure => simp [intOf]; omega
      · rw [decide_eq_true ⟨h2, h3⟩] at hH
        have H := Lib.hid hH
        clear hH
        go_wp2_with fail
        refine (H.out _).mono ?_
        rintro e w5 ⟨rfl, hb5⟩
        go_wp2
        go_roundw
        case rel => exact ⟨j + 1, by omega, by go_num, hw.trans (hb5.mono hsz)⟩
        case measure => simp [intOf]; omega
      · rw [decide_eq_false (by omega)] at hH
        have H := Lib.hid hH
        have h3' : ¬ (m : Int) + k ≤ 127 := by omega
        clear hH
        go_wp2_with fail
        refine (H.out _).mono ?_
        rintro e w5 ⟨rfl, hb5⟩
        go_wp2
        go_roundw
        case rel => exact ⟨j + 1, by omega, by go_num, hw.trans (hb5.mono hsz)⟩
        case measure => simp [intOf]; omega
    · obtain rfl : j = N := by omega
      go_wp2_with fail
      refine (HW.out _).mono ?_
      rintro e w5 ⟨rfl, hb5⟩
      go_wp2
      go_ret
      exact ⟨rfl, bb4.trans ((hw.trans (hb5.mono hsz)).mono bb4.size)⟩

theorem returns_walk (a b k : Int) (w : World) (G : Gl w) (h1 : 0 ≤ a) (h2 : a ≤ 18446744073709551615) (h3 : 0 ≤ b) (h4 : b ≤ 18446744073709551615) :
    Calls Tryd.prog 12 #[.agg #[.int .u64 a, .int .u64 b], .int .i64 k] w fun e w' => e = .returned (.bool true) ∧ Below w.heap.size w w' := by
  by_cases h : k < -200 ∨ 200 < k
  · exact returns_out a b k w G h
  · obtain ⟨lo, rfl⟩ : ∃ lo : Nat, a = lo := ⟨a.toNat, by omega⟩
    obtain ⟨hi, rfl⟩ : ∃ hi : Nat, b = hi := ⟨b.toNat, by omega⟩
    exact returns_in lo hi k (by omega) (by omega) w G (by omega) (by omega)
end Go.Proofs.YtibdnfcbgcbdeaaDoor
