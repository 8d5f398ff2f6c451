/- nearest: the free column with the least distance. -/
import Derived.Test.YtojgfpnecdngfaaMtA
namespace Go.Proofs.Ytojgfpnecdngfaa
open Go Go.RowKit

theorem row_below {w w' : World} {b n : Nat} {t : TypeId} {f : Nat → Value} (h : w.rowIs b t n f) (hb : Below w.heap.size w w') : w'.rowIs b t n f := h.of_block (hb.block b h.lt)
abbrev freeV (gD gB gK n : Nat) : Value := .func (.func 55) #[wayV gD gB gK n] #[]

/-- What nearest has found among the first k columns. -/
def Best (kn : Nat → Bool) (d : Nat → Int) (k : Nat) (v : Value) : Prop :=
  (v = .int .i64 (-1) ∧ ∀ j, j < k → kn j = true) ∨ ∃ b : Nat, v = .int .i64 (b : Int) ∧ b < k ∧ kn b = false ∧ ∀ j, j < k → kn j = false → d b ≤ d j

set_option maxHeartbeats 2000000 in
theorem nearest_c (gD gB gK n : Nat) (d : Nat → Int) (kn : Nat → Bool) (w : World) (hn : n ≤ 1000000) (hD : IR w gD n d) (hK : BR w gK n kn) (hex : ∃ k, k < n ∧ kn k = false) :
    Calls Try.prog 54 #[.slice (some ⟨gD, 0, none⟩) n n, freeV gD gB gK n] w fun e w' => (∃ b : Nat, e = .returned (.int .i64 (b : Int)) ∧ b < n ∧ kn b = false ∧ ∀ j, j < n → kn j = false → d b ≤ d j) ∧ Below w.heap.size w w' := by
  have HX := Lib.hid hex
  have HD := Lib.hid hD
  have HK := Lib.hid hK
  clear hex hD hK
  go_enter Try.func54, Try.ntmps54
  go_wp2_with fail
  go_loopw [5, 10] (fun v i wr => ∃ k : Nat, k ≤ n ∧ i = .int .i64 (k : Int) ∧ Best kn d k v ∧ Below w.heap.size w wr) (fun _ i _ => n - (intOf i).toNat)
  case atStart => exact ⟨0, Nat.zero_le _, rfl, .inl ⟨rfl, fun j hj => by omega⟩, Below.refl _ _⟩
  case round =>
    obtain ⟨k, hk, rfl, hbest, hb⟩ := hrel
    have hD' := row_below HD.out hb
    have hK' := row_below HK.out hb
    by_cases hkn : k < n
    · have hki : (k : Int) < (n : Int) := by omega
      have c0 := hD'.cell hkn
      have q1 := wrap_in (q := (k : Int) + 1) (by omega) (by omega)
      have FR := Lib.hid (free_c gD gB gK n k kn wr hkn hn hK')
      have HB := Lib.hid hb
      rcases hbest with ⟨rfl, hall⟩ | ⟨b, rfl, hbk, hbf, hmin⟩
      · have HA := Lib.hid hall
        clear hall hb hK'
        cases hkk : kn k
        · have KK := Lib.hid hkk
          have FR2 := Lib.hid (show Calls Try.prog 55 #[wayV gD gB gK n, .int .i64 (k : Int)] wr fun e w' => e = .returned (.bool true) ∧ Below wr.heap.size wr w' by have := FR.out; rw [hkk] at this; exact this)
          clear FR hkk
          go_wp2_with (first | (go_at_call 55; refine (FR2.out).mono ?_; rintro e w1 ⟨rfl, hb1⟩))
          have hb2 := HB.out.trans (hb1.mono HB.out.size)
          go_roundw
          case rel => exact ⟨k + 1, by omega, rfl, .inr ⟨k, rfl, by omega, KK.out, fun j hj hjf => by
            by_cases e : j = k
            · subst e; exact Int.le_refl _
            · have := HA.out j (by omega); rw [this] at hjf; cases hjf⟩, hb2⟩
          case measure => simp [intOf]; omega
        · have KK := Lib.hid hkk
          have FR2 := Lib.hid (show Calls Try.prog 55 #[wayV gD gB gK n, .int .i64 (k : Int)] wr fun e w' => e = .returned (.bool false) ∧ Below wr.heap.size wr w' by have := FR.out; rw [hkk] at this; exact this)
          clear FR hkk
          go_wp2_with (first | (go_at_call 55; refine (FR2.out).mono ?_; rintro e w1 ⟨rfl, hb1⟩))
          have hb2 := HB.out.trans (hb1.mono HB.out.size)
          go_roundw
          case rel => exact ⟨k + 1, by omega, rfl, .inl ⟨rfl, fun j hj => by
            by_cases e : j = k
            · subst e; exact KK.out
            · exact HA.out j (by omega)⟩, hb2⟩
          case measure => simp [intOf]; omega
      · have HA := Lib.hid (And.intro hbf hmin)
        clear hb hK' hbf hmin
        cases hkk : kn k
        · have KK := Lib.hid hkk
          have FR2 := Lib.hid (show Calls Try.prog 55 #[wayV gD gB gK n, .int .i64 (k : Int)] wr fun e w' => e = .returned (.bool true) ∧ Below wr.heap.size wr w' by have := FR.out; rw [hkk] at this; exact this)
          clear FR hkk
          have hbn : b < n := by omega
          have hbi : (b : Int) < (n : Int) := by omega
          have hne : (((b : Int)) == -1) = false := by simp
          have hD1 := Lib.hid hD'
          have hDlt := hD'.lt
          clear hD'
          by_cases hlt : d k < d b
          all_goals
            go_wp2_with (first | (go_at_call 55; refine (FR2.out).mono ?_; rintro e w1 ⟨rfl, hb1⟩; have c1 := (row_below hD1.out hb1).cell hbn))
            have hb2 := HB.out.trans (hb1.mono HB.out.size)
            go_roundw
            case rel =>
              refine ⟨k + 1, by omega, rfl, .inr ?_, hb2⟩
              first
                | exact ⟨k, rfl, by omega, KK.out, fun j hj hjf => by
                    by_cases e : j = k
                    · subst e; exact Int.le_refl _
                    · have := HA.out.2 j (by omega) hjf; omega⟩
                | exact ⟨b, rfl, by omega, HA.out.1, fun j hj hjf => by
                    by_cases e : j = k
                    · subst e; omega
                    · exact HA.out.2 j (by omega) hjf⟩
            case measure => simp [intOf]; omega
        · have KK := Lib.hid hkk
          have FR2 := Lib.hid (show Calls Try.prog 55 #[wayV gD gB gK n, .int .i64 (k : Int)] wr fun e w' => e = .returned (.bool false) ∧ Below wr.heap.size wr w' by have := FR.out; rw [hkk] at this; exact this)
          clear FR hkk
          go_wp2_with (first | (go_at_call 55; refine (FR2.out).mono ?_; rintro e w1 ⟨rfl, hb1⟩))
          have hb2 := HB.out.trans (hb1.mono HB.out.size)
          go_roundw
          case rel => exact ⟨k + 1, by omega, rfl, .inr ⟨b, rfl, by omega, HA.out.1, fun j hj hjf => by
            by_cases e : j = k
            · subst e; rw [KK.out] at hjf; cases hjf
            · exact HA.out.2 j (by omega) hjf⟩, hb2⟩
          case measure => simp [intOf]; omega
    · obtain rfl : k = n := by omega
      have hki : ¬ (k : Int) < (k : Int) := by omega
      have HB := Lib.hid hb
      rcases hbest with ⟨rfl, hall⟩ | ⟨b, rfl, hbk, hbf, hmin⟩
      · obtain ⟨j, hj, hjf⟩ := HX.out
        have := hall j hj
        rw [this] at hjf; cases hjf
      · have HA := Lib.hid (And.intro hbf hmin)
        clear hb hK' hD' hbf hmin
        go_wp2_with fail
        go_ret
        exact ⟨⟨b, rfl, hbk, HA.out.1, HA.out.2⟩, HB.out⟩
end Go.Proofs.Ytojgfpnecdngfaa
