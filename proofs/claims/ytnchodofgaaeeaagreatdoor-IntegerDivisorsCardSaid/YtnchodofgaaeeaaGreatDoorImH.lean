/- text, negated, sign of numbers in memory. -/
import Derived.Test.YtnchodofgaaeeaaGreatDoorImG
namespace Go.Proofs.YtnchodofgaaeeaaGreatDoor
open Go Go.RowKit Go.Shelf

theorem text_zero (neg : Bool) (sa : Option Addr) (cap : Nat) (w : World) :
    Calls Tryz.prog 68 #[.agg #[.bool neg, .slice sa 0 cap]] w fun e w' => e = .returned (.string ⟨#[48]⟩) ∧ Below w.heap.size w w' := by
  go_enter Tryz.func68, Tryz.ntmps68
  go_wp2_with fail
  go_ret
  exact ⟨rfl, (Below.refl _ _).alloc (Nat.le_refl _) _⟩
theorem text_any (v : Value) (z : Int) (w : World) (h : Num w v z) (hz : nd z.natAbs ≤ 1048576) (G : Gi w) :
    Calls Tryz.prog 68 #[v] w fun e w' => e = .returned (.string ⟨(Lib.itoa z).toArray⟩) ∧ Below w.heap.size w w' := by
  obtain ⟨neg, sa, cap, b, o, rfl, h2, h3⟩ := h
  by_cases h0 : z = 0
  · subst h0
    have e : nd (0 : Int).natAbs = 0 := nd_zero
    rw [e, show Lib.itoa 0 = [48] from (Im.itoa_nonneg (Int.le_refl 0)).trans Im.dec_zero]
    exact text_zero neg sa cap w
  · have := text_some neg sa cap b o z.natAbs (by omega) w h2 hz G
    rw [h3 h0] at this
    rw [h3 h0]
    refine this.mono fun e w' ⟨h, hb⟩ => ⟨?_, hb⟩
    rw [h]
    by_cases hn : z < 0
    · rw [Im.itoa_neg hn]; simp [hn]
    · rw [Im.itoa_nonneg (by omega), show z.toNat = z.natAbs by omega]; simp [hn]

theorem negated_any (v : Value) (z : Int) (w : World) (h : Num w v z) :
    Calls Tryz.prog 67 #[v] w fun e w' => (∃ v', e = .returned v' ∧ Num w' v' (-z)) ∧ Below w.heap.size w w' := by
  obtain ⟨neg, sa, cap, b, o, rfl, h2, h3⟩ := h
  have H := Lib.hid (show Num w (.agg #[.bool (!neg), .slice sa (nd z.natAbs) cap]) (-z) from ⟨!neg, sa, cap, b, o, by rw [Int.natAbs_neg], by rw [Int.natAbs_neg]; exact h2, fun h0 => by
    rw [h3 (by omega)]
    by_cases hn : z < 0
    · simp [hn]; omega
    · simp [hn]; omega⟩)
  clear h2 h3
  generalize nd z.natAbs = n at *
  go_enter Tryz.func67, Tryz.ntmps67
  go_wp2
  refine bodyPost_ret (v := .agg #[.bool (!neg), .slice sa n cap]) (by simp [results, Tryz.results67, go_sem]) rfl ⟨⟨_, rfl, ?_⟩, ?_⟩
  · exact H.out.call (((Below.refl _ _).alloc (Nat.le_refl _) _).alloc (by simp) _)
  · exact ((Below.refl _ _).alloc (Nat.le_refl _) _).alloc (by simp) _

def sgn (z : Int) : Int := if z = 0 then 0 else if z < 0 then -1 else 1
theorem sign_any (v : Value) (z : Int) (w : World) (h : Num w v z) :
    Calls Tryz.prog 62 #[v] w fun e w' => e = .returned (.int .i64 (sgn z)) ∧ Below w.heap.size w w' := by
  obtain ⟨neg, sa, cap, b, o, rfl, h2, h3⟩ := h
  by_cases h0 : z = 0
  · subst h0
    have e : nd (0 : Int).natAbs = 0 := nd_zero
    rw [e]
    clear h2 h3 e
    go_enter Tryz.func62, Tryz.ntmps62
    go_wp2
    go_ret
    exact ⟨rfl, (Below.refl _ _).alloc (Nat.le_refl _) _⟩
  · have hn : 0 < nd z.natAbs := Nat.pos_of_ne_zero fun e => by have := nd_pos_iff.1 e; omega
    rw [h3 h0]
    have hn0 : ((nd z.natAbs : Nat) : Int) ≠ 0 := by omega
    have hn0' : (((nd z.natAbs : Nat) : Int) == 0) = false := by rw [beq_eq_false_iff_ne]; exact hn0
    clear h2 h3
    generalize nd z.natAbs = n at *
    by_cases hz : z < 0
    · have e : sgn z = -1 := by unfold sgn; rw [if_neg h0, if_pos hz]
      rw [e, show decide (z < 0) = true by simpa using hz]
      go_enter Tryz.func62, Tryz.ntmps62
      go_wp2
      go_ret
      exact ⟨rfl, (Below.refl _ _).alloc (Nat.le_refl _) _⟩
    · have e : sgn z = 1 := by unfold sgn; rw [if_neg h0, if_neg hz]
      rw [e, show decide (z < 0) = false by simpa using hz]
      go_enter Tryz.func62, Tryz.ntmps62
      go_wp2
      go_ret
      exact ⟨rfl, (Below.refl _ _).alloc (Nat.le_refl _) _⟩
end Go.Proofs.YtnchodofgaaeeaaGreatDoor
