/- Same: two lists that read alike. -/
import Derived.Test.YtibdnfcbgcbdeaaDoorNsZa
namespace Go.Proofs.YtibdnfcbgcbdeaaDoor
open Go Go.RowKit Go.Shelf

/-- The ints of a slice, as they are read. -/
def RowAt (W : World) (v : Value) (n : Nat) (X : Nat → Int) : Prop :=
  (n = 0 ∧ ∃ a c, v = .slice a 0 c) ∨ ∃ g off c, v = .slice (some ⟨g, off, none⟩) n c ∧ g < W.heap.size ∧ ∀ k, k < n → W.cell? ⟨g, off + k, none⟩ = some (.int .i64 (X k))

theorem RowAt.open {W : World} {v : Value} {n : Nat} {X : Nat → Int} (h : RowAt W v n X) : ∃ a c, v = .slice a n c ∧ (0 < n → ∃ g off, a = some ⟨g, off, none⟩ ∧ g < W.heap.size ∧ ∀ k, k < n → W.cell? ⟨g, off + k, none⟩ = some (.int .i64 (X k))) := by
  rcases h with ⟨rfl, a, c, rfl⟩ | ⟨g, off, c, rfl, h1, h2⟩
  · exact ⟨a, c, rfl, fun h => absurd h (by decide)⟩
  · exact ⟨_, c, rfl, fun _ => ⟨g, off, rfl, h1, h2⟩⟩

set_option maxHeartbeats 2000000 in
theorem same_yes (va vb : Value) (n : Nat) (X : Nat → Int) (w : World) (hn : n ≤ 1099511627776) (ha : RowAt w va n X) (hb : RowAt w vb n X) :
    Calls Tryd.prog 27 #[va, vb] w fun e w' => e = .returned (.bool true) ∧ Below w.heap.size w w' := by
  obtain ⟨a, c, rfl, h1⟩ := ha.open
  obtain ⟨a2, c2, rfl, h2⟩ := hb.open
  have H1 := Lib.hid h1
  have H2 := Lib.hid h2
  clear h1 h2 ha hb
  go_enter Tryd.func27, Tryd.ntmps27
  go_wp2
  go_loopw [5] (fun i wr => ∃ k : Nat, k ≤ n ∧ i = .int .i64 (k : Int) ∧ Below w.heap.size w wr) (fun i _ => n - (intOf i).toNat)
  case atStart => exact ⟨0, Nat.zero_le _, rfl, Below.refl _ _⟩
  case round =>
    obtain ⟨k, hk, rfl, hw⟩ := hrel
    have hsz := hw.size
    by_cases h1 : k < n
    · obtain ⟨g, off, rfl, hg, hx⟩ := H1.out (by omega)
      obtain ⟨g2, off2, rfl, hg2, hx2⟩ := H2.out (by omega)
      have x1 : wr.cell? ⟨g, off + k, none⟩ = some (.int .i64 (X k)) := (hw.cell (p := ⟨g, off + k, none⟩) hg).trans (hx k h1)
      have x2 : wr.cell? ⟨g2, off2 + k, none⟩ = some (.int .i64 (X k)) := (hw.cell (p := ⟨g2, off2 + k, none⟩) hg2).trans (hx2 k h1)
      have hkn : (k : Int) < (n : Int) := by omega
      clear hx hx2 H1 H2
      go_wp2_with fail
      go_region_with fail
      all_goals
        go_wp2
        go_roundw
        case rel => exact ⟨k + 1, by omega, by go_num, hw.drew⟩
        case measure => simp [intOf]; omega
    · obtain rfl : k = n := by omega
      go_wp2
      go_ret
      exact ⟨rfl, hw⟩
end Go.Proofs.YtibdnfcbgcbdeaaDoor
