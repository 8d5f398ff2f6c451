/- The laws' arguments: tables, lists of ints. -/
import Derived.Test.YtojgfpnecdngfaaMtR
import Derived.Deep.Matrix
import Derived.Deep.Slices
import Derived.ChangeOld
import Derived.Lib.SmallJoins
import Derived.ChangeMaps5
import Derived.OpenShut
namespace Go.Proofs.Ytojgfpnecdngfaa
open Go Go.RowKit Go.Shelf Go.ChangeShapes Go.WideShapes Go.ChangeAt Go.WideMaps Go.WideElems Go.Joins Go.Deep

theorem bounds_u8 {n : Int} (h : (Lit.int .u8 n).wf = true) : 0 ≤ n ∧ n ≤ 255 := by
  simp [Lit.wf, IntKind.min, IntKind.max, IntKind.bits, IntKind.signed] at h
  omega
theorem bounds_i64 {n : Int} (h : (Lit.int .i64 n).wf = true) : -9223372036854775808 ≤ n ∧ n ≤ 9223372036854775807 := by
  simp [Lit.wf, IntKind.min, IntKind.max, IntKind.bits, IntKind.signed] at h
  omega
variable {H : Type} {enc : TypeId × Value → H}
theorem open_all {W : World} {t : TypeId} {v : Value} {d : DataW H} {p : List MemPlace} (h0 : DataW.Trod enc Try.prog W 0 (fun _ => true) true t v d p) : ∀ x ∈ p, x.block < W.heap.size := by
  obtain ⟨fuel, hf⟩ := h0
  exact fun x hx => DataW.trod_lt _ _ _ _ hf x hx
set_option maxRecDepth 10000 in
theorem open_ints_m {W : World} {r : Reach} {b0 : Nat} {v : Value} {d : DataW H} {p : List MemPlace} (hv : Value.okWide Try.prog W r b0 27 v) (h0 : DataW.Trod enc Try.prog W 0 (fun _ => true) true 27 v d p) :
    (∀ x ∈ p, x.block < W.heap.size) ∧ ∃ (A : Option Addr) (n c : Nat) (f : Nat → Int), v = .slice A n c ∧ n ≤ 9223372036854775807 ∧ Rd W W.heap.size A n f ∧ ∀ k, k < n → -9223372036854775808 ≤ f k ∧ f k ≤ 9223372036854775807 := by
  refine ⟨open_all h0, ?_⟩
  obtain ⟨a, n, cap, rfl⟩ := okWide_slice Try.underlying27 hv
  obtain ⟨fuel, hf⟩ := h0
  rcases open_ints (P := Try.prog) Try.underlying27 Try.underlying3 (by kernel_rfl) hf with ⟨hcs, hx⟩ | ⟨ad, len', cap', zs, hcs, _, hl, hm, hz, hx, hcell, hwz⟩
  · simp [Value.cells] at hcs
    obtain ⟨rfl, rfl, rfl⟩ := hcs
    exact ⟨none, 0, 0, fun _ => 0, rfl, Nat.zero_le _, fun k hk => absurd hk (by omega), fun k hk => absurd hk (by omega)⟩
  · simp [Value.cells] at hcs
    obtain ⟨rfl, rfl, rfl⟩ := hcs
    simp only [if_true] at hz
    unfold maxLen at hm
    refine ⟨_, n, cap, fun k => zs.getD k 0, rfl, by omega, fun k hk => ?_, fun k hk => ?_⟩
    · have hc := hcell k (by omega)
      exact ⟨ad, rfl, by have := World.block_lt_of_cell? _ _ hc; rwa [block_add] at this, hc⟩
    · have hkz : k < zs.length := by omega
      have := bounds_i64 (hwz (zs.getD k 0) (by rw [List.getD_eq_getElem?_getD, List.getElem?_eq_getElem hkz]; exact List.getElem_mem hkz))
      exact this
set_option maxRecDepth 10000 in
theorem open_rows {W : World} {r : Reach} {b0 : Nat} {v : Value} {d : DataW H} {p : List MemPlace} (hv : Value.okWide Try.prog W r b0 22 v) (h0 : DataW.Trod enc Try.prog W 0 (fun _ => true) true 22 v d p) :
    (∀ x ∈ p, x.block < W.heap.size) ∧ ∃ (A : Option Addr) (m c : Nat) (L : Nat → Nat) (f : Nat → Nat → Int), v = .slice A m c ∧ m ≤ 9223372036854775807 ∧ (∀ i, i < m → L i ≤ 9223372036854775807) ∧ Tb W W.heap.size A m L f ∧ ∀ i, i < m → ∀ k, k < L i → -9223372036854775808 ≤ f i k ∧ f i k ≤ 9223372036854775807 := by
  refine ⟨open_all h0, ?_⟩
  obtain ⟨a, n, cap, rfl⟩ := okWide_slice Try.underlying22 hv
  obtain ⟨fuel, hf⟩ := h0
  rcases open_int_rows (P := Try.prog) Try.underlying22 Try.underlying27 Try.underlying3 (by kernel_rfl) (by kernel_rfl) hf with ⟨hcs, hx⟩ | ⟨ad, len', cap', A, L, C, Z, hcs, _, hl, hm, hx, hrow⟩
  · simp [Value.cells] at hcs
    obtain ⟨rfl, rfl, rfl⟩ := hcs
    exact ⟨none, 0, 0, fun _ => 0, fun _ _ => 0, rfl, Nat.zero_le _, fun k hk => absurd hk (by omega), fun k hk => absurd hk (by omega), fun k hk => absurd hk (by omega)⟩
  · simp [Value.cells] at hcs
    obtain ⟨rfl, rfl, rfl⟩ := hcs
    unfold maxLen at hm
    refine ⟨_, n, cap, L, fun i k => (Z i).getD k 0, rfl, by omega, fun i hi => ?_, fun i hi => ?_, fun i hi k hk => ?_⟩
    · obtain ⟨_, h2, h3, _⟩ := hrow i (by omega)
      unfold maxLen at h3
      omega
    · obtain ⟨h1, h2, h3, h4, h5, h6, h7⟩ := hrow i (by omega)
      refine ⟨ad, A i, C i, rfl, by have := World.block_lt_of_cell? _ _ h1; rwa [block_add] at this, h1, fun k hk => ?_⟩
      cases hA : A i with
      | none => have := h6 hA; omega
      | some a' =>
        have hc := (h7 a' hA).2 k (by omega)
        exact ⟨a', rfl, by have := World.block_lt_of_cell? _ _ hc; rwa [block_add] at this, hc⟩
    · obtain ⟨h1, h2, h3, h4, h5, h6, h7⟩ := hrow i (by omega)
      have hkz : k < (Z i).length := by omega
      exact bounds_i64 (h5 ((Z i).getD k 0) (by rw [List.getD_eq_getElem?_getD, List.getElem?_eq_getElem hkz]; exact List.getElem_mem hkz))
end Go.Proofs.Ytojgfpnecdngfaa
