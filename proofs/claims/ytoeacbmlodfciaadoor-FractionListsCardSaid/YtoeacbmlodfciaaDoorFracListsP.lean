/- FractionLists, the tied card: for every list of described fractions, and with the listed tables of the library as the program's text lays them, the law returns true and each argument reads as before; no other condition. -/
import Derived.Test.YtoeacbmlodfciaaDoorCards
import Derived.Test.YtoeacbmlodfciaaDoorTie
import Derived.Test.YtoeacbmlodfciaaDoorFracLc
import Derived.Deep.SlicePairs
import Derived.ProofKit
import Derived.LaidMore
import Derived.OpenShut
import Derived.Lib.SmallJoins
import Derived.Stop.Joined
import Derived.SevenTiedAt
import Derived.Carry
namespace Go.Proofs.YtoeacbmlodfciaaDoor.fractionLists
open Go.ChangeShapes Go.WideShapes Go.ChangeAt Go.WideMaps Go.WideElems Go.RowKit Go.Deep

theorem own : ownKnob Tryd.prog.godebug = none := by kernel_rfl

theorem door_met (os : Os) (args : Array Value) : laidMetH Tryd.prog Rows.fractionListsRow.laid ((World.doorLaid Tryd.prog 400 os).forCall (fun _ _ => 0) ⟨#[], args, []⟩).memory :=
  laidMetH_of_parts3 (fuel := 8) (laidMet_of_run' 8 (by kernel_rfl) (by kernel_rfl)) (by kernel_rfl) (by kernel_rfl)

set_option maxRecDepth 100000 in
theorem lifted (os : Os) (started : os.Started) (H : Type) (enc : TypeId × Value → H) :
    ReturnsInHanded {} Tryd.checked os 4 .any (fun w args => (Rows.fractionListsSpec.pre enc Tryd.prog Tryd.f4 [] false w args ∧ laidMetH Tryd.prog Rows.fractionListsRow.laid w) ∧ sizedMet enc Tryd.prog Tryd.f4 (OpenSpec.ofChange Rows.fractionListsSpec) false w args)
      (Rows.fractionListsSpec.post enc Tryd.prog Tryd.f4 false true false false) := by
  refine returnsInHanded_of_change_and (C := Tryd.checked) (X := fun w _ => laidMetH Tryd.prog Rows.fractionListsRow.laid w) (fun _ _ _ hh h => h.of_heap hh) own started (by kernel_rfl) Tryd.func4
    (ChangeSpec.witness_shaped (enc := enc) (C := Tryd.checked) (os := os) (X := fun w _ => laidMetH Tryd.prog Rows.fractionListsRow.laid w) false (World.doorLaid Tryd.prog 400 os) #[.slice none 0 0] 8 rfl (World.shaped_of_RefB (by kernel_rfl) (by kernel_rfl)) (by kernel_rfl) (by kernel_rfl) (by kernel_rfl) (door_met os _)) ?_
  intro W base args ds gs before hval0 hW _ _ hL _
  have hval : ∀ (j : Nat) t v, Tryd.f4.params[j]? = some t → args[j]? = some v → Value.okWide Tryd.prog W .any base t v := hval0
  have hW' := hW
  obtain ⟨p, q, hA0, hV, rfl, hfz, hnd⟩ := hW
  have hA : DataW.TrodAll enc Tryd.prog W 0 (fun _ => true) true Tryd.f4.params.toList args.toList ds p := hA0
  rw [Tryd.params4] at hA hval
  obtain ⟨v0, d0, rfl, rfl, h0⟩ := trodAll_one hA
  obtain ⟨rfl, rfl⟩ := trodVars_none hV
  obtain ⟨a, n, cap, rfl⟩ := okWide_slice Tryd.underlying37 (hval 0 37 v0 rfl rfl)
  have hopen : (∃ (B off : Nat) (P Q : Nat → Int), (0 < n → a = some ⟨B, off, none⟩ ∧ B < W.heap.size) ∧ (∀ k, k < n → W.cell? ⟨B, off + k * 2, none⟩ = some (.int .i16 (P k)) ∧ W.cell? ⟨B, off + k * 2 + 1, none⟩ = some (.int .u8 (Q k))) ∧ ∀ k, k < n → (-32768 ≤ P k ∧ P k ≤ 32767) ∧ 0 ≤ Q k ∧ Q k ≤ 255) ∧ ∀ x ∈ p, x.block < W.heap.size := by
    obtain ⟨fuel, hf⟩ := h0
    rcases open_slice_pairs Tryd.underlying37 Tryd.underlying24 (by kernel_rfl) rfl rfl (by kernel_rfl) (by kernel_rfl) hf with ⟨hcs, hx⟩ | ⟨ad, len', cap', m, fu, V0, V1, D0, D1, P0, P1, hcs, _, hl, hm, hz, hx, hcell⟩
    · simp [Value.cells] at hcs
      obtain ⟨rfl, rfl, rfl⟩ := hcs
      simp only [Prod.mk.injEq] at hx
      obtain ⟨_, rfl⟩ := hx
      exact ⟨⟨0, 0, fun _ => 0, fun _ => 0, fun h => absurd h (by decide), fun k hk => absurd hk (by omega), fun k hk => absurd hk (by omega)⟩, fun x hx => by cases hx⟩
    · simp [Value.cells] at hcs
      obtain ⟨rfl, rfl, rfl⟩ := hcs
      simp only [Prod.mk.injEq] at hx
      obtain ⟨_, rfl⟩ := hx
      simp only [if_true] at hz
      subst hz
      have hint : ∀ i, i < m → ∃ x y : Int, V0 i = .int .i16 x ∧ V1 i = .int .u8 y ∧ P0 i = [] ∧ P1 i = [] ∧ (-32768 ≤ x ∧ x ≤ 32767) ∧ 0 ≤ y ∧ y ≤ 255 := fun i hi => by
        obtain ⟨_, _, t0, t1⟩ := hcell i hi
        obtain ⟨x, e0, e1, wx⟩ := DataW.trod_int Tryd.underlying22 t0
        obtain ⟨y, e2, e3, wy⟩ := DataW.trod_int Tryd.underlying5 t1
        simp only [Prod.mk.injEq, List.cons.injEq, and_true] at e0 e1 e2 e3
        have b0 := bounds_i16 wx
        have b1 := bounds_u8 wy
        exact ⟨x, y, e0, e2, e1.2, e3.2, b0, b1⟩
      have hblk : ∀ x ∈ MemPlace.row ad (m * 2) ++ (List.range m).flatMap (fun i => P0 i ++ P1 i), x.block < W.heap.size := fun x hx => by
        rcases List.mem_append.1 hx with hx | hx
        · obtain ⟨j, hj, rfl⟩ := MemPlace.mem_row.1 hx
          obtain ⟨c0, c1, _⟩ := hcell (j / 2) (by omega)
          have h := World.block_lt_of_cell? _ _ c0
          rw [block_add] at h
          exact h
        · obtain ⟨i, hi, hx⟩ := List.mem_flatMap.1 hx
          obtain ⟨_, _, _, _, e0, e1, _⟩ := hint i (List.mem_range.1 hi)
          rw [e0, e1] at hx
          cases hx
      refine ⟨?_, hblk⟩
      by_cases hn0 : n = 0
      · subst hn0
        exact ⟨0, 0, fun _ => 0, fun _ => 0, fun h => absurd h (by decide), fun k hk => absurd hk (by omega), fun k hk => absurd hk (by omega)⟩
      · obtain ⟨b, off, spot⟩ := ad
        have hspot : spot = none := by
          have h := World.cell?_spot (hcell 0 (by omega)).1
          simpa [Addr.add] using h
        subst hspot
        obtain ⟨X, hX⟩ := choose_lt hint
        obtain ⟨Y, hY⟩ := choose_lt hX
        refine ⟨b, off, X, Y, fun _ => ⟨rfl, World.block_lt_of_cell? _ _ (hcell 0 (by omega)).1⟩, fun k hk => ?_, fun k hk => (hY k (by omega)).2.2.2.2⟩
        obtain ⟨c0, c1, _⟩ := hcell k (by omega)
        obtain ⟨e0, e1, _⟩ := hY k (by omega)
        rw [e0, add_plain] at c0
        rw [e1, add_plain] at c1
        exact ⟨c0, by simpa [Nat.add_assoc] using c1⟩
  obtain ⟨⟨B, off, P, Q, q1, q2, q3⟩, hlt⟩ := hopen
  clear hA0 hval0 hL
  simp only [List.append_nil] at hW'
  refine (lists_walk a B off cap n P Q W q1 q2 q3).mono fun e W' ⟨he, hg⟩ => ?_
  subst he
  exact ⟨_, rfl, _, _, _, [], _, [], hW', trodAll_mk1 (shut_bool Tryd.underlying4 _), trodAll_mk1 (Below.trod (P := Tryd.prog) (by kernel_rfl) (by kernel_rfl) (of_decide_eq_true (by kernel_rfl)) h0 hg hlt), rfl, hg.frame _, fun h => by cases h⟩

theorem holds : Rows.FractionListsSaid :=
  OpenClaim.holds_of_wide 4 Tryd.f4 rfl rfl rfl rfl rfl rfl rfl ⟨rfl, rfl, rfl, rfl, rfl⟩ rfl rfl rfl rfl rfl (by kernel_rfl) Tryd.func4 (by kernel_rfl)
    (of_decide_eq_true (by kernel_rfl)) (by unfold Func.isWrapper; first | (rw [if_pos (by decide +kernel)]; kernel_rfl) | (rw [if_neg (by decide +kernel)]; exact ⟨rfl, rfl⟩))
    (fun os started H enc _ => lifted os started H enc)

theorem card_holds : Rows.FractionListsCardSaid :=
  Claim7.holds_tied_plain_at .later [] [.data, .data, .data] true _ false
    holds (fun _ h => by cases h) (by kernel_rfl) (fun _ h => by cases h) fractionLists_row_tie rfl ⟨rfl, rfl⟩ (by kernel_rfl) rfl
    (fun f fn hf hfn => by
      obtain rfl : f = 4 := Option.some.inj ((show Tryd.prog.funcNamed Rows.fractionListsRow.func = some 4 by kernel_rfl).symm.trans hf) |>.symm
      obtain rfl : fn = Tryd.f4 := (Option.some.inj (Tryd.func4.symm.trans hfn)).symm
      exact ⟨by kernel_rfl, fun j t ht => by
        rw [Tryd.params4] at ht
        have hm : t ∈ [37] := by simpa using Array.mem_of_getElem? ht
        have hall : ([37].all fun u => !Tryd.prog.wantsStandIn u) = true := by kernel_rfl
        exact (show Tryd.prog.wantsStandIn t = false by simpa using List.all_eq_true.1 hall t hm)⟩)
    (by kernel_rfl)
#print axioms card_holds
end Go.Proofs.YtoeacbmlodfciaaDoor.fractionLists
