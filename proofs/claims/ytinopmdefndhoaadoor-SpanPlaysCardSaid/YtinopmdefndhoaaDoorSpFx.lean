/- The walk of SpanFeet. -/
import Derived.Test.YtinopmdefndhoaaDoorSpFw
namespace Go.Proofs.YtinopmdefndhoaaDoor
open Go Go.RowKit Go.Shelf

theorem info_div : (Tryd.prog.info? 53).map (fun i => (i.zero, i.size, i.bytes)) = some (some (.agg #[.string "".toUTF8, .bool false, .int .i64 0, .int .i64 0, .slice none 0 0]), 5, 64) := by kernel_rfl
def dv5 : List Value := [.string "".toUTF8, .bool true, .int .i64 0, .int .i64 0, .slice none 0 0]
def dvs : Nat → List Value
  | 0 => []
  | k + 1 => dvs k ++ dv5
theorem dvs_len (k : Nat) : (dvs k).length = 5 * k := by
  induction k with
  | zero => rfl
  | succ k ih => simp [dvs, ih, dv5]; omega
theorem dvs_at (n i : Nat) (h : i < n) : (dvs n)[i * 5 + 1]? = some (.bool true) := by
  induction n with
  | zero => omega
  | succ n ih =>
    have hl := dvs_len n
    unfold dvs
    by_cases hi : i < n
    · rw [List.getElem?_append_left (by omega)]
      exact ih hi
    · obtain rfl : i = n := by omega
      rw [List.getElem?_append_right (by omega), hl, show i * 5 + 1 - 5 * i = 1 by omega]
      rfl
theorem dv5_new (w : World) (t : TypeId) : ∀ j u, dv5[j]? = some u → (w.alloc (.cells #[.string "".toUTF8, .bool true, .int .i64 0, .int .i64 0, .slice none 0 0] t)).cell? ((⟨w.heap.size, 0, none⟩ : Addr).add j) = some u := by
  intro j u h
  have hj : j < 5 := by
    rcases Nat.lt_or_ge j 5 with k | k
    · exact k
    · rw [List.getElem?_eq_none (by simp [dv5]; omega)] at h; cases h
  have hh : (w.alloc (.cells #[.string "".toUTF8, .bool true, .int .i64 0, .int .i64 0, .slice none 0 0] t)).heap[w.heap.size]? = some (.cells #[.string "".toUTF8, .bool true, .int .i64 0, .int .i64 0, .slice none 0 0] t) := heap_new rfl
  generalize w.alloc (.cells #[.string "".toUTF8, .bool true, .int .i64 0, .int .i64 0, .slice none 0 0] t) = W at *
  match j, hj with
  | 0, _ | 1, _ | 2, _ | 3, _ | 4, _ => rw [← h]; simp [World.cell?, Addr.add, hh, dv5]
theorem divs_of_row {W : World} {B n : Nat} {v : Value} (h : W.ownsRow B 53 5 v n (dvs n)) : DivsAt W v n (fun _ => true) := by
  rcases h.2 with ⟨rfl, hn⟩ | ⟨g, cap, cur, rfl, hgb, hg, hnc, hcm, hcs, htk⟩
  · exact ⟨_, _, by rw [hn], fun h0 => by omega⟩
  · refine ⟨_, _, rfl, fun _ => ⟨g, 0, rfl, (Array.getElem?_eq_some_iff.1 hg).1, fun i hi => ?_⟩⟩
    have h2 := h.cells (g := g) rfl (i * 5 + 1) _ (dvs_at n i hi)
    simpa [Addr.add] using h2
theorem chk_d {a b c d : Int} (h : chk a b c d = 0) : 0 ≤ d := by
  unfold chk at h
  split at h
  · rename_i h'; exact h'.2.2.2.2.2.2.1
  · cases h

set_option maxRecDepth 100000 in
set_option maxHeartbeats 4000000 in
theorem feet_law (a b c d : Int) (v : Value) (n : Nat) (S : Nat → Nat × Nat) (w : World) (G : Gl w) (hv : SetsAt w v n S) (hS : ∀ i, i < n → (S i).1 < 18446744073709551616 ∧ (S i).2 < 18446744073709551616) :
    Calls Tryd.prog 5 #[.agg #[.int .i64 a, .int .i64 b, .int .i64 c, .int .i64 d], v] w fun e w' => e = .returned (.bool true) ∧ Below w.heap.size w w' := by
  obtain ⟨va, vc, rfl, hvc⟩ := id hv
  have KN := Lib.hid (fun W g => known_all W g)
  have CH := Lib.hid (fun W => chkp_any a b c d W)
  have HV := Lib.hid hv
  clear hv hvc
  obtain ⟨D, hD⟩ : ∃ D, w.heap.size = D := ⟨_, rfl⟩
  have hw0 : Below D w (w.alloc (.cells #[.int .i64 a, .int .i64 b, .int .i64 c, .int .i64 d] 23)) := (Below.refl _ w).alloc (by omega) _
  have hp0 : PlAt (w.alloc (.cells #[.int .i64 a, .int .i64 b, .int .i64 c, .int .i64 d] 23)) D a b c d := heap_new hD.symm
  have G0 : Gl (w.alloc (.cells #[.int .i64 a, .int .i64 b, .int .i64 c, .int .i64 d] 23)) := G.below (by rw [hD]; exact hw0)
  go_enter Tryd.func5, Tryd.ntmps5
  go_wp2_with fail
  refine (KN.out _ G0).mono ?_
  rintro e v1 ⟨rfl, hb1⟩
  have hw1 : Below D w v1 := hw0.trans (hb1.mono (by simp; omega))
  have hp1 := hp0.below hp0.lt hb1
  clear hw0 hp0 hb1 G0
  have c0 := cell4_0 hp1
  have c1 := cell4_1 hp1
  have c2 := cell4_2 hp1
  have c3 := cell4_3 hp1
  go_wp2_with fail
  refine (CH.out _).mono ?_
  rintro e v2 ⟨rfl, hb2⟩
  have hz1 : D ≤ v1.heap.size := by rw [← hD]; exact hw1.size
  have hw2 : Below D w v2 := hw1.trans (hb2.mono hz1)
  have hp2 := hp1.below hp1.lt hb2
  have hz2 : D ≤ v2.heap.size := by rw [← hD]; exact hw2.size
  have G2 : Gl v2 := G.below (by rw [hD]; exact hw2)
  clear c0 c1 c2 c3 hb2 hw1 hp1 hz1
  by_cases hx : chk a b c d = 0
  · by_cases hn : n ≤ 4
    · have CF := Lib.hid (fun W g h => feet_ok a b c d (.slice va n vc) n S hx W g (by omega) h hS)
      have PL := Lib.hid (fun (dv : Value) (W : World) (h1 : DivsAt W dv n (fun _ => true)) (h2 : SetsAt W (.slice va n vc) n S) => plays_loop a b c d dv (.slice va n vc) n n n (fun _ => true) S W h1 h2 (Nat.min_self n) hn hS)
      have FI := Lib.hid (feet_is a b c d (chk_d hx) S n)
      rw [hx]
      have c0 := cell4_0 hp2
      have c1 := cell4_1 hp2
      have c2 := cell4_2 hp2
      have c3 := cell4_3 hp2
      have hn4 : ¬ (4 : Int) < (n : Int) := by omega
      have V2 : SetsAt v2 (.slice va n vc) n S := HV.out.below (by rw [hD]; exact hw2)
      clear hS hx
      go_wp2_with fail
      refine (CF.out _ G2 V2).mono ?_
      rintro e v3 ⟨rfl, hb3⟩
      have hw3 : Below D w v3 := hw2.trans (hb3.mono hz2)
      have hp3 := hp2.below hp2.lt hb3
      clear c0 c1 c2 c3 hb3 hp2 V2 CF
      obtain ⟨i0, hi0, hq0, hq1, hq2⟩ := info_parts info_div
      have hz3 : D ≤ v3.heap.size := by rw [← hD]; exact hw3.size
      obtain ⟨r, hr⟩ : ∃ r, feetB c d S n = r := ⟨_, rfl⟩
      rw [hr]
      have HR := Lib.hid hr
      clear hr
      go_wp2_with fail
      go_loopw [7, 8] (fun dv i wr => ∃ k : Nat, k ≤ n ∧ i = .int .i64 (k : Nat) ∧ wr.ownsRow (D + 1) 53 5 dv k (dvs k) ∧ Below (D + 1) v3 wr) (fun _ i _ => n - (intOf i).toNat)
      case atStart => exact ⟨0, Nat.zero_le _, rfl, World.ownsRow_nil _ _ _ _, Below.refl _ _⟩
      case round =>
        obtain ⟨k, hk, rfl, hrow, hwr⟩ := hrel
        have hzr := hwr.size
        have hpl := hp3.lt
        by_cases hkn : k < n
        · have hkl : (k : Int) < (n : Int) := by omega
          go_wp2_with (at_builtin; refine wpList_append_own _ rfl _ _ 50 rfl (D + 1) 53 i0 (.agg #[.string "".toUTF8, .bool false, .int .i64 0, .int .i64 0, .slice none 0 0]) 5 64 Tryd.underlying50 hi0 hq0 hq1 hq2 rfl (by decide) _ _ _ rfl (hrow.alloc _) ⟨wr.heap.size, 0, none⟩ 1 1 dv5 rfl rfl (dv5_new _ _) (by simp [dv5, Value.oneCell']) (by unfold maxLen; omega) (by omega) (by simp; omega) ?_; intro v' w6 hown' hgrow _)
          have hb6 := grown_below (by omega) hrow hgrow
          go_roundw
          case rel => exact ⟨k + 1, by omega, by go_num, hown', hwr.trans hb6⟩
          case measure => simp [intOf]; omega
        · obtain rfl : k = n := by omega
          have hkl : ¬ (k : Int) < (k : Int) := by omega
          have DV := Lib.hid (divs_of_row hrow)
          have hw4 : Below D w wr := hw3.trans (hwr.mono (by omega))
          have hp4 := hp3.below (show D < D + 1 by omega) hwr
          have V4 : SetsAt wr (.slice va k vc) k S := HV.out.below (by rw [hD]; exact hw4)
          have c0 := cell4_0 hp4
          have c1 := cell4_1 hp4
          have c2 := cell4_2 hp4
          have c3 := cell4_3 hp4
          go_wp2_with fail
          refine (PL.out _ _ DV.out V4).mono ?_
          rintro e v5 ⟨rfl, hb5⟩
          rw [FI.out, HR.out]
          have hq : (r == r) = true := by simp
          go_wp2
          go_ret
          exact ⟨rfl, by rw [hD]; exact hw4.trans (hb5.mono (by omega))⟩
    · rw [hx]
      have hn4 : (4 : Int) < (n : Int) := by omega
      go_wp2_with fail
      refine (KN.out _ G2).mono ?_
      rintro e v3 ⟨rfl, hb3⟩
      go_wp2
      go_ret
      exact ⟨rfl, by rw [hD]; exact hw2.trans (hb3.mono hz2)⟩
  · rw [chk_ne a b c d hx]
    go_wp2_with fail
    refine (KN.out _ G2).mono ?_
    rintro e v3 ⟨rfl, hb3⟩
    go_wp2
    go_ret
    exact ⟨rfl, by rw [hD]; exact hw2.trans (hb3.mono hz2)⟩
end Go.Proofs.YtinopmdefndhoaaDoor
