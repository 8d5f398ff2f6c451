/- The reference's Words: the words of a text between blanks. -/
import Derived.Test.YtibdnfcbgcbdeaaDoorNsPm
import Derived.Test.YtibdnfcbgcbdeaaDoorNsZd
import Derived.Laws.OwnMore
import Derived.StillTailTactics
namespace Go.Proofs.YtibdnfcbgcbdeaaDoor
open Go Go.RowKit Go.Shelf

def strs (l : List (List UInt8)) : List Value := l.map fun y => .string ⟨y.toArray⟩
theorem strs_set (d : List (List UInt8)) (c c' : List UInt8) : (strs (d ++ [c])).set d.length (.string ⟨c'.toArray⟩) = strs (d ++ [c']) := by
  unfold strs
  rw [List.map_append, List.map_append, List.set_append_right _ _ (by simp)]
  simp
theorem strs_last (d : List (List UInt8)) (c : List UInt8) : (strs (d ++ [c]))[d.length]? = some (.string ⟨c.toArray⟩) := by
  unfold strs
  rw [List.map_append, List.getElem?_append_right (by simp)]
  simp
theorem bytes_snoc (c : List UInt8) (x : UInt8) : (⟨c.toArray⟩ : ByteArray) ++ ⟨#[x]⟩ = ⟨(c ++ [x]).toArray⟩ := by
  cases h : (⟨c.toArray⟩ : ByteArray) ++ ⟨#[x]⟩ with | mk d =>
  have := congrArg (fun b : ByteArray => b.data.toList) h
  simp at this
  congr 1
  apply Array.toList_inj.1
  rw [← this]
theorem extract_one (s : ByteArray) (k : Nat) (h : k < s.size) : s.extract k (k + 1) = ⟨#[s[k]]⟩ := by
  have e : (s.extract k (k + 1)).data.toList = [s[k]] := by
    rw [Lib.extract_data]
    have h2 : k < s.data.toList.length := by simpa using h
    rw [show k + 1 - k = 1 by omega, List.drop_eq_getElem_cons h2]
    simp
    rfl
  cases hx : s.extract k (k + 1) with | mk d =>
  rw [hx] at e
  congr 1
  exact Array.toList_inj.1 (by simpa using e)

theorem words_step (l : List UInt8) (k : Nat) (h : k < l.length) (cur : List UInt8) : words cur (l.drop k) = if l[k] = 32 then cur :: words [] (l.drop (k + 1)) else words (cur ++ [l[k]]) (l.drop (k + 1)) := by
  rw [List.drop_eq_getElem_cons h, words]

set_option maxRecDepth 100000 in
set_option maxHeartbeats 2000000 in
theorem rwords_any (s : ByteArray) (hs : s.size ≤ 1048576) (w : World) :
    Calls Tryd.prog 41 #[.string s] w fun e w' => (∃ v, e = .returned v ∧ w'.ownsRow w.heap.size 9 1 v (words [] s.data.toList).length (strs (words [] s.data.toList))) ∧ Below w.heap.size w w' := by
  obtain ⟨i0, hi0, hz0, hz1, hz2⟩ := info_parts info_string
  have WS := Lib.hid (words_step s.data.toList)
  have hsl : s.data.toList.length = s.size := Array.length_toList
  have HSL := Lib.hid hsl
  obtain ⟨R, hR⟩ : ∃ R, words [] s.data.toList = R := ⟨_, rfl⟩
  have HR := Lib.hid hR
  rw [hR]
  clear hR hsl
  go_enter Tryd.func41, Tryd.ntmps41
  go_wp2_with fail
  go_loopw [3, 4] (fun v i wr => ∃ (k : Nat) (d : List (List UInt8)) (c : List UInt8), k ≤ s.size ∧ i = .int .i64 (k : Int) ∧ wr.ownsRow w.heap.size 9 1 v (d.length + 1) (strs (d ++ [c])) ∧ d.length ≤ k ∧ c.length ≤ k ∧ R = d ++ words c (s.data.toList.drop k) ∧ Below w.heap.size w wr) (fun _ i _ => s.size - (intOf i).toNat)
  case atStart =>
    exact ⟨0, [], [], Nat.zero_le _, rfl, World.ownsRow_lit w #[.string ⟨#[]⟩] 1 (Nat.le_refl _) (by decide) rfl, Nat.le_refl _, Nat.le_refl _, by rw [← HR.out]; rfl, (Below.refl _ _).alloc (Nat.le_refl _) _⟩
  case round =>
    obtain ⟨k, d, c, hk, rfl, hrow, hd, hcl, hRk, hw⟩ := hrel
    have hsz := hw.size
    obtain ⟨g, cap, rfl⟩ := ownsRow_succ hrow
    have HRK := Lib.hid hRk
    clear hRk
    by_cases h1 : k < s.size
    · have hkl : k < s.data.toList.length := by rw [HSL.out]; exact h1
      have hks : (k : Int) < (s.size : Int) := by omega
      have hst := WS.out k hkl c
      have hb : s.data.toList[k] = s[k] := by simp; rfl
      rw [hb] at hst
      have HST := Lib.hid hst
      clear hst hb
      by_cases hc : s[k] = 32
      · have hbt : ((s[k].toNat : Int) == 32) = true := by rw [hc]; rfl
        have hst := HST.out
        rw [if_pos hc] at hst
        have HST2 := Lib.hid hst
        clear hst HST hc
        go_wp2_with (at_builtin; refine wpList_append_own _ rfl _ _ 59 rfl w.heap.size 9 i0 (.string ⟨#[]⟩) 1 16 Tryd.underlying59 hi0 hz0 hz1 hz2 rfl (by decide) _ _ _ rfl (hrow.alloc _) ⟨wr.heap.size, 0, none⟩ 1 1 [.string ⟨#[]⟩] rfl rfl (cell_one_new _ _ _) (by simp [Value.oneCell']) (by unfold maxLen; omega) (by omega) (by simp; omega) ?_; intro v' w6 hown' hgrow _)
        have hb6 := grown_below (by omega) hrow hgrow
        go_roundw
        case rel => exact ⟨k + 1, d ++ [c], [], by omega, by go_num, by simpa [strs] using hown', by simp; omega, by simp, by rw [HRK.out, HST2.out]; simp, hw.trans hb6⟩
        case measure => simp [intOf]; omega
      · have hbt : ((s[k].toNat : Int) == 32) = false := by
          rw [beq_eq_false_iff_ne]
          intro e
          exact hc (UInt8.toNat_inj.1 (by show s[k].toNat = 32; omega))
        have hst := HST.out
        rw [if_neg hc] at hst
        have HST2 := Lib.hid hst
        have hcell : wr.cell? ⟨g, d.length, none⟩ = some (.string ⟨c.toArray⟩) := by
          rw [hrow.cellAt d.length (by omega)]; exact strs_last d c
        have hfr := hrow.frozenAt d.length
        have hsto := hrow.drew.stored d.length (.string ⟨(c ++ [s[k]]).toArray⟩)
        rw [strs_set] at hsto
        have HSTO := Lib.hid hsto
        obtain ⟨E, hE⟩ : ∃ E, s.extract k (k + 1) = E := ⟨_, rfl⟩
        have hE2 := hE
        obtain ⟨C, hC⟩ : ∃ C : ByteArray, C = ⟨c.toArray⟩ := ⟨_, rfl⟩
        have hCE : C ++ E = ⟨(c ++ [s[k]]).toArray⟩ := by rw [← hE, extract_one s k h1, hC, bytes_snoc]
        have hCs : C.size ≤ s.size := by rw [hC]; show c.toArray.size ≤ _; rw [List.size_toArray]; omega
        have hEs : E.size ≤ 1 := by rw [← hE, extract_one s k h1]; exact Nat.le_refl _
        rw [← hC] at hcell
        have hsum : C.size + E.size ≤ 9223372036854775807 := by omega
        have hnl : (9223372036854775807 < C.size + E.size) = False := eq_false (by omega)
        have HCE := Lib.hid hCE
        have hwk : IntKind.i64.wrap ((k : Int) + 1) = (k : Int) + 1 := by rw [IntKind.wrap_i64]; omega
        have hwm : IntKind.i64.wrap (d.length : Int) = (d.length : Int) := by rw [IntKind.wrap_i64]; omega
        have hcell2 : ({ heap := wr.heap, tape := wr.tape, drawn := wr.drawn + 1, os := wr.os, output := wr.output } : World).cell? ⟨g, d.length, none⟩ = some (.string C) := hcell
        have hs1 : (k : Int) + 1 ≤ (s.size : Int) := by omega
        have hs2 : (0 : Int) ≤ (k : Int) + 1 := by omega
        have hs3 : ((k : Int) + 1).toNat = k + 1 := by omega
        have hs4 : (k : Int) ≤ (k : Int) + 1 := by omega
        have hd0 : (d.length : Int) < (d.length : Int) + 1 := by omega
        clear hst HST hc hsto hCE hC
        go_wp2_with fail
        go_still_tail 17, (by kernel_rfl)
        have hsto := HSTO.out
        have hgl := (hrow.lt g rfl).1
        have hfr2 : wr.drew.frozen? ⟨g, d.length, none⟩ = false := hfr
        go_wp2
        go_roundw
        case rel => exact ⟨k + 1, d, c ++ [s[k]], by omega, by go_num, by rw [HCE.out]; exact hsto.1, by omega, by simp; omega, by rw [HRK.out, HST2.out], (hw.drew).setCell (p := ⟨g, d.length, none⟩) hgl _⟩
        case measure => simp [intOf]; omega
    · obtain rfl : k = s.size := by omega
      have hend : words c (s.data.toList.drop s.size) = [c] := by rw [← HSL.out, List.drop_length]; rfl
      have HE := Lib.hid hend
      clear hend
      go_wp2
      go_ret
      refine ⟨⟨_, rfl, ?_⟩, hw⟩
      rw [HRK.out, HE.out]
      simpa using hrow
end Go.Proofs.YtibdnfcbgcbdeaaDoor
