/- The reference's Text: the names of a set's notes, joined by blanks. -/
import Derived.Test.YtibdnfcbgcbdeaaDoorNsZd
import Derived.Test.YtibdnfcbgcbdeaaDoorNsY
namespace Go.Proofs.YtibdnfcbgcbdeaaDoor
open Go Go.RowKit Go.Shelf

/-- The first k names, joined. -/
def textK (l : List Nat) (k : Nat) : ByteArray := ⟨(Lib.join ((l.take k).map fun n => (nameOf n).data.toList) [32]).toArray⟩
theorem textK_zero (l : List Nat) : textK l 0 = ⟨#[]⟩ := rfl
theorem textK_all (lo hi : Nat) : textK (Ns.notes lo hi) (Ns.notes lo hi).length = textOf lo hi := by
  unfold textK textOf; rw [List.take_length]
theorem textK_one (l : List Nat) (h : 0 < l.length) : textK l 1 = textK l 0 ++ nameOf (l.getD 0 0) := by
  cases l with
  | nil => cases h
  | cons a r =>
    unfold textK
    simp only [List.take_succ_cons, List.take_zero, List.map_cons, List.map_nil, Lib.join_one, Lib.join_nil, List.getD_cons_zero]
    apply ByteArray.ext
    simp
theorem bytes_ext {a b : ByteArray} (h : a.data.toList = b.data.toList) : a = b := by
  cases a; cases b; exact congrArg ByteArray.mk (Array.toList_inj.1 h)
theorem textK_succ (l : List Nat) (k : Nat) (h0 : 0 < k) (h : k < l.length) : textK l (k + 1) = textK l k ++ ⟨#[32]⟩ ++ nameOf (l.getD k 0) := by
  cases l with
  | nil => cases h
  | cons a r =>
    obtain ⟨j, rfl⟩ : ∃ j, k = j + 1 := ⟨k - 1, by omega⟩
    have hj : j < r.length := by simpa using h
    apply bytes_ext
    unfold textK
    rw [List.take_succ_cons, List.take_succ_cons, List.map_cons, List.map_cons, Lib.join_cons, Lib.join_cons, List.map_take, List.map_take,
      Lib.joinTail_take_succ [32] (r.map fun n => (nameOf n).data.toList) j (nameOf r[j]).data.toList (by simp [hj])]
    simp [hj]
theorem textK_size (l : List Nat) (hl : ∀ n, n ∈ l → n < 128) (k : Nat) : (textK l k).size ≤ 5 * k := by
  have h := join_le ((l.take k).map nameOf) (fun y hy => by
    obtain ⟨n, hn, rfl⟩ := List.mem_map.1 hy
    exact nameOf_size n (hl n (List.mem_of_mem_take hn)))
  rw [List.map_map] at h
  have h2 : (textK l k).size = (Lib.join ((l.take k).map fun n => (nameOf n).data.toList) [32]).length := by unfold textK; simp [ByteArray.size]
  rw [h2]
  refine Nat.le_trans h ?_
  simp
  omega

set_option maxRecDepth 100000 in
set_option maxHeartbeats 2000000 in
theorem rtext_any (lo hi : Nat) (hl : lo < 18446744073709551616) (hh : hi < 18446744073709551616) (w : World) :
    Calls Tryd.prog 40 #[.agg #[.int .u64 lo, .int .u64 hi]] w fun e w' => e = .returned (.string (textOf lo hi)) ∧ Below w.heap.size w w' := by
  have hLI : ∀ W : World, Calls Tryd.prog 24 #[.agg #[.int .u64 lo, .int .u64 hi]] W fun e w' => (∃ v, e = .returned v ∧ RowAt w' v (Ns.notes lo hi).length (nth (Ns.notes lo hi))) ∧ Below W.heap.size W w' :=
    fun W => (list_any lo hi hl hh W).mono fun _ _ ⟨⟨v, h1, h2⟩, h3⟩ => ⟨⟨v, h1, rowAt_of h2⟩, h3⟩
  have hN := Ns.notes_length lo hi
  rw [← textK_all]
  have t0 := textK_zero (Ns.notes lo hi)
  have t1 := textK_one (Ns.notes lo hi)
  have ts := textK_succ (Ns.notes lo hi)
  have tz := textK_size (Ns.notes lo hi) (fun n hn => Ns.notes_lt hn)
  have hlt : ∀ k, k < (Ns.notes lo hi).length → (Ns.notes lo hi).getD k 0 < 128 := fun k hk => by
    rw [List.getD_eq_getElem?_getD, List.getElem?_eq_getElem hk]
    exact Ns.notes_lt (List.getElem_mem hk)
  unfold nth at hLI
  generalize Ns.notes lo hi = l at *
  obtain ⟨T, hT⟩ : ∃ T, textK l = T := ⟨_, rfl⟩
  obtain ⟨x, hx⟩ : ∃ x : Nat → Nat, (fun k => l.getD k 0) = x := ⟨_, rfl⟩
  have hx' : ∀ k, l.getD k 0 = x k := fun k => congrFun hx k
  simp only [hx'] at hLI t1 ts hlt
  rw [hT] at t0 t1 ts tz ⊢
  generalize l.length = N at *
  have LI := Lib.hid hLI
  have T0 := Lib.hid t0
  have T1 := Lib.hid t1
  have TS := Lib.hid ts
  have TZ := Lib.hid tz
  have XL := Lib.hid hlt
  clear hLI t0 t1 ts tz hlt hx hx' hT
  go_enter Tryd.func40, Tryd.ntmps40
  go_wp2_with fail
  refine (LI.out _).mono ?_
  rintro e w2 ⟨⟨v, rfl, hR⟩, hb2⟩
  obtain ⟨a, c, rfl, hop⟩ := hR.open
  have HOP := Lib.hid hop
  have hz2 := hb2.size
  simp at hz2
  clear hop hR
  go_wp2_with fail
  go_loopw [4, 5] (fun o i wr => ∃ k : Nat, k ≤ N ∧ i = .int .i64 (k : Int) ∧ o = .string (T k) ∧ Below w2.heap.size w2 wr) (fun _ i _ => N - (intOf i).toNat)
  case atStart => exact ⟨0, Nat.zero_le _, rfl, by rw [T0.out], Below.refl _ _⟩
  case round =>
    obtain ⟨k, hk, rfl, rfl, hw⟩ := hrel
    have hsz := hw.size
    by_cases h1 : k < N
    · obtain ⟨g, off, rfl, hg, hxs⟩ := HOP.out (by omega)
      have x1 : wr.cell? ⟨g, off + k, none⟩ = some (.int .i64 (x k : Nat)) := (hw.cell (p := ⟨g, off + k, none⟩) hg).trans (hxs k h1)
      have hkn : (k : Int) < (N : Int) := by omega
      have hxk := XL.out k h1
      have RN := Lib.hid (fun W => rname_any (x k) hxk W)
      have hz := TZ.out k
      have hnz := nameOf_size (x k) hxk
      have hst : T (k + 1) = if k = 0 then T k ++ nameOf (x k) else T k ++ ⟨#[32]⟩ ++ nameOf (x k) := by
        by_cases h0 : k = 0
        · subst h0; rw [if_pos rfl]; exact T1.out (by omega)
        · rw [if_neg h0]; exact TS.out k (by omega) h1
      have HST := Lib.hid hst
      generalize nameOf (x k) = nm at *
      clear hst hxs
      by_cases h0 : k = 0
      · have hk0 : ¬ (0 : Int) < (k : Int) := by omega
        have e0 : (Go.RowKit.intOf (.int .i64 (k : Int))) = k := rfl
        have hst := HST.out
        rw [if_pos h0] at hst
        have HST2 := Lib.hid hst
        clear h0 hst HST
        go_wp2_with fail
        go_wp2_with (go_at_call 16; refine (RN.out _).mono ?_; rintro e w5 ⟨rfl, hb5⟩)
        go_roundw
        case rel => exact ⟨k + 1, by omega, by go_num, by rw [HST2.out], hw.trans (hb5.mono (by omega))⟩
        case measure => simp [intOf]; omega
      · have hk0 : (0 : Int) < (k : Int) := by omega
        have hst := HST.out
        rw [if_neg h0] at hst
        have HST2 := Lib.hid hst
        clear h0 hst HST
        go_wp2_with fail
        go_wp2_with (go_at_call 16; refine (RN.out _).mono ?_; rintro e w5 ⟨rfl, hb5⟩)
        go_roundw
        case rel => exact ⟨k + 1, by omega, by go_num, by rw [HST2.out], hw.trans (hb5.mono (by omega))⟩
        case measure => simp [intOf]; omega
    · obtain rfl : k = N := by omega
      go_wp2
      go_ret
      exact ⟨rfl, ((Below.refl _ _).alloc (Nat.le_refl _) _).trans ((hb2.trans (hw.mono hb2.size)).mono (by simp))⟩
end Go.Proofs.YtibdnfcbgcbdeaaDoor
