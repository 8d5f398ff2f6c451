/- The name of a note, and the iterator's maker. -/
import Derived.Test.YtibdnfcbgcbdeaaDoorNsC
import Derived.Lib.ItoaNum
import Derived.Lib.AppendIntMem
namespace Go.Proofs.YtibdnfcbgcbdeaaDoor
open Go Go.RowKit Go.Shelf

/-- The bytes of a note's name. -/
def letterOf (r : Nat) : ByteArray := letters.getD r ⟨#[]⟩
def octave (q : Nat) : List UInt8 := if q = 0 then [45, 49] else Lib.decDigits (q - 1)
def nameOf (n : Nat) : ByteArray := letterOf (n % 12) ++ ⟨(octave (n / 12)).toArray⟩

theorem members_any (lo hi : Nat) (w : World) :
    Calls Tryd.prog 52 #[.agg #[.int .u64 lo, .int .u64 hi]] w fun e w' => e = .returned (.func (.func 60) #[] #[.pointer (some ⟨w.heap.size, 0, none⟩)]) ∧ w' = w.alloc (.cells #[.int .u64 lo, .int .u64 hi] 34) := by
  go_enter Tryd.func52, Tryd.ntmps52
  go_wp2
  go_ret
  exact ⟨rfl, rfl⟩

theorem itoa_small (i : Nat) (hi : i < 100) (w : World) : Calls Tryd.prog 44 #[.int .i64 i] w fun e w' => e = .returned (.string ⟨(Lib.decDigits i).toArray⟩) ∧ w = w' :=
  (Any.strconv_Itoa_small Tryd.lays171 i hi w).mono fun _ _ ⟨a, b⟩ => ⟨a, b.symm⟩

set_option maxHeartbeats 1000000 in
theorem name_high (n : Nat) (h0 : 12 ≤ n) (h : n < 128) (w : World) (G : Gl w) :
    Calls Tryd.prog 14 #[.int .i64 n] w fun e w' => e = .returned (.tuple #[.string (nameOf n), .int .i64 0]) ∧ ∃ k, w' = w.drewN k := by
  have v : ∀ W, Calls Tryd.prog 43 #[.int .i64 n] W fun e w' => e = .returned (.bool true) ∧ W = w' := fun W => by
    have := valid_any n W
    rwa [show validB n = true by simp [validB]; omega] at this
  obtain ⟨r, hr⟩ : ∃ r, n % 12 = r := ⟨_, rfl⟩
  obtain ⟨q, hq⟩ : ∃ q, n / 12 = q + 1 := ⟨n / 12 - 1, by omega⟩
  have e : nameOf n = letterOf r ++ ⟨(Lib.decDigits q).toArray⟩ := by
    unfold nameOf octave; rw [hr, hq, if_neg (by omega)]; rfl
  rw [e]
  clear e
  have hrl : r < 12 := by omega
  have hc : w.cell? ⟨0, r, none⟩ = some (.string (letterOf r)) := G.names r _ (by
    unfold letterOf
    rw [List.getElem?_eq_getElem (by simpa [letters] using hrl), List.getD_eq_getElem?_getD, List.getElem?_eq_getElem (by simpa [letters] using hrl)]; rfl)
  have e1 : (n : Int).tmod 12 = (r : Int) := by rw [Int.tmod_eq_emod_of_nonneg (by omega)]; omega
  have e2 : (n : Int).tdiv 12 = (q : Int) + 1 := by rw [Int.tdiv_eq_ediv_of_nonneg (by omega)]; omega
  have e3 : IntKind.i64.wrap ((q : Int) + 1 - 1) = (q : Int) := by rw [IntKind.wrap_i64]; omega
  have e4 : IntKind.i64.wrap ((q : Int) + 1) = (q : Int) + 1 := by rw [IntKind.wrap_i64]; omega
  have e5 : IntKind.i64.wrap (q : Int) = (q : Int) := by rw [IntKind.wrap_i64]; omega
  have e6 : IntKind.i64.wrap (r : Int) = (r : Int) := by rw [IntKind.wrap_i64]; omega
  have hq9 : q < 10 := by omega
  have hr0 : (r : Int) < 12 := by omega
  have I := Lib.hid (fun W => itoa_small q (by omega) W)
  clear hr hq
  obtain ⟨L, hL⟩ : ∃ L, letterOf r = L := ⟨_, rfl⟩
  obtain ⟨D, hD⟩ : ∃ D : ByteArray, (⟨(Lib.decDigits q).toArray⟩ : ByteArray) = D := ⟨_, rfl⟩
  have hLs : L.size ≤ 2 := by
    rw [← hL]
    have : ∀ r, r < 12 → (letterOf r).size ≤ 2 := by decide
    exact this r hrl
  have hDs : D.size ≤ 1 := by
    rw [← hD]
    have : ∀ q, q < 10 → (⟨(Lib.decDigits q).toArray⟩ : ByteArray).size ≤ 1 := by decide +kernel
    exact this q hq9
  rw [hL, hD]
  rw [hL] at hc
  rw [hD] at I
  clear hL hD
  go_enter Tryd.func14, Tryd.ntmps14
  go_wp2_with (first | (go_at_call 43; refine (v _).mono ?_; rintro e w' ⟨rfl, rfl⟩) | go_in)
  go_quiet ((go_at_call 44; exact still_here (I.out _)))
  go_wp2
  go_ret2
  exact ⟨rfl, _, rfl⟩

theorem itoa_neg (w : World) (G : Gl w) : Calls Tryd.prog 44 #[.int .i64 (-1)] w fun e w' => e = .returned (.string ⟨#[45, 49]⟩) ∧ Below w.heap.size w w' :=
  (Any.strconv_Itoa Tryd.laysM171 (-1) (by decide) (by decide) w G.p10).mono fun e w' ⟨a, k, os, b⟩ => ⟨a.trans (by rw [show (⟨(Lib.itoa (-1)).toArray⟩ : ByteArray) = ⟨#[45, 49]⟩ by decide +kernel]), b ▸ Lib.below_grow _ w (Nat.le_refl _) k os⟩

set_option maxHeartbeats 1000000 in
theorem name_low (n : Nat) (h : n < 12) (w : World) (G : Gl w) :
    Calls Tryd.prog 14 #[.int .i64 n] w fun e w' => e = .returned (.tuple #[.string (nameOf n), .int .i64 0]) ∧ Below w.heap.size w w' := by
  have v : ∀ W, Calls Tryd.prog 43 #[.int .i64 n] W fun e w' => e = .returned (.bool true) ∧ W = w' := fun W => by
    have := valid_any n W
    rwa [show validB n = true by simp [validB]; omega] at this
  have e : nameOf n = letterOf n ++ ⟨#[45, 49]⟩ := by
    unfold nameOf octave; rw [show n % 12 = n by omega, show n / 12 = 0 by omega, if_pos rfl]
  rw [e]
  clear e
  have hb : 0 < w.heap.size := by have := G.size; omega
  have hc : w.cell? ⟨0, n, none⟩ = some (.string (letterOf n)) := G.names n _ (by
    unfold letterOf
    rw [List.getElem?_eq_getElem (by simpa [letters] using h), List.getD_eq_getElem?_getD, List.getElem?_eq_getElem (by simpa [letters] using h)]; rfl)
  have e1 : (n : Int).tmod 12 = (n : Int) := by rw [Int.tmod_eq_emod_of_nonneg (by omega)]; omega
  have e2 : (n : Int).tdiv 12 = 0 := by rw [Int.tdiv_eq_ediv_of_nonneg (by omega)]; omega
  have e6 : IntKind.i64.wrap (n : Int) = (n : Int) := by rw [IntKind.wrap_i64]; omega
  have hr0 : (n : Int) < 12 := by omega
  have I := Lib.hid (fun W g => itoa_neg W g)
  obtain ⟨L, hL⟩ : ∃ L, letterOf n = L := ⟨_, rfl⟩
  have hLs : L.size ≤ 2 := by
    rw [← hL]
    have : ∀ r, r < 12 → (letterOf r).size ≤ 2 := by decide
    exact this n h
  rw [hL] at hc ⊢
  clear hL
  go_enter Tryd.func14, Tryd.ntmps14
  go_wp2_with (first | (go_at_call 43; refine (v _).mono ?_; rintro e w' ⟨rfl, rfl⟩) | go_in)
  go_region_with ((go_at_call 44; refine (I.out _ (G.below ((Below.refl _ _).drew))).mono ?_; rintro e w2 ⟨rfl, hb2⟩; have c2 := (bcell hb2).1 0 n hb))
  all_goals
    go_wp2
    go_ret2
    exact ⟨rfl, ((Below.refl _ _).drew).trans hb2⟩
end Go.Proofs.YtibdnfcbgcbdeaaDoor
