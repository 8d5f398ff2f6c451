/- Names: Name out of range, the reference's Letters, Name and Note. -/
import Derived.Test.YtibdnfcbgcbdeaaDoorNsO
import Derived.Laws.IdiomStrings
namespace Go.Proofs.YtibdnfcbgcbdeaaDoor
open Go Go.RowKit Go.Shelf

theorem name_bad (n : Int) (h : n < 0 ∨ 127 < n) (w : World) :
    Calls Tryd.prog 14 #[.int .i64 n] w fun e w' => e = .returned (.tuple #[.string ⟨#[]⟩, .int .i64 3]) ∧ w = w' := by
  have v : ∀ W, Calls Tryd.prog 43 #[.int .i64 n] W fun e w' => e = .returned (.bool false) ∧ W = w' := fun W => by
    have := valid_any n W
    rwa [show validB n = false by simp [validB]; omega] at this
  go_enter Tryd.func14, Tryd.ntmps14
  go_wp2_with (first | (go_at_call 43; refine (v _).mono ?_; rintro e w' ⟨rfl, rfl⟩) | go_in)
  go_ret2
  exact ⟨rfl, rfl⟩

def lettersObj : Obj := .cells #[.string ⟨#[67]⟩, .string ⟨#[67, 35]⟩, .string ⟨#[68]⟩, .string ⟨#[68, 35]⟩, .string ⟨#[69]⟩, .string ⟨#[70]⟩, .string ⟨#[70, 35]⟩, .string ⟨#[71]⟩, .string ⟨#[71, 35]⟩, .string ⟨#[65]⟩, .string ⟨#[65, 35]⟩, .string ⟨#[66]⟩] 9

theorem letters_any (w : World) :
    Calls Tryd.prog 47 #[] w fun e w' => e = .returned (.slice (some ⟨w.heap.size, 0, none⟩) 12 12) ∧ w' = w.alloc lettersObj := by
  go_enter Tryd.func47, Tryd.ntmps47
  go_wp2
  go_ret
  exact ⟨rfl, rfl⟩

/-- .. with what is read of it. -/
theorem letters_at (r : Nat) (hr : r < 12) (w : World) :
    Calls Tryd.prog 47 #[] w fun e w' => ∃ b, e = .returned (.slice (some ⟨b, 0, none⟩) 12 12) ∧ w'.cell? ⟨b, r, none⟩ = some (.string (letterOf r)) ∧ b < w'.heap.size ∧ Below w.heap.size w w' :=
  (letters_any w).mono fun e w' ⟨he, hw⟩ => ⟨w.heap.size, he, by
    rw [hw]
    have : ∀ r, r < 12 → (match lettersObj with | .cells c _ _ => c[r]? | _ => none) = some (.string (letterOf r)) := by
      intro r hr
      obtain rfl | rfl | rfl | rfl | rfl | rfl | rfl | rfl | rfl | rfl | rfl | rfl : r = 0 ∨ r = 1 ∨ r = 2 ∨ r = 3 ∨ r = 4 ∨ r = 5 ∨ r = 6 ∨ r = 7 ∨ r = 8 ∨ r = 9 ∨ r = 10 ∨ r = 11 := by omega
      all_goals rfl
    have h := this r hr
    simp only [World.cell?, World.alloc_heap_new]
    exact h, by rw [hw]; simp, by rw [hw]; exact (Below.refl _ _).alloc (Nat.le_refl _) _⟩

set_option maxHeartbeats 1000000 in
theorem rname_low (n : Nat) (h : n < 12) (w : World) :
    Calls Tryd.prog 16 #[.int .i64 n] w fun e w' => e = .returned (.string (nameOf n)) ∧ Below w.heap.size w w' := by
  have e : nameOf n = letterOf n ++ ⟨#[45, 49]⟩ := by
    unfold nameOf octave; rw [show n % 12 = n by omega, show n / 12 = 0 by omega, if_pos rfl]
  rw [e]
  clear e
  have L0 := Lib.hid (fun W => letters_at n h W)
  obtain ⟨L, hL⟩ : ∃ L, letterOf n = L := ⟨_, rfl⟩
  have hLs : L.size ≤ 2 := by
    rw [← hL]
    have : ∀ r, r < 12 → (letterOf r).size ≤ 2 := by decide
    exact this n h
  rw [hL] at L0 ⊢
  clear hL
  have e1 : (n : Int).tmod 12 = (n : Int) := by rw [Int.tmod_eq_emod_of_nonneg (by omega)]; omega
  have e2 : (n : Int).tdiv 12 = 0 := by rw [Int.tdiv_eq_ediv_of_nonneg (by omega)]; omega
  have e3 : (n : Int) / 12 = 0 := by omega
  have e4 : (n : Int) % 12 = (n : Int) := by omega
  have hn12 : (n : Int) < 12 := by omega
  go_enter Tryd.func16, Tryd.ntmps16
  go_wp2_with fail
  refine (L0.out _).mono ?_
  rintro e w1 ⟨b, rfl, hc, _, hb1⟩
  go_wp2
  go_ret
  exact ⟨rfl, hb1⟩

set_option maxRecDepth 100000 in
set_option maxHeartbeats 2000000 in
theorem rname_high (n : Nat) (h0 : 12 ≤ n) (h : n < 128) (w : World) :
    Calls Tryd.prog 16 #[.int .i64 n] w fun e w' => e = .returned (.string (nameOf n)) ∧ Below w.heap.size w w' := by
  obtain ⟨r, hr⟩ : ∃ r, n % 12 = r := ⟨_, rfl⟩
  obtain ⟨q, hq⟩ : ∃ q, n / 12 = q + 1 := ⟨n / 12 - 1, by omega⟩
  have hrl : r < 12 := by omega
  have hq9 : q < 10 := by omega
  have e : nameOf n = letterOf r ++ ⟨#[(48 + q).toUInt8]⟩ := by
    unfold nameOf octave
    rw [hr, hq, if_neg (by omega)]
    have : ∀ q, q < 10 → (⟨(Lib.decDigits (q + 1 - 1)).toArray⟩ : ByteArray) = ⟨#[(48 + q).toUInt8]⟩ := by decide +kernel
    rw [this q hq9]
  rw [e]
  clear e
  have L0 := Lib.hid (fun W => letters_at r hrl W)
  obtain ⟨L, hL⟩ : ∃ L, letterOf r = L := ⟨_, rfl⟩
  have hLs : L.size ≤ 2 := by
    rw [← hL]
    have : ∀ r, r < 12 → (letterOf r).size ≤ 2 := by decide
    exact this r hrl
  rw [hL] at L0 ⊢
  clear hL
  have e1 : (n : Int).tmod 12 = (r : Int) := by rw [Int.tmod_eq_emod_of_nonneg (by omega)]; omega
  have e2 : (n : Int).tdiv 12 = (q : Int) + 1 := by rw [Int.tdiv_eq_ediv_of_nonneg (by omega)]; omega
  have e5 : (n : Int) / 12 = (q : Int) + 1 := by omega
  have e7 : IntKind.i64.wrap ((q : Int) + 1 - 1) = (q : Int) := by rw [IntKind.wrap_i64]; omega
  have e8 : IntKind.i64.wrap ((q : Int) + 1) = (q : Int) + 1 := by rw [IntKind.wrap_i64]; omega
  have e9 : IntKind.i64.wrap (q : Int) = (q : Int) := by rw [IntKind.wrap_i64]; omega
  have e10 : IntKind.u8.wrap (q : Int) = (q : Int) := by rw [IntKind.wrap_u8]; omega
  have e11 : IntKind.u8.wrap (48 + (q : Int)) = 48 + (q : Int) := by rw [IntKind.wrap_u8]; omega
  have e6 : IntKind.i64.wrap (r : Int) = (r : Int) := by rw [IntKind.wrap_i64]; omega
  have hr12 : (r : Int) < 12 := by omega
  obtain ⟨D, hD⟩ : ∃ D : ByteArray, (⟨#[(48 + q).toUInt8]⟩ : ByteArray) = D := ⟨_, rfl⟩
  have hDs : D.size ≤ 1 := by rw [← hD]; exact Nat.le_refl _
  have cv : ∀ (W : World) (g : Nat), W.cell? ⟨g, 0, none⟩ = some (.int .u8 (48 + (q : Int))) → Sem.run Tryd.prog (convert 58 9 (.slice (some ⟨g, 0, none⟩) 1 1)) W = .ok (.string D) W := fun W g hg => by
    have h := run_convert_bytes_back (P := Tryd.prog) W 58 9 5 ⟨g, 0, none⟩ 1 [(48 + q).toUInt8] Tryd.underlying58 Tryd.underlying5 Tryd.underlying9 (fun j hj => by
      obtain rfl : j = 0 := by simpa using hj
      have hq2 : ((48 + q).toUInt8).toNat = 48 + q := by simp; omega
      show W.cell? ⟨g, 0, none⟩ = _
      rw [hg]
      simp only [List.getElem_cons_zero]
      rw [hq2]
      simp)
    rw [← hD]
    exact h
  rw [hD]
  clear hr hq hD
  have hp : ∀ o, w.heap.size < (w.alloc o).heap.size := fun o => by simp
  go_enter Tryd.func16, Tryd.ntmps16
  go_wp2_with fail
  go_region_with ((go_at_call 47; refine (L0.out _).mono ?_; rintro e w1 ⟨b, rfl, hc, hbl, hb1⟩; have hc2 := (fun o => (((Below.refl w1.heap.size w1).alloc (Nat.le_refl _) o).cell (p := ⟨b, r, none⟩) hbl).trans hc); (try (have c8 := (bcell hb1).1 w.heap.size 0 (hp _); simp at c8))))
  all_goals
    go_wp2
    go_ret
    first
    | exact ⟨rfl, ((Below.refl w.heap.size w).drew.trans hb1).alloc hb1.size _⟩
    | exact ⟨rfl, ((Below.refl _ _).alloc (Nat.le_refl _) _).drew.trans (hb1.mono (by simp))⟩
end Go.Proofs.YtibdnfcbgcbdeaaDoor
