/- NotesetTexts: the law's walk. -/
import Derived.Test.YtibdnfcbgcbdeaaDoorNsPa
import Derived.Test.YtibdnfcbgcbdeaaDoorNsRt
namespace Go.Proofs.YtibdnfcbgcbdeaaDoor
open Go Go.RowKit Go.Shelf

theorem name_some : ∀ n, n < 128 → (nameOf n).size ≠ 0 := by decide +kernel
theorem text_size (lo hi : Nat) : (textOf lo hi).size ≤ 640 := by
  rw [← textK_all]
  have := textK_size (Ns.notes lo hi) (fun n hn => Ns.notes_lt hn) (Ns.notes lo hi).length
  have := Ns.notes_length lo hi
  omega
theorem text_some (lo hi : Nat) (h : Ns.notes lo hi ≠ []) : (textOf lo hi).size ≠ 0 := by
  intro e
  have h2 := wordsB_text lo hi h
  rw [bytes_nil e] at h2
  cases hl : Ns.notes lo hi with
  | nil => exact h hl
  | cons n r =>
    rw [hl, List.map_cons] at h2
    have h3 : (wordsB ⟨#[]⟩).head? = some (⟨#[]⟩ : ByteArray) := rfl
    rw [h2, List.head?_cons] at h3
    have h4 := name_some n (Ns.notes_lt (lo := lo) (hi := hi) (by rw [hl]; exact List.mem_cons_self ..))
    rw [Option.some.inj h3] at h4
    exact h4 rfl
theorem notes_empty (lo hi : Nat) (hl : lo < 18446744073709551616) (hh : hi < 18446744073709551616) (h : Ns.notes lo hi = []) : lo = 0 ∧ hi = 0 := by
  have := parse_text lo hi hl hh
  rw [h] at this
  have e : parseL 0 0 (([] : List Nat).map nameOf) = (0, 0, 0) := rfl
  rw [e] at this
  cases this
  exact ⟨rfl, rfl⟩

/-- Parse takes back what Text writes. -/
theorem parse_back (lo hi : Nat) (hl : lo < 18446744073709551616) (hh : hi < 18446744073709551616) (w : World) (G : Gl w) :
    Calls Tryd.prog 39 #[.string (textOf lo hi)] w fun e w' => e = .returned (.tuple #[.agg #[.int .u64 (lo : Nat), .int .u64 (hi : Nat)], .int .i64 0]) ∧ Below w.heap.size w w' := by
  by_cases h : Ns.notes lo hi = []
  · obtain ⟨rfl, rfl⟩ := notes_empty lo hi hl hh h
    have e : textOf 0 0 = ⟨#[]⟩ := by unfold textOf; rw [Ns.notes_nil]; rfl
    rw [e]
    exact parse_nil w
  · have h1 := text_size lo hi
    have p := parse_some (textOf lo hi) (text_some lo hi h) (by omega) w G
    rw [wordsB_text lo hi h, parse_text lo hi hl hh] at p
    exact p

set_option maxRecDepth 100000 in
set_option maxHeartbeats 2000000 in
theorem texts_walk (a b : Int) (w : World) (G : Gl w) (h1 : 0 ≤ a) (h2 : a ≤ 18446744073709551615) (h3 : 0 ≤ b) (h4 : b ≤ 18446744073709551615) :
    Calls Tryd.prog 9 #[.agg #[.int .u64 a, .int .u64 b]] w fun e w' => e = .returned (.bool true) ∧ Below w.heap.size w w' := by
  obtain ⟨lo, rfl⟩ : ∃ lo : Nat, a = lo := ⟨a.toNat, by omega⟩
  obtain ⟨hi, rfl⟩ : ∃ hi : Nat, b = hi := ⟨b.toNat, by omega⟩
  have hl : lo < 18446744073709551616 := by omega
  have hh : hi < 18446744073709551616 := by omega
  have TX := Lib.hid (fun W g => text_any lo hi hl hh W g)
  have RT := Lib.hid (fun W => rtext_any lo hi hl hh W)
  have PB := Lib.hid (fun W g => parse_back lo hi hl hh W g)
  generalize textOf lo hi = T at *
  have b0 : Below w.heap.size w (w.alloc (.cells #[.int .u64 lo, .int .u64 hi] 34)) := (Below.refl _ _).alloc (Nat.le_refl _) _
  have s0 : SetAt (w.alloc (.cells #[.int .u64 lo, .int .u64 hi] 34)) w.heap.size lo hi := SetAt.new w lo hi
  have B0 := Lib.hid b0
  have S0 := Lib.hid s0
  have GG := Lib.hid (show ∀ W : World, Below w.heap.size w W → Gl W from fun W h => G.below h)
  have K := Lib.hid (known_any (w.alloc (.cells #[.int .u64 lo, .int .u64 hi] 34)) (G.below b0))
  clear b0 s0 G h1 h2 h3 h4 hl hh
  go_enter Tryd.func9, Tryd.ntmps9
  go_wp2_with fail
  refine K.out.mono ?_
  rintro e w1 ⟨rfl, hb1⟩
  have s1 : SetAt w1 w.heap.size lo hi := S0.out.below (by simp) hb1
  have bb1 : Below w.heap.size w w1 := B0.out.trans (hb1.mono (by simp))
  have c0 := s1.fst
  have c1 := s1.snd
  go_wp2_with fail
  refine (TX.out _ (GG.out _ bb1)).mono ?_
  rintro e w2 ⟨rfl, hb2⟩
  have s2 := s1.below s1.lt hb2
  have bb2 := bb1.trans (hb2.mono bb1.size)
  have d0 := s2.fst
  have d1 := s2.snd
  clear c0 c1
  go_wp2_with fail
  refine (PB.out _ (GG.out _ bb2)).mono ?_
  rintro e w3 ⟨rfl, hb3⟩
  have s3 := s2.below s2.lt hb3
  have bb3 := bb2.trans (hb3.mono bb2.size)
  have s4 : SetAt (w3.alloc (.cells #[.int .u64 lo, .int .u64 hi] 34)) w.heap.size lo hi := s3.below s3.lt ((Below.refl _ _).alloc (Nat.le_refl _) _)
  have s5 : SetAt (w3.alloc (.cells #[.int .u64 lo, .int .u64 hi] 34)) w3.heap.size lo hi := SetAt.new w3 lo hi
  have e0 := s3.fst
  have e1 := s3.snd
  have e2 := s3.lt
  have bb4 := bb3.alloc bb3.size (.cells #[.int .u64 lo, .int .u64 hi] 34)
  clear d0 d1
  have S4 := Lib.hid s4
  have S5 := Lib.hid s5
  have BB4 := Lib.hid bb4
  clear s4 s5 bb4 s1 s2 hb1 hb2 hb3 bb1 bb2 bb3
  go_wp2_with fail
  refine (RT.out _).mono ?_
  rintro e w5 ⟨rfl, hb5⟩
  have s6 := S4.out.below S4.out.lt hb5
  have s7 := S5.out.below S5.out.lt hb5
  have f0 := s6.fst
  have f1 := s6.snd
  have f2 := s7.fst
  have f3 := s7.snd
  have hfin := BB4.out.trans (hb5.mono BB4.out.size)
  clear S4 S5 s6 s7 e0 e1 e2 s3
  go_wp2
  all_goals
    go_ret
    exact ⟨rfl, hfin⟩
end Go.Proofs.YtibdnfcbgcbdeaaDoor
