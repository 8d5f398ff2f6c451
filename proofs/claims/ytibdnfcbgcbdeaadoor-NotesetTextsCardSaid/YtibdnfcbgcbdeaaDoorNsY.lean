/- NotesetNames: the law's walk. -/
import Derived.Test.YtibdnfcbgcbdeaaDoorNsX
import Derived.Test.YtibdnfcbgcbdeaaDoorNsH
namespace Go.Proofs.YtibdnfcbgcbdeaaDoor
open Go Go.RowKit Go.Shelf

theorem rname_any (n : Nat) (h : n < 128) (w : World) :
    Calls Tryd.prog 16 #[.int .i64 n] w fun e w' => e = .returned (.string (nameOf n)) ∧ Below w.heap.size w w' := by
  by_cases h0 : n < 12
  · exact rname_low n h0 w
  · exact rname_high n (by omega) h w

set_option maxHeartbeats 2000000 in
theorem names_walk (n : Int) (s : ByteArray) (w : World) (G : Gl w) (hmax : s.size ≤ 9223372036854775807) :
    Calls Tryd.prog 3 #[.int .i64 n, .string s] w fun e w' => e = .returned (.bool true) ∧ Below w.heap.size w w' := by
  have K := Lib.hid (known_any w G)
  have HB := Lib.hid (show ∀ W W' : World, Below w.heap.size w W → Below W.heap.size W W' → Below w.heap.size w W' from fun W W' h1 h2 => h1.trans (h2.mono h1.size))
  have GG := Lib.hid (show ∀ W : World, Below w.heap.size w W → Gl W from fun W h => G.below h)
  have HNote := note_any s hmax
  by_cases hn : n < 0 ∨ 127 < n
  · have N := Lib.hid (fun W => name_bad n hn W)
    have hd : (n < 0) ∨ (¬ n < 0 ∧ 127 < n) := by omega
    rcases HNote with ⟨k, hk, rfl, hM⟩ | ⟨hno, hM⟩
    · have M := Lib.hid hM
      have R := Lib.hid (fun W => rnote_yes k hk W)
      have hk0 : ¬ (k : Int) < 0 := by omega
      generalize nameOf k = t at *
      clear hM hn
      rcases hd with hd | ⟨hd, hd2⟩
      all_goals
        go_enter Tryd.func3, Tryd.ntmps3
        go_wp2_with fail
        refine K.out.mono ?_
        rintro e w1 ⟨rfl, hb1⟩
        go_wp2_with fail
        refine (N.out _).mono ?_
        rintro e w2 ⟨rfl, rfl⟩
        go_wp2_with fail
        refine (M.out _ (GG.out _ hb1)).mono ?_
        rintro e w2 ⟨rfl, rfl⟩
        go_wp2_with fail
        refine (R.out _).mono ?_
        rintro e w2 ⟨rfl, hb2⟩
        go_wp2
        go_ret
        exact ⟨rfl, HB.out _ _ hb1 hb2⟩
    · have M := Lib.hid hM
      have R := Lib.hid (fun W => rnote_no s hno W)
      clear hM hn hno
      rcases hd with hd | ⟨hd, hd2⟩
      all_goals
        go_enter Tryd.func3, Tryd.ntmps3
        go_wp2_with fail
        refine K.out.mono ?_
        rintro e w1 ⟨rfl, hb1⟩
        go_wp2_with fail
        refine (N.out _).mono ?_
        rintro e w2 ⟨rfl, rfl⟩
        go_wp2_with fail
        refine (M.out _ (GG.out _ hb1)).mono ?_
        rintro e w2 ⟨rfl, rfl⟩
        go_wp2_with fail
        refine (R.out _).mono ?_
        rintro e w2 ⟨rfl, hb2⟩
        go_wp2
        go_ret
        exact ⟨rfl, HB.out _ _ hb1 hb2⟩
  · obtain ⟨m, rfl⟩ : ∃ m : Nat, n = m := ⟨n.toNat, by omega⟩
    have hm : m < 128 := by omega
    have N := Lib.hid (fun W g => name_any m hm W g)
    have RN := Lib.hid (fun W => rname_any m hm W)
    have hm0 : ¬ (m : Int) < 0 := by omega
    have hm1 : ¬ 127 < (m : Int) := by omega
    clear hn
    rcases HNote with ⟨k, hk, rfl, hM⟩ | ⟨hno, hM⟩
    · have M := Lib.hid hM
      have R := Lib.hid (fun W => rnote_yes k hk W)
      have hk0 : ¬ (k : Int) < 0 := by omega
      generalize nameOf k = t at *
      generalize nameOf m = t2 at *
      clear hM
      go_enter Tryd.func3, Tryd.ntmps3
      go_wp2_with fail
      refine K.out.mono ?_
      rintro e w1 ⟨rfl, hb1⟩
      go_wp2_with fail
      refine (N.out _ (GG.out _ hb1)).mono ?_
      rintro e w2 ⟨rfl, hb2⟩
      have hb2 := HB.out _ _ hb1 hb2
      go_wp2_with fail
      refine (M.out _ (GG.out _ hb2)).mono ?_
      rintro e w3 ⟨rfl, rfl⟩
      go_wp2_with fail
      refine (RN.out _).mono ?_
      rintro e w3 ⟨rfl, hb3⟩
      have hb3 := HB.out _ _ hb2 hb3
      go_wp2_with fail
      refine (R.out _).mono ?_
      rintro e w4 ⟨rfl, hb4⟩
      go_wp2
      go_ret
      exact ⟨rfl, HB.out _ _ hb3 hb4⟩
    · have M := Lib.hid hM
      have R := Lib.hid (fun W => rnote_no s hno W)
      clear hM hno
      generalize nameOf m = t2 at *
      go_enter Tryd.func3, Tryd.ntmps3
      go_wp2_with fail
      refine K.out.mono ?_
      rintro e w1 ⟨rfl, hb1⟩
      go_wp2_with fail
      refine (N.out _ (GG.out _ hb1)).mono ?_
      rintro e w2 ⟨rfl, hb2⟩
      have hb2 := HB.out _ _ hb1 hb2
      go_wp2_with fail
      refine (M.out _ (GG.out _ hb2)).mono ?_
      rintro e w3 ⟨rfl, rfl⟩
      go_wp2_with fail
      refine (RN.out _).mono ?_
      rintro e w3 ⟨rfl, hb3⟩
      have hb3 := HB.out _ _ hb2 hb3
      go_wp2_with fail
      refine (R.out _).mono ?_
      rintro e w4 ⟨rfl, hb4⟩
      go_wp2
      go_ret
      exact ⟨rfl, HB.out _ _ hb3 hb4⟩
end Go.Proofs.YtibdnfcbgcbdeaaDoor
