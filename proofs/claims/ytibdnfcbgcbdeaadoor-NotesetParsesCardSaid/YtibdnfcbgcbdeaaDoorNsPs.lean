/- NotesetParses: the law's walk. -/
import Derived.Test.YtibdnfcbgcbdeaaDoorNsPa
import Derived.Test.YtibdnfcbgcbdeaaDoorNsWd
import Derived.Laws.IdiomStrings
namespace Go.Proofs.YtibdnfcbgcbdeaaDoor
open Go Go.RowKit Go.Shelf

theorem info_u8 : (Tryd.prog.info? 5).map (fun i => (i.zero, i.size, i.bytes)) = some (some (.int .u8 0), 1, 1) := by kernel_rfl

/-- The words of a row, as they are read. -/
def WRow (W : World) (g n : Nat) (X : Nat → ByteArray) : Prop := ∀ k, k < n → W.cell? ⟨g, 0 + k, none⟩ = some (.string (X k))

set_option maxRecDepth 100000 in
set_option maxHeartbeats 4000000 in
theorem parses_long (s : ByteArray) (hs : 200 < s.size) (hm : s.size ≤ 9223372036854775807) (w : World) (G : Gl w) :
    Calls Tryd.prog 10 #[.string s] w fun e w' => e = .returned (.bool true) ∧ Below w.heap.size w w' := by
  have K := Lib.hid (fun W g => known_any W g)
  have GG := Lib.hid (show ∀ W : World, Below w.heap.size w W → Gl W from fun W h => G.below h)
  have hlen : (200 : Int) < (s.size : Int) := by omega
  go_enter Tryd.func10, Tryd.ntmps10
  go_wp2_with fail
  refine (K.out _ G).mono ?_
  rintro e w1 ⟨rfl, hb1⟩
  go_wp2_with fail
  refine (K.out _ (GG.out _ hb1)).mono ?_
  rintro e w2 ⟨rfl, hb2⟩
  go_wp2
  go_ret
  exact ⟨rfl, hb1.trans (hb2.mono hb1.size)⟩

theorem madeCells_at (z : Value) (n k : Nat) (h : k < n) : (madeCells #[z] n).toList[k]? = some z := by
  rw [toList_madeCells_one]
  simp [h]

/-- From the law's beginning to the test on an empty text. -/
def Zeros (n : Nat) : List UInt8 := List.replicate n 0
theorem zeros_len (n : Nat) : (Zeros n).length = n := List.length_replicate
theorem zeros_at (n j : Nat) (h : j < (Zeros n).length) : (Zeros n)[j] = 0 := by simp [Zeros]
theorem parse_zeros (w : World) : Calls Tryd.prog 39 #[.string ⟨(Zeros 65537).toArray⟩] w fun e w' => e = .returned (.tuple #[.agg #[.int .u64 0, .int .u64 0], .int .i64 16]) ∧ Below w.heap.size w w' := by
  have hz : (⟨(Zeros 65537).toArray⟩ : ByteArray).size = 65537 := by
    show (Zeros 65537).toArray.size = 65537
    rw [List.size_toArray, zeros_len]
  exact parse_long _ (by rw [hz]; decide) (by rw [hz]; decide) w
theorem zeros_conv (W : World) (g base : Nat) (h : W.ownsRow base 5 1 (.slice (some ⟨g, 0, none⟩) 65537 65537) 65537 (madeCells #[.int .u8 0] 65537).toList) :
    Sem.run Tryd.prog (convert 58 9 (.slice (some ⟨g, 0, none⟩) 65537 65537)) W = .ok (.string ⟨(Zeros 65537).toArray⟩) W := by
  have hl := zeros_len 65537
  generalize hn : (65537 : Nat) = n at *
  have c := run_convert_bytes_back (P := Tryd.prog) W 58 9 5 ⟨g, 0, none⟩ n (Zeros n) Tryd.underlying58 Tryd.underlying5 Tryd.underlying9 (fun j hj => by
    rw [hl] at hj
    have h2 := h.cells (g := g) rfl j (.int .u8 0) (madeCells_at _ _ _ hj)
    rw [h2, zeros_at]
    rfl)
  rw [hl] at c
  exact c

/-- Whether a text is a note's name, and what the reference's Note returns. -/
theorem rnote_any (s : ByteArray) (hmax : s.size ≤ 9223372036854775807) : (∃ x, x < 128 ∧ nameIndex s = x ∧ ∀ w : World, Calls Tryd.prog 17 #[.string s] w fun e w' => e = .returned (.int .i64 x) ∧ Below w.heap.size w w') ∨
    (nameIndex s = 128 ∧ ∀ w : World, Calls Tryd.prog 17 #[.string s] w fun e w' => e = .returned (.int .i64 (-1)) ∧ Below w.heap.size w w') := by
  rcases note_any s hmax with ⟨x, hx, rfl, _⟩ | ⟨hno, _⟩
  · exact .inl ⟨x, hx, nameIndex_yes hx, fun W => rnote_yes x hx W⟩
  · exact .inr ⟨nameIndex_no hno, fun W => rnote_no s hno W⟩

theorem row_cells {W : World} {base g n cap : Nat} {l : List (List UInt8)} (h : W.ownsRow base 9 1 (.slice (some ⟨g, 0, none⟩) n cap) n (strs l)) (X : Nat → ByteArray) (hX : ∀ k, k < n → (strs l)[k]? = some (.string (X k))) :
    ∀ k, k < n → W.cell? ⟨g, 0 + k, none⟩ = some (.string (X k)) := fun k hk => by
  rw [Nat.zero_add, h.cellAt k (by omega), hX k hk]

set_option maxRecDepth 100000 in
set_option maxHeartbeats 8000000 in
theorem parses_law (s : ByteArray) (hs : s.size ≤ 200) (r1 r2 : Nat) (r3 : Int) (w : World) (G : Gl w)
    (hP : ∀ W, Gl W → Calls Tryd.prog 39 #[.string s] W fun e w' => e = .returned (.tuple #[.agg #[.int .u64 r1, .int .u64 r2], .int .i64 r3]) ∧ Below W.heap.size W w')
    (he : s.size = 0 → r1 = 0 ∧ r2 = 0 ∧ r3 = 0) (hr : s.size ≠ 0 → parseL 0 0 (wordsB s) = (r1, r2, r3)) :
    Calls Tryd.prog 10 #[.string s] w fun e w' => e = .returned (.bool true) ∧ Below w.heap.size w w' := by
  have P := Lib.hid hP
  have HE := Lib.hid he
  have HR := Lib.hid hr
  have K := Lib.hid (known_any w G)
  have RW := Lib.hid (fun W => rwords_any s (by omega) W)
  have GG := Lib.hid (show ∀ W : World, Below w.heap.size w W → Gl W from fun W h => G.below h)
  obtain ⟨i0, hi0, hz0, hz1, hz2⟩ := info_parts info_u8
  have pz := parse_zeros
  have cz := zeros_conv
  obtain ⟨Z, hZ⟩ : ∃ Z : ByteArray, (⟨(Zeros 65537).toArray⟩ : ByteArray) = Z := ⟨_, rfl⟩
  rw [hZ] at pz cz
  have PZ := Lib.hid pz
  have CZ := Lib.hid cz
  have hlen : ¬ (200 : Int) < (s.size : Int) := by omega
  clear hP he hr hZ pz cz G
  go_enter Tryd.func10, Tryd.ntmps10
  go_wp2_with fail
  refine K.out.mono ?_
  rintro e w1 ⟨rfl, hb1⟩
  go_wp2_with fail
  refine (P.out _ (GG.out _ hb1)).mono ?_
  rintro e w2 ⟨rfl, hb2⟩
  have bb2 := hb1.trans (hb2.mono hb1.size)
  have s3 : SetAt (w2.alloc (.cells #[.int .u64 r1, .int .u64 r2] 34)) w2.heap.size r1 r2 := SetAt.new w2 r1 r2
  have bb3 := bb2.alloc bb2.size (.cells #[.int .u64 r1, .int .u64 r2] 34)
  have z3 := bb3.size
  go_wp2_with (at_make; refine wpList_make_full _ rfl _ _ 58 rfl w.heap.size 5 i0 (.int .u8 0) 1 Tryd.underlying58 hi0 hz0 hz1 .i64 .i64 65537 65537 65537 rfl rfl rfl rfl (by rw [hz2]; decide) (by decide) (by omega) ?_; intro w4 hown4 hgrow4; have cv := CZ.out _ _ _ hown4; simp only [World.size_alloc] at cv; have s4 : SetAt w4 w2.heap.size r1 r2 := (hgrow4.block _ s3.lt (by simp)).trans s3; have bb4 := bb3.grown hgrow4 (by omega) (fun k e => by cases e); clear hown4 hgrow4)
  go_wp2_with fail
  refine (PZ.out _).mono ?_
  rintro e w5 ⟨rfl, hb5⟩
  have s5 := s4.below s4.lt hb5
  have bb5 := bb4.trans (hb5.mono bb4.size)
  obtain ⟨p, hp⟩ : ∃ p, w2.heap.size = p := ⟨_, rfl⟩
  have hpw : w.heap.size ≤ p := by rw [← hp]; exact bb2.size
  rw [hp] at s5 ⊢
  clear cv s3 s4 hb1 hb2 hb5 bb2 bb3 bb4 z3 hp K P PZ CZ hi0 hz0 hz1 hz2
  by_cases hs0 : s.size = 0
  · obtain ⟨rfl, rfl, rfl⟩ := HE.out hs0
    obtain rfl := bytes_nil hs0
    have c0 := s5.fst
    have c1 := s5.snd
    have c2 := s5.lt
    go_wp2
    all_goals
      go_ret
      exact ⟨rfl, bb5.alloc bb5.size _⟩
  · have hne := toList_ne (show s ≠ ⟨#[]⟩ from fun e => hs0 (by rw [e]; rfl))
    have hne3 : (s.toList = []) = False := by
      cases h : s.toList with
      | nil =>
        rw [h] at hne
        have : ((⟨#[]⟩ : ByteArray).toList) = [] := by rw [Lib.toList_data]
        rw [this] at hne
        simp at hne
      | cons _ _ => simp
    have hne2 : s.toList.isEmpty = false := by
      cases h : s.toList with
      | nil => exact (hne3.mp h).elim
      | cons _ _ => rfl
    have hR := HR.out hs0
    have HRR := Lib.hid hR
    have c0 := s5.fst
    have c1 := s5.snd
    have c2 := s5.lt
    have s6 : SetAt ((w5.alloc (.cells #[.int .u64 0, .int .u64 0] 34)).alloc (.cells #[.int .u64 0, .int .u64 0] 34)) p r1 r2 :=
      (s5.below s5.lt ((Below.refl _ _).alloc (Nat.le_refl _) _)).below (by have := s5.lt; simp; omega) ((Below.refl _ _).alloc (Nat.le_refl _) _)
    have q6 : SetAt ((w5.alloc (.cells #[.int .u64 0, .int .u64 0] 34)).alloc (.cells #[.int .u64 0, .int .u64 0] 34)) (w5.heap.size + 1) 0 0 := by
      simpa using SetAt.new (w5.alloc (.cells #[.int .u64 0, .int .u64 0] 34)) 0 0
    have bb6 : Below w.heap.size w ((w5.alloc (.cells #[.int .u64 0, .int .u64 0] 34)).alloc (.cells #[.int .u64 0, .int .u64 0] 34)) := (bb5.alloc bb5.size _).alloc (by have := bb5.size; simp; omega) _
    have S6 := Lib.hid s6
    have Q6 := Lib.hid q6
    have BB6 := Lib.hid bb6
    have hpb : p < w5.heap.size := c2
    clear hR hne s6 q6 bb6 c0 c1 c2
    go_wp2_with fail
    refine (RW.out _).mono ?_
    rintro e w7 ⟨⟨v, rfl, hrow⟩, hb7⟩
    have hpos : ∃ m, (words [] s.data.toList).length = m + 1 := by
      have h := wordsB_length s
      unfold wordsB at h
      rw [List.length_map] at h
      exact ⟨_, h⟩
    obtain ⟨m, hm⟩ := hpos
    rw [hm] at hrow
    obtain ⟨g, cap, rfl⟩ := ownsRow_succ hrow
    have hL : (wordsB s).length = m + 1 := by unfold wordsB; rw [List.length_map, hm]
    have hsz : ∀ y, y ∈ wordsB s → y.size ≤ s.size := wordsB_sizes s
    have hst : ∀ k : Nat, (strs (words [] s.data.toList))[k]? = ((wordsB s)[k]?).map Value.string := fun k => by
      unfold strs wordsB
      simp only [List.getElem?_map]
      cases (words [] s.data.toList)[k]? <;> rfl
    have hm2 : m ≤ 200 := by
      have := words_length s.data.toList []
      have : s.data.toList.length = s.size := Array.length_toList
      omega
    generalize wordsB s = L at *
    generalize words [] s.data.toList = LL at *
    obtain ⟨X, hX⟩ : ∃ X : Nat → ByteArray, X = fun k => L.getD k ⟨#[]⟩ := ⟨_, rfl⟩
    have hXs : ∀ k, k < m + 1 → (X k).size ≤ s.size := fun k hk => by
      rw [hX]
      refine hsz _ ?_
      show L.getD k ⟨#[]⟩ ∈ L
      rw [List.getD_eq_getElem?_getD, List.getElem?_eq_getElem (by omega)]
      exact List.getElem_mem _
    have hXd : ∀ k, k < m + 1 → L.drop k = X k :: L.drop (k + 1) := fun k hk => by
      rw [hX]
      show _ = L.getD k ⟨#[]⟩ :: _
      rw [List.getD_eq_getElem?_getD, List.getElem?_eq_getElem (by omega), List.drop_eq_getElem_cons (by omega)]
      rfl
    have hXc : ∀ k, k < m + 1 → (strs LL)[k]? = some (.string (X k)) := fun k hk => by
      rw [hst k, hX]
      simp [List.getD_eq_getElem?_getD, List.getElem?_eq_getElem (show k < L.length by omega)]
    have hcells := row_cells hrow X hXc
    have hg := hrow.lt g rfl
    simp only [World.size_alloc] at hg
    obtain ⟨b, hb⟩ : ∃ b, w5.heap.size + 1 = b := ⟨_, rfl⟩
    obtain ⟨w0, hw0⟩ : ∃ w0, w5.alloc (.cells #[.int .u64 0, .int .u64 0] 34) = w0 := ⟨_, rfl⟩
    have hz0 : w0.heap.size = b := by rw [← hw0, ← hb]; simp
    have sp0 : SetAt w0 p r1 r2 := by rw [← hw0]; exact s5.below s5.lt ((Below.refl _ _).alloc (Nat.le_refl _) _)
    have bw0 : Below w.heap.size w w0 := by rw [← hw0]; exact bb5.alloc bb5.size _
    have hq := Q6.out
    rw [hb, hw0] at hq
    rw [hw0] at hb7
    have hPS : ParS b g 0 (m + 1) X w0 0 0 w7 :=
      ⟨hq.below (by rw [← hz0]; simp) hb7, hcells, hg.2, by omega, ((Below.refl _ _).alloc (by omega) _).trans (hb7.mono (by simp; omega))⟩
    have XS := Lib.hid hXs
    have XD := Lib.hid hXd
    have HL := Lib.hid hL
    have SP := Lib.hid sp0
    have BW := Lib.hid bw0
    have hpb2 : p < b := by omega
    rw [hb]
    clear hX hXs hXd hXc hst hsz hL hcells hrow hb7 hq sp0 bw0 hw0 hz0 S6 Q6 BB6 bb5 s5 hg hm RW hs0 hpb
    go_wp2_with fail
    go_loopw [44] (fun i wr => ∃ k lo hi : Nat, k ≤ m + 1 ∧ i = .int .i64 (k : Int) ∧ lo < 18446744073709551616 ∧ hi < 18446744073709551616 ∧ parseL lo hi (L.drop k) = (r1, r2, r3) ∧ ParS b g 0 (m + 1) X w0 lo hi wr) (fun i _ => m + 1 - (intOf i).toNat)
    case atStart =>
      exact ⟨0, 0, 0, Nat.zero_le _, rfl, by decide, by decide, HRR.out, hPS⟩
    case round =>
      obtain ⟨k, lo, hi, hk, rfl, hlo, hhi, hRk, hp⟩ := hrel
      have HRK := Lib.hid hRk
      clear hRk hPS HRR
      have sp := SP.out.below hpb2 hp.below
      have hwB := BW.out.trans (hp.below.mono (by have := BW.out.size; omega))
      have c0 := sp.fst
      have c1 := sp.snd
      have g0 := hp.set.fst
      have g1 := hp.set.snd
      by_cases h1 : k < m + 1
      · have hx0 := hp.row k h1
        have hXk := XS.out k h1
        have HD := Lib.hid (XD.out k h1)
        have hkn : (k : Int) < (m : Int) + 1 := by omega
        simp only [Nat.zero_add] at hx0
        rcases rnote_any (X k) (by omega) with ⟨x, hx128, hix, hM⟩ | ⟨hix, hM⟩
        · have M := Lib.hid hM
          have HIX := Lib.hid hix
          have RH := Lib.hid (fun W => rhas_below lo hi x hx128 hlo hhi W)
          have WI := Lib.hid (fun W => with_any lo hi x hx128 hlo hhi W)
          have hx0n : ¬ (x : Int) < 0 := by omega
          clear hM hix
          generalize X k = word at *
          go_wp2_with fail
          refine (M.out _).mono ?_
          rintro e w8 ⟨rfl, hb8⟩
          have hp8 := hp.call hb8
          have hwB8 := hwB.trans (hb8.mono hwB.size)
          have sp8 := SP.out.below hpb2 hp8.below
          have c2 := sp8.fst
          have c3 := sp8.snd
          have g2 := hp8.set.fst
          have g3 := hp8.set.snd
          clear c0 c1 g0 g1
          cases hbx : Ns.has lo hi x with
          | true =>
            rw [hbx] at RH
            have hfin := (HRK.out.symm.trans ((congrArg (parseL lo hi) HD.out).trans (parseL_dup hx128 HIX.out hbx)))
            cases hfin
            clear hbx
            go_wp2_with fail
            refine (RH.out _).mono ?_
            rintro e w9 ⟨rfl, hb9⟩
            have hp9 := hp8.call hb9
            have sp9 := SP.out.below hpb2 hp9.below
            have c4 := sp9.fst
            have c5 := sp9.snd
            go_wp2
            all_goals
              go_ret
              exact ⟨rfl, hwB8.trans (hb9.mono hwB8.size)⟩
          | false =>
            rw [hbx] at RH
            have hgo := parseL_go (r := L.drop (k + 1)) hx128 HIX.out hbx
            rw [← HD.out, HRK.out] at hgo
            have HGO := Lib.hid hgo
            clear hbx hgo
            go_wp2_with fail
            refine (RH.out _).mono ?_
            rintro e w9 ⟨rfl, hb9⟩
            have hp9 := hp8.call hb9
            have g4 := hp9.set.fst
            have g5 := hp9.set.snd
            go_wp2_with fail
            refine (WI.out _).mono ?_
            rintro e w10 ⟨rfl, hb10⟩
            have hp10 := hp9.call hb10
            have g6 := hp10.set.f0
            have g7 := hp10.set.f1
            have g8 := hp10.set.fst
            have g9 := hp10.set.snd
            have hpp := hp10.put (lo ||| Ns.sLo x) (hi ||| Ns.sHi x)
            go_wp2
            go_roundw
            case rel =>
              exact ⟨k + 1, _, _, by omega, by go_num, Ns.or_lt hlo (Ns.sLo_lt x), Ns.or_lt hhi (Ns.sHi_lt x hx128), HGO.out.symm, hpp⟩
            case measure => simp [intOf]; omega
        · have hfin := (HRK.out.symm.trans ((congrArg (parseL lo hi) HD.out).trans (parseL_miss hix)))
          cases hfin
          have M := Lib.hid hM
          clear hM hix
          generalize X k = word at *
          go_wp2_with fail
          refine (M.out _).mono ?_
          rintro e w8 ⟨rfl, hb8⟩
          have hp8 := hp.call hb8
          have hwB8 := hwB.trans (hb8.mono hwB.size)
          have sp8 := SP.out.below hpb2 hp8.below
          have c2 := sp8.fst
          have c3 := sp8.snd
          clear c0 c1 g0 g1
          go_wp2
          all_goals
            go_ret
            exact ⟨rfl, hwB8⟩
      · obtain rfl : k = m + 1 := by omega
        have hfin : (r1, r2, r3) = (lo, hi, (0 : Int)) := by rw [← HRK.out, ← HL.out, List.drop_length]; rfl
        cases hfin
        go_wp2
        all_goals
          go_ret
          exact ⟨rfl, hwB⟩

theorem parses_walk (s : ByteArray) (w : World) (G : Gl w) (hm : s.size ≤ 9223372036854775807) :
    Calls Tryd.prog 10 #[.string s] w fun e w' => e = .returned (.bool true) ∧ Below w.heap.size w w' := by
  by_cases hs : 200 < s.size
  · exact parses_long s hs hm w G
  · by_cases h0 : s.size = 0
    · obtain rfl := bytes_nil h0
      exact parses_law _ (by omega) 0 0 0 w G (fun W _ => parse_nil W) (fun _ => ⟨rfl, rfl, rfl⟩) (fun h => absurd rfl h)
    · exact parses_law s (by omega) _ _ _ w G (fun W g => parse_some s h0 (by omega) W g) (fun h => absurd h h0) (fun _ => rfl)
end Go.Proofs.YtibdnfcbgcbdeaaDoor
