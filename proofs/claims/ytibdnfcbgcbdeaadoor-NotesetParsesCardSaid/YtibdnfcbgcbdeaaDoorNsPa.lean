/- Parse: the texts that it splits, and the set that it takes up. -/
import Derived.Test.YtibdnfcbgcbdeaaDoorNsPm
import Derived.Test.YtibdnfcbgcbdeaaDoorNsZd
import Derived.Test.YtibdnfcbgcbdeaaDoorNsShelfB
namespace Go.Proofs.YtibdnfcbgcbdeaaDoor
open Go Go.RowKit Go.Shelf

theorem hi_string : (Tryd.prog.info? 9).map (fun i => (i.zero, i.size, i.bytes)) = some (some (.string ByteArray.empty), 1, 16) := info_string

set_option maxHeartbeats 1000000 in
theorem split_any (s : ByteArray) (hs : s.size < 4294967281) (w : World) :
    Calls Tryd.prog 57 #[.string s, .string ⟨#[32]⟩] w fun e w' => e = .returned (.slice (some ⟨w.heap.size, 0, none⟩) (wordsB s).length (wordsB s).length) ∧ w' = w.alloc (.cells ((wordsB s).map Value.string).toArray 9) := by
  have hle := Lib.countB_le ⟨#[32]⟩ (by decide) s.size s (Nat.le_refl _)
  have hI : ∀ (x : ByteArray) (c : Array Value), x.size ≤ s.size → Calls Tryd.prog 70 #[.string x, .string ⟨#[32]⟩] (w.alloc (.cells c 9)) fun e w' => e = .returned (.int .i64 (Lib.indexB x ⟨#[32]⟩)) ∧ w' = w.alloc (.cells c 9) := fun x c _ =>
    (Any.strings_Index_one ({ Tryd.lays221 with } : Lays.n143 Tryd.prog Tryd.lays221_ren) x 32 _).mono fun e w' ⟨h1, h2⟩ => ⟨by rw [h1, ← Lib.index_one], h2⟩
  have hC : Calls Tryd.prog 69 #[.string s, .string ⟨#[32]⟩] w fun e w' => e = .returned (.int .i64 (Lib.countB s ⟨#[32]⟩)) ∧ w' = w :=
    (Any.strings_Count_one ({ Tryd.lays221 with } : Lays.n138 Tryd.prog Tryd.lays221_ren) s 32 w).mono fun e w' ⟨h1, h2⟩ => ⟨by
      rw [h1]
      show _ = Ending.returned (Value.int .i64 ((Lib.count s.data.toList [32] : Nat) : Int))
      rw [Lib.count_one]
      rfl, h2⟩
  have c := Any.strings_genSplit_core Tryd.lays221 hi_string s ⟨#[32]⟩ 0 (-1) (Lib.countB s ⟨#[32]⟩ + 1) w hs (by decide) (Nat.zero_le _) hI hC (by decide) (by decide) (by rw [if_pos (by decide)]; omega)
  have hlen := wordsB_length s
  rw [Nat.add_sub_cancel, splitB_words, hlen] at c
  have e2 : Lib.cellsOf (wordsB s) (Lib.countB s ⟨#[32]⟩ + 1) = ((wordsB s).map Value.string).toArray := by rw [← hlen]; exact Lib.cellsOf_full _
  rw [e2] at c
  rw [hlen]
  have C := Lib.hid c
  clear c hI hC hlen e2
  go_enter Tryd.func57, Tryd.ntmps57
  go_wp2_with fail
  refine C.out.mono ?_
  rintro e w' ⟨rfl, rfl⟩
  go_wp2
  go_ret
  exact ⟨rfl, rfl⟩

set_option maxHeartbeats 1000000 in
theorem parse_long (s : ByteArray) (h : 65536 < s.size) (hm : s.size ≤ 9223372036854775807) (w : World) :
    Calls Tryd.prog 39 #[.string s] w fun e w' => e = .returned (.tuple #[.agg #[.int .u64 0, .int .u64 0], .int .i64 16]) ∧ Below w.heap.size w w' := by
  have h1 : (65536 : Int) < (s.size : Int) := by omega
  go_enter Tryd.func39, Tryd.ntmps39
  go_wp2_with fail
  refine bodyPost_ret (v := .tuple #[.agg #[.int .u64 0, .int .u64 0], .int .i64 16]) (by simp [results, Tryd.results39, go_sem]) rfl ⟨rfl, ?_⟩
  repeat (first | exact Below.refl _ _ | (refine Below.setCell ?_ (by simp <;> omega) _) | (refine Below.alloc ?_ (by simp <;> omega) _))

set_option maxHeartbeats 1000000 in
theorem parse_nil (w : World) :
    Calls Tryd.prog 39 #[.string ⟨#[]⟩] w fun e w' => e = .returned (.tuple #[.agg #[.int .u64 0, .int .u64 0], .int .i64 0]) ∧ Below w.heap.size w w' := by
  go_enter Tryd.func39, Tryd.ntmps39
  go_wp2_with fail
  refine bodyPost_ret (v := .tuple #[.agg #[.int .u64 0, .int .u64 0], .int .i64 0]) (by simp [results, Tryd.results39, go_sem]) rfl ⟨rfl, ?_⟩
  repeat (first | exact Below.refl _ _ | (refine Below.setCell ?_ (by simp <;> omega) _) | (refine Below.alloc ?_ (by simp <;> omega) _))

/-- The words lie in a row that nothing writes; the set lies in its box. -/
structure ParS (b g off n : Nat) (X : Nat → ByteArray) (w0 : World) (lo hi : Nat) (W : World) : Prop where
  set : SetAt W b lo hi
  row : ∀ k, k < n → W.cell? ⟨g, off + k, none⟩ = some (.string (X k))
  lt : g < W.heap.size
  ne : g ≠ b
  below : Below b w0 W
theorem ParS.call {b g off n : Nat} {X : Nat → ByteArray} {w0 W W' : World} {lo hi : Nat} (h : ParS b g off n X w0 lo hi W) (hb : Below W.heap.size W W') : ParS b g off n X w0 lo hi W' :=
  ⟨h.set.below h.set.lt hb, fun k hk => (hb.cell (p := ⟨g, off + k, none⟩) h.lt).trans (h.row k hk), Nat.lt_of_lt_of_le h.lt hb.size, h.ne, h.below.trans (hb.mono (Nat.le_of_lt h.set.lt))⟩
theorem ParS.put {b g off n : Nat} {X : Nat → ByteArray} {w0 W : World} {lo hi : Nat} (h : ParS b g off n X w0 lo hi W) (x y : Nat) : ParS b g off n X w0 x y ((W.setCell ⟨b, 0, none⟩ (.int .u64 x)).setCell ⟨b, 1, none⟩ (.int .u64 y)) where
  set := h.set.put x y
  row := fun k hk => by
    have h1 := Below.heap_setCell (W.setCell ⟨b, 0, none⟩ (.int .u64 x)) ⟨b, 1, none⟩ (.int .u64 y) g (by simpa using h.ne)
    have h2 := Below.heap_setCell W ⟨b, 0, none⟩ (.int .u64 x) g (by simpa using h.ne)
    exact (World.cell?_of_block (a := ⟨g, off + k, none⟩) (h1.trans h2)).trans (h.row k hk)
  lt := by have := h.lt; simpa [World.setCell] using this
  ne := h.ne
  below := (h.below.setCell (p := ⟨b, 0, none⟩) (Nat.le_refl _) _).setCell (p := ⟨b, 1, none⟩) (Nat.le_refl _) _

theorem parseL_miss {lo hi : Nat} {s : ByteArray} {r : List ByteArray} (h : nameIndex s = 128) : parseL lo hi (s :: r) = (0, 0, 8) := by rw [parseL, if_pos h]
theorem parseL_dup {lo hi n : Nat} {s : ByteArray} {r : List ByteArray} (hn : n < 128) (h : nameIndex s = n) (hh : Ns.has lo hi n = true) : parseL lo hi (s :: r) = (0, 0, 9) := by
  rw [parseL, if_neg (by omega), h, if_pos hh]
theorem parseL_go {lo hi n : Nat} {s : ByteArray} {r : List ByteArray} (hn : n < 128) (h : nameIndex s = n) (hh : Ns.has lo hi n = false) : parseL lo hi (s :: r) = parseL (lo ||| Ns.sLo n) (hi ||| Ns.sHi n) r := by
  rw [parseL, if_neg (by omega), h, if_neg (by rw [hh]; decide)]

set_option maxRecDepth 100000 in
set_option maxHeartbeats 4000000 in
theorem parse_some (s : ByteArray) (h0 : s.size ≠ 0) (hs : s.size ≤ 65536) (w : World) (G : Gl w) :
    Calls Tryd.prog 39 #[.string s] w fun e w' => e = .returned (.tuple #[.agg #[.int .u64 ((parseL 0 0 (wordsB s)).1 : Nat), .int .u64 ((parseL 0 0 (wordsB s)).2.1 : Nat)], .int .i64 (parseL 0 0 (wordsB s)).2.2]) ∧ Below w.heap.size w w' := by
  have hG3 := G.size
  have hne : (s.toList == []) = false := by
    have h := toList_ne (show s ≠ ⟨#[]⟩ from fun e => h0 (by rw [e]; rfl))
    rwa [show (⟨#[]⟩ : ByteArray).toList = [] from by rw [Lib.toList_data]] at h
  have hne2 : s.toList.isEmpty = false := by
    cases h : s.toList with
    | nil => rw [h] at hne; simp at hne
    | cons _ _ => rfl
  have hne3 : (s.toList = []) = False := by
    cases h : s.toList with
    | nil => rw [h] at hne; simp at hne
    | cons _ _ => simp
  have hlong : ¬ (65536 : Int) < (s.size : Int) := by omega
  have SP := Lib.hid (fun W => split_any s (by omega) W)
  have hcnt : (wordsB s).length ≤ 65537 := by
    unfold wordsB
    rw [List.length_map]
    have := words_length s.data.toList []
    have : s.data.toList.length = s.size := Array.length_toList
    omega
  have hsz : ∀ y, y ∈ wordsB s → y.size ≤ s.size := wordsB_sizes s
  generalize wordsB s = L at *
  obtain ⟨R, hR⟩ : ∃ R, parseL 0 0 L = R := ⟨_, rfl⟩
  have HR := Lib.hid hR
  rw [hR]
  obtain ⟨n, hn⟩ : ∃ n, L.length = n := ⟨_, rfl⟩
  obtain ⟨X, hX⟩ : ∃ X : Nat → ByteArray, X = fun k => L.getD k ⟨#[]⟩ := ⟨_, rfl⟩
  have hXs : ∀ k, k < n → (X k).size ≤ s.size := fun k hk => by
    rw [hX]
    refine hsz _ ?_
    show L.getD k ⟨#[]⟩ ∈ L
    rw [List.getD_eq_getElem?_getD, List.getElem?_eq_getElem (by omega)]
    exact List.getElem_mem _
  have hXd : ∀ k, k < n → L.drop k = X k :: L.drop (k + 1) := fun k hk => by
    rw [hX]
    show _ = L.getD k ⟨#[]⟩ :: _
    rw [List.getD_eq_getElem?_getD, List.getElem?_eq_getElem (by omega), List.drop_eq_getElem_cons (by omega)]
    rfl
  have hXc : ∀ k, k < n → (L.map Value.string).toArray[k]? = some (.string (X k)) := fun k hk => by
    rw [hX]
    simp [List.getD_eq_getElem?_getD, List.getElem?_eq_getElem (show k < L.length by omega)]
  rw [hn] at SP hcnt
  have XS := Lib.hid hXs
  have XD := Lib.hid hXd
  have XC := Lib.hid hXc
  have HN := Lib.hid hn
  clear hR hX hXs hXd hXc hsz hn h0
  go_enter Tryd.func39, Tryd.ntmps39
  go_wp2_with fail
  refine (SP.out _).mono ?_
  rintro e w2 ⟨rfl, hw2⟩
  obtain ⟨g, hg⟩ : ∃ g, w.heap.size + 1 + 1 = g := ⟨_, rfl⟩
  have hP : ParS (w.heap.size + 1) g 0 n X (w.alloc (.cells #[.int .u64 0, .int .u64 0] 34)) 0 0 w2 := by
    subst hw2
    have s1 : SetAt ((w.alloc (.cells #[.int .u64 0, .int .u64 0] 34)).alloc (.cells #[.int .u64 0, .int .u64 0] 34)) (w.heap.size + 1) 0 0 := by
      simpa using SetAt.new (w.alloc (.cells #[.int .u64 0, .int .u64 0] 34)) 0 0
    refine ⟨s1.below s1.lt ((Below.refl _ _).alloc (Nat.le_refl _) _), fun k hk => ?_, by simp; omega, by omega, (((Below.refl _ _).alloc (by simp) _).alloc (by simp) _)⟩
    have hh : (((w.alloc (.cells #[.int .u64 0, .int .u64 0] 34)).alloc (.cells #[.int .u64 0, .int .u64 0] 34)).alloc (.cells (L.map Value.string).toArray 9)).heap[g]? = some (.cells (L.map Value.string).toArray 9) := by
      have := World.alloc_heap_new ((w.alloc (.cells #[.int .u64 0, .int .u64 0] 34)).alloc (.cells #[.int .u64 0, .int .u64 0] 34)) (.cells (L.map Value.string).toArray 9)
      rwa [World.size_alloc, World.size_alloc, hg] at this
    simp only [World.cell?, hh]
    simpa using XC.out k hk
  clear hw2
  have hsz2 : ((w.alloc (.cells #[.int .u64 0, .int .u64 0] 34)).alloc (.cells #[.int .u64 0, .int .u64 0] 34)).heap.size = g := by simp; omega
  rw [hsz2]
  clear hsz2
  go_wp2_with fail
  go_loopw [19] (fun i wr => ∃ k lo hi : Nat, k ≤ n ∧ i = .int .i64 (k : Int) ∧ lo < 18446744073709551616 ∧ hi < 18446744073709551616 ∧ parseL lo hi (L.drop k) = R ∧ ParS (w.heap.size + 1) g 0 n X (w.alloc (.cells #[.int .u64 0, .int .u64 0] 34)) lo hi wr) (fun i _ => n - (intOf i).toNat)
  case atStart =>
    exact ⟨0, 0, 0, Nat.zero_le _, rfl, by decide, by decide, HR.out, hP⟩
  case round =>
    obtain ⟨k, lo, hi, hk, rfl, hlo, hhi, hRk, hp⟩ := hrel
    have HRK := Lib.hid hRk
    clear hRk hP
    have hsz := hp.below.size
    simp at hsz
    have hz : SetAt wr w.heap.size 0 0 := (SetAt.new w 0 0).below (Nat.lt_succ_self _) hp.below
    have hwB : Below w.heap.size w wr := ((Below.refl _ _).alloc (Nat.le_refl _) _).trans (hp.below.mono (Nat.le_succ _))
    have Gr : Gl wr := G.below hwB
    have z0 := hz.fst
    have z1 := hz.snd
    have z2 := hz.f0
    have z3 := hz.f1
    simp only [Int.ofNat_zero] at z0 z1
    by_cases h1 : k < n
    · have hx0 := hp.row k h1
      have hXk := XS.out k h1
      have hd := XD.out k h1
      have HD := Lib.hid hd
      have hkn : (k : Int) < (n : Int) := by omega
      simp only [Nat.zero_add] at hx0
      have HNote := note_any (X k) (by omega)
      clear hd
      rcases HNote with ⟨x, hx128, hxe, hM⟩ | ⟨hno, hM⟩
      · have hix : nameIndex (X k) = x := by rw [hxe]; exact nameIndex_yes hx128
        have M := Lib.hid hM
        have HIX := Lib.hid hix
        clear hM hix hxe
        generalize X k = word at *
        have g0 := hp.set.fst
        have g1 := hp.set.snd
        have g2 := hp.set.f0
        have g3 := hp.set.f1
        have g4 := hp.set.lt
        have HAS := Lib.hid (fun W => has_yes lo hi x hx128 hlo hhi W)
        rw [withinB_has lo hi x hx128 hlo hhi] at HAS
        go_wp2_with fail
        refine (M.out _ Gr).mono ?_
        rintro e w3 ⟨rfl, rfl⟩
        cases hb : Ns.has lo hi x with
        | true =>
          rw [hb] at HAS
          have hfin : R = (0, 0, 9) := by rw [← HRK.out, HD.out, parseL_dup hx128 HIX.out hb]
          subst hfin
          clear hb
          go_wp2_with fail
          refine (HAS.out _).mono ?_
          rintro e w4 ⟨rfl, hb4⟩
          have hz4 := hz.below hz.lt hb4
          have q0 := (hz4.put 0 0).fst
          have q1 := (hz4.put 0 0).snd
          have q2 := hz4.f0
          have q3 := hz4.f1
          have q4 := hz4.fst
          have q5 := hz4.snd
          simp only [Int.ofNat_zero] at q0 q1 q4 q5
          go_wp2_with fail
          refine bodyPost_ret (v := .tuple #[.agg #[.int .u64 0, .int .u64 0], .int .i64 9]) (by simp [results, Tryd.results39, go_sem, q0, q1]) rfl ⟨rfl, ?_⟩
          exact ((hwB.trans (hb4.mono (by omega))).setCell (p := ⟨w.heap.size, 0, none⟩) (Nat.le_refl _) _).setCell (p := ⟨w.heap.size, 1, none⟩) (Nat.le_refl _) _
        | false =>
          rw [hb] at HAS
          have hgo := parseL_go (r := L.drop (k + 1)) hx128 HIX.out hb
          rw [← HD.out, HRK.out] at hgo
          have HGO := Lib.hid hgo
          clear hb hgo
          go_wp2_with fail
          refine (HAS.out _).mono ?_
          rintro e w4 ⟨rfl, hb4⟩
          have hp4 := hp.call hb4
          have g0 := hp4.set.fst
          have g1 := hp4.set.snd
          have g2 := hp4.set.f0
          have g3 := hp4.set.f1
          have g4 := hp4.set.lt
          go_wp2_with fail
          go_region_with (first
            | (go_at_call 48; refine (single_any x hx128 _).mono ?_; rintro e w5 ⟨rfl, hb5⟩; have m0 := (bcell hb5).1 (w.heap.size + 1) 0 g4; have m1 := (bcell hb5).1 (w.heap.size + 1) 1 g4; have m2 := (bcell hb5).2 (w.heap.size + 1) 0 g4; have m3 := (bcell hb5).2 (w.heap.size + 1) 1 g4; have m4 : w.heap.size + 1 < w5.heap.size := Nat.lt_of_lt_of_le g4 hb5.size)
            | (go_at_call 32; refine (union_any _ _ _ _ hlo hhi (Ns.sLo_lt x) (Ns.sHi_lt x hx128) _).mono ?_; rintro e w6 ⟨rfl, hb6⟩; have q0 := (bcell hb6).1 (w.heap.size + 1) 0 m4; have q1 := (bcell hb6).1 (w.heap.size + 1) 1 m4; have q2 := (bcell hb6).2 (w.heap.size + 1) 0 m4; have q3 := (bcell hb6).2 (w.heap.size + 1) 1 m4; have q4 : w.heap.size + 1 < w6.heap.size := Nat.lt_of_lt_of_le m4 hb6.size))
          all_goals
            go_wp2
            have e5 : Below w4.heap.size w4 w5 := ((Below.refl _ _).drew).trans hb5
            have hp6 := ((hp4.call e5).call hb6).put (lo ||| Ns.sLo x) (hi ||| Ns.sHi x)
            go_roundw
            case rel =>
              exact ⟨k + 1, _, _, by omega, by go_num, Ns.or_lt hlo (Ns.sLo_lt x), Ns.or_lt hhi (Ns.sHi_lt x hx128), HGO.out.symm, hp6⟩
            case measure => simp [intOf]; omega
      · have hix := nameIndex_no hno
        have hfin : R = (0, 0, 8) := by rw [← HRK.out, HD.out, parseL_miss hix]
        subst hfin
        have M := Lib.hid hM
        clear hM hno hix
        generalize X k = word at *
        go_wp2_with fail
        refine (M.out _ Gr).mono ?_
        rintro e w3 ⟨rfl, rfl⟩
        go_wp2_with fail
        have hq := hz.put 0 0
        have q0 := hq.fst
        have q1 := hq.snd
        simp only [Int.ofNat_zero] at q0 q1
        refine bodyPost_ret (v := .tuple #[.agg #[.int .u64 0, .int .u64 0], .int .i64 8]) (by simp [results, Tryd.results39, go_sem, q0, q1]) rfl ⟨rfl, ?_⟩
        exact (hwB.setCell (p := ⟨w.heap.size, 0, none⟩) (Nat.le_refl _) _).setCell (p := ⟨w.heap.size, 1, none⟩) (Nat.le_refl _) _
    · obtain rfl : k = n := by omega
      have hfin : R = (lo, hi, 0) := by rw [← HRK.out, ← HN.out, List.drop_length]; rfl
      subst hfin
      have g0 := hp.set.fst
      have g1 := hp.set.snd
      go_wp2
      have hq := hz.put lo hi
      have q0 := hq.fst
      have q1 := hq.snd
      refine bodyPost_ret (v := .tuple #[.agg #[.int .u64 (lo : Nat), .int .u64 (hi : Nat)], .int .i64 0]) (by simp [results, Tryd.results39, go_sem, q0, q1]) rfl ⟨rfl, ?_⟩
      exact (hwB.setCell (p := ⟨w.heap.size, 0, none⟩) (Nat.le_refl _) _).setCell (p := ⟨w.heap.size, 1, none⟩) (Nat.le_refl _) _
end Go.Proofs.YtibdnfcbgcbdeaaDoor
