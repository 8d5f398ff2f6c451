/- Of: the set of a list of notes. -/
import Derived.Test.YtibdnfcbgcbdeaaDoorNsF
namespace Go.Proofs.YtibdnfcbgcbdeaaDoor
open Go Go.RowKit Go.Shelf

/-- The words of the set of some notes, taken up one after another. -/
def ofN (l : List Nat) : Nat × Nat := l.foldl (fun s n => (s.1 ||| Ns.sLo n, s.2 ||| Ns.sHi n)) (0, 0)
theorem ofN_snoc (l : List Nat) (n : Nat) : ofN (l ++ [n]) = ((ofN l).1 ||| Ns.sLo n, (ofN l).2 ||| Ns.sHi n) := by simp [ofN]
theorem ofN_lt (l : List Nat) (h : ∀ n, n ∈ l → n < 128) : (ofN l).1 < 18446744073709551616 ∧ (ofN l).2 < 18446744073709551616 := by
  have : ∀ (l : List Nat) (s : Nat × Nat), s.1 < 18446744073709551616 → s.2 < 18446744073709551616 → (∀ n, n ∈ l → n < 128) →
      (l.foldl (fun s n => (s.1 ||| Ns.sLo n, s.2 ||| Ns.sHi n)) s).1 < 18446744073709551616 ∧ (l.foldl (fun s n => (s.1 ||| Ns.sLo n, s.2 ||| Ns.sHi n)) s).2 < 18446744073709551616 := fun l => by
    induction l with
    | nil => intro s h1 h2 _; exact ⟨h1, h2⟩
    | cons a r ih =>
      intro s h1 h2 h
      exact ih _ (Ns.or_lt h1 (Ns.sLo_lt a)) (Ns.or_lt h2 (Ns.sHi_lt a (h a (List.mem_cons_self ..)))) (fun n hn => h n (List.mem_cons_of_mem _ hn))
  exact this l (0, 0) (by decide) (by decide) h

/-- What Of returns. -/
def ofE (xs : List Int) : Nat × Nat × Int := if xs.all validB then ((ofN (xs.map Int.toNat)).1, (ofN (xs.map Int.toNat)).2, 0) else (0, 0, 3)

theorem SetAt.put {w : World} {b lo hi : Nat} (h : SetAt w b lo hi) (x y : Nat) : SetAt ((w.setCell ⟨b, 0, none⟩ (.int .u64 x)).setCell ⟨b, 1, none⟩ (.int .u64 y)) b x y := by
  simp [SetAt, World.setCell, Array.getElem?_modify, show w.heap[b]? = _ from h]

set_option maxHeartbeats 2000000 in
theorem of_upto (B off cap n m : Nat) (X : Nat → Int) (w : World) (hm : m ≤ n) (hn : n ≤ 1099511627776) (hB : B < w.heap.size)
    (hx : ∀ k, k < n → w.cell? ⟨B, off + k, none⟩ = some (.int .i64 (X k)))
    (hr : ∀ k, k < m → validB (X k) = true) (hb : m < n → validB (X m) = false) :
    Calls Tryd.prog 18 #[.slice (some ⟨B, off, none⟩) n cap] w fun e w' =>
      e = .returned (.tuple #[.agg #[.int .u64 (if m = n then (ofN ((List.range m).map fun k => (X k).toNat)).1 else 0 : Nat), .int .u64 (if m = n then (ofN ((List.range m).map fun k => (X k).toNat)).2 else 0 : Nat)], .int .i64 (if m = n then 0 else 3)]) ∧ Below w.heap.size w w' := by
  have HX := Lib.hid hx
  have HR := Lib.hid hr
  have HB := Lib.hid hb
  clear hx hr hb
  obtain ⟨S, hS⟩ : ∃ S : Nat → Nat × Nat, S = fun k => ofN ((List.range k).map fun k => (X k).toNat) := ⟨_, rfl⟩
  have HS := Lib.hid hS
  have hS0 : S 0 = (0, 0) := by rw [hS]; rfl
  have hSs : ∀ k, S (k + 1) = ((S k).1 ||| Ns.sLo (X k).toNat, (S k).2 ||| Ns.sHi (X k).toNat) := fun k => by
    rw [hS]; simp only [List.range_succ, List.map_append, List.map_cons, List.map_nil, ofN_snoc]
  have hSl : ∀ k, k ≤ m → (S k).1 < 18446744073709551616 ∧ (S k).2 < 18446744073709551616 := fun k hk => by
    rw [hS]
    exact ofN_lt _ fun y hy => by
      obtain ⟨z, hz, rfl⟩ := List.mem_map.1 hy
      have := HR.out z (by have := List.mem_range.1 hz; omega)
      simp [validB] at this
      omega
  have HS0 := Lib.hid hS0
  have HSs := Lib.hid hSs
  have HSl := Lib.hid hSl
  rw [show ofN ((List.range m).map fun k => (X k).toNat) = S m by rw [hS]]
  clear hS hS0 hSs hSl
  go_enter Tryd.func18, Tryd.ntmps18
  go_wp2
  go_loopw [9] (fun i wr => ∃ k : Nat, k ≤ m ∧ i = .int .i64 (k : Int) ∧ SetAt wr (w.heap.size + 1) (S k).1 (S k).2 ∧ Below (w.heap.size + 1) (w.alloc (.cells #[.int .u64 0, .int .u64 0] 34)) wr) (fun i _ => n - (intOf i).toNat)
  case atStart =>
    refine ⟨0, Nat.zero_le _, rfl, ?_, (Below.refl (w.heap.size + 1) (w.alloc (.cells #[.int .u64 0, .int .u64 0] 34))).alloc (by first | simp | omega | exact Nat.le_refl _) _⟩
    rw [HS0.out]
    simpa using SetAt.new (w.alloc (.cells #[.int .u64 0, .int .u64 0] 34)) 0 0
  case round =>
    obtain ⟨k, hk, rfl, hs, hw⟩ := hrel
    have hsz := hw.size
    simp at hsz
    have hz : SetAt wr w.heap.size 0 0 := (SetAt.new w 0 0).below (Nat.lt_succ_self _) hw
    have z0 := hz.fst
    have z1 := hz.snd
    have z2 := hz.f0
    have z3 := hz.f1
    simp only [Int.ofNat_zero] at z0 z1
    by_cases h1 : k < n
    · have hx0 : wr.cell? ⟨B, off + k, none⟩ = some (.int .i64 (X k)) := ((hw.cell (p := ⟨B, off + k, none⟩) (show B < w.heap.size + 1 by omega)).trans (((Below.refl w.heap.size w).alloc (Nat.le_refl _) _).cell (p := ⟨B, off + k, none⟩) hB)).trans (HX.out k h1)
      by_cases h2 : k < m
      · have hv := HR.out k h2
        have v := fun W => valid_any (X k) W
        rw [hv] at v
        have VV := Lib.hid v
        obtain ⟨x, hxe⟩ : ∃ x : Nat, X k = (x : Int) := ⟨(X k).toNat, by simp [validB] at hv; omega⟩
        have hx128 : x < 128 := by simp [validB] at hv; omega
        have hss := HSs.out k
        rw [hxe] at hss VV hx0
        simp only [Int.toNat_natCast] at hss
        have HSS := Lib.hid hss
        have hlt := HSl.out k (by omega)
        have g0 := hs.fst
        have g1 := hs.snd
        have g2 := hs.f0
        have g3 := hs.f1
        have g4 := hs.lt
        clear v hv hss hxe
        go_wp2_with (first | (go_at_call 43; refine (VV.out _).mono ?_; rintro e w' ⟨rfl, rfl⟩) | fail)
        go_region_with (first
          | (go_at_call 48; refine (single_any x hx128 _).mono ?_; rintro e w4 ⟨rfl, hb4⟩; have m0 := (bcell hb4).1 (w.heap.size + 1) 0 g4; have m1 := (bcell hb4).1 (w.heap.size + 1) 1 g4; have m2 := (bcell hb4).2 (w.heap.size + 1) 0 g4; have m3 := (bcell hb4).2 (w.heap.size + 1) 1 g4; have m4 : w.heap.size + 1 < w4.heap.size := Nat.lt_of_lt_of_le g4 hb4.size)
          | (go_at_call 32; refine (union_any _ _ _ _ hlt.1 hlt.2 (Ns.sLo_lt x) (Ns.sHi_lt x hx128) _).mono ?_; rintro e w5 ⟨rfl, hb5⟩; have q0 := (bcell hb5).1 (w.heap.size + 1) 0 m4; have q1 := (bcell hb5).1 (w.heap.size + 1) 1 m4; have q2 := (bcell hb5).2 (w.heap.size + 1) 0 m4; have q3 := (bcell hb5).2 (w.heap.size + 1) 1 m4; have q4 : w.heap.size + 1 < w5.heap.size := Nat.lt_of_lt_of_le m4 hb5.size))
        all_goals
          go_wp2
          have e4 : Below wr.heap.size wr w4 := ((Below.refl _ _).drew).trans hb4
          have hs5 : SetAt w5 (w.heap.size + 1) (S k).1 (S k).2 := (hs.below g4 e4).below m4 hb5
          have hp := hs5.put ((S k).1 ||| Ns.sLo x) ((S k).2 ||| Ns.sHi x)
          have z4 := e4.size
          go_roundw
          case rel =>
            exact ⟨k + 1, by omega, by go_num, by rw [HSS.out]; exact hp, (((hw.trans (e4.mono (by omega))).trans (hb5.mono (by omega))).setCell (p := ⟨w.heap.size + 1, 0, none⟩) (Nat.le_refl _) _).setCell (p := ⟨w.heap.size + 1, 1, none⟩) (Nat.le_refl _) _⟩
          case measure => simp [intOf]; omega
      · have hv := HB.out (by omega)
        obtain rfl : k = m := by omega
        have v := fun W => valid_any (X k) W
        rw [hv] at v
        have VV := Lib.hid v
        have hmn : ¬ k = n := by omega
        clear v hv
        go_wp2_with (first | (go_at_call 43; refine (VV.out _).mono ?_; rintro e w' ⟨rfl, rfl⟩) | fail)
        have hq := hz.put 0 0
        have q0 := hq.fst
        have q1 := hq.snd
        simp only [Int.ofNat_zero] at q0 q1
        refine bodyPost_ret (v := .tuple #[.agg #[.int .u64 0, .int .u64 0], .int .i64 3]) (by simp [results, Tryd.results18, go_sem, q0, q1]) rfl ⟨rfl, ?_⟩
        exact ((((Below.refl _ _).alloc (Nat.le_refl _) _).trans (hw.mono (Nat.le_succ _))).setCell (p := ⟨w.heap.size, 0, none⟩) (Nat.le_refl _) _).setCell (p := ⟨w.heap.size, 1, none⟩) (Nat.le_refl _) _
    · obtain rfl : m = n := by omega
      obtain rfl : k = m := by omega
      have g0 := hs.fst
      have g1 := hs.snd
      go_wp2
      have hq := hz.put (S k).1 (S k).2
      have q0 := hq.fst
      have q1 := hq.snd
      refine bodyPost_ret (v := .tuple #[.agg #[.int .u64 ((S k).1 : Nat), .int .u64 ((S k).2 : Nat)], .int .i64 0]) (by simp [results, Tryd.results18, go_sem, q0, q1]) rfl ⟨rfl, ?_⟩
      exact ((((Below.refl _ _).alloc (Nat.le_refl _) _).trans (hw.mono (Nat.le_succ _))).setCell (p := ⟨w.heap.size, 0, none⟩) (Nat.le_refl _) _).setCell (p := ⟨w.heap.size, 1, none⟩) (Nat.le_refl _) _
end Go.Proofs.YtibdnfcbgcbdeaaDoor
