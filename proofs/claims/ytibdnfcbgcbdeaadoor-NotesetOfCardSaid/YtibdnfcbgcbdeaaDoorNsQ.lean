/- The reference's Of, and NotesetOf: the law's walk. -/
import Derived.Test.YtibdnfcbgcbdeaaDoorNsO
namespace Go.Proofs.YtibdnfcbgcbdeaaDoor
open Go Go.RowKit Go.Shelf

set_option maxHeartbeats 4000000 in
theorem rof_ok (B off cap n : Nat) (X : Nat → Int) (w : World) (hn : n ≤ 1099511627776) (hB : B < w.heap.size)
    (hx : ∀ k, k < n → w.cell? ⟨B, off + k, none⟩ = some (.int .i64 (X k))) (hr : ∀ k, k < n → validB (X k) = true) :
    Calls Tryd.prog 19 #[.slice (some ⟨B, off, none⟩) n cap] w fun e w' =>
      e = .returned (.agg #[.int .u64 ((ofN ((List.range n).map fun k => (X k).toNat)).1 : Nat), .int .u64 ((ofN ((List.range n).map fun k => (X k).toNat)).2 : Nat)]) ∧ Below w.heap.size w w' := by
  have HX := Lib.hid hx
  have HR := Lib.hid hr
  clear hx hr
  obtain ⟨S, hS⟩ : ∃ S : Nat → Nat × Nat, S = fun k => ofN ((List.range k).map fun k => (X k).toNat) := ⟨_, rfl⟩
  have hS0 : S 0 = (0, 0) := by rw [hS]; rfl
  have hSs : ∀ k, S (k + 1) = ((S k).1 ||| Ns.sLo (X k).toNat, (S k).2 ||| Ns.sHi (X k).toNat) := fun k => by
    rw [hS]; simp only [List.range_succ, List.map_append, List.map_cons, List.map_nil, ofN_snoc]
  have hSl : ∀ k, k ≤ n → (S k).1 < 18446744073709551616 ∧ (S k).2 < 18446744073709551616 := fun k hk => by
    rw [hS]
    exact ofN_lt _ fun y hy => by
      obtain ⟨z, hz, rfl⟩ := List.mem_map.1 hy
      have := HR.out z (by have := List.mem_range.1 hz; omega)
      simp [validB] at this
      omega
  have HS0 := Lib.hid hS0
  have HSs := Lib.hid hSs
  have HSl := Lib.hid hSl
  rw [show ofN ((List.range n).map fun k => (X k).toNat) = S n by rw [hS]]
  clear hS hS0 hSs hSl
  go_enter Tryd.func19, Tryd.ntmps19
  go_wp2
  go_loopw [4] (fun i wr => ∃ k : Nat, k ≤ n ∧ i = .int .i64 (k : Int) ∧ SetAt wr (w.heap.size + 1) (S k).1 (S k).2 ∧ Below (w.heap.size + 1) (w.alloc (.cells #[.int .u64 0, .int .u64 0] 34)) wr) (fun i _ => n - (intOf i).toNat)
  case atStart =>
    refine ⟨0, Nat.zero_le _, rfl, ?_, (Below.refl (w.heap.size + 1) (w.alloc (.cells #[.int .u64 0, .int .u64 0] 34))).alloc (by first | simp | omega | exact Nat.le_refl _) _⟩
    rw [HS0.out]
    simpa using SetAt.new (w.alloc (.cells #[.int .u64 0, .int .u64 0] 34)) 0 0
  case round =>
    obtain ⟨k, hk, rfl, hs, hw⟩ := hrel
    have hsz := hw.size
    simp at hsz
    have hz : SetAt wr w.heap.size 0 0 := (SetAt.new w 0 0).below (Nat.lt_succ_self _) hw
    have z0 := hz.fst
    have z1 := hz.snd
    have z2 := hz.f0
    have z3 := hz.f1
    simp only [Int.ofNat_zero] at z0 z1
    by_cases h1 : k < n
    · have hx0 : wr.cell? ⟨B, off + k, none⟩ = some (.int .i64 (X k)) := ((hw.cell (p := ⟨B, off + k, none⟩) (show B < w.heap.size + 1 by omega)).trans (((Below.refl w.heap.size w).alloc (Nat.le_refl _) _).cell (p := ⟨B, off + k, none⟩) hB)).trans (HX.out k h1)
      have hv := HR.out k h1
      obtain ⟨x, hxe⟩ : ∃ x : Nat, X k = (x : Int) := ⟨(X k).toNat, by simp [validB] at hv; omega⟩
      have hx128 : x < 128 := by simp [validB] at hv; omega
      have hx127 : (x : Int) ≤ 127 := by omega
      have hss := HSs.out k
      rw [hxe] at hss hx0
      simp only [Int.toNat_natCast] at hss
      have HSS := Lib.hid hss
      have hlt := HSl.out k (by omega)
      have g0 := hs.fst
      have g1 := hs.snd
      have g2 := hs.f0
      have g3 := hs.f1
      have g4 := hs.lt
      have hkn : (k : Int) < (n : Int) := by omega
      clear hv hss hxe
      go_wp2_with fail
      go_region_with ((go_at_call 42; refine (with_any _ _ x hx128 hlt.1 hlt.2 _).mono ?_; rintro e w5 ⟨rfl, hb5⟩; have q0 := (bcell hb5).1 (w.heap.size + 1) 0 g4; have q1 := (bcell hb5).1 (w.heap.size + 1) 1 g4; have q2 := (bcell hb5).2 (w.heap.size + 1) 0 g4; have q3 := (bcell hb5).2 (w.heap.size + 1) 1 g4; have q4 : w.heap.size + 1 < w5.heap.size := Nat.lt_of_lt_of_le g4 hb5.size))
      all_goals
        go_wp2
        have e5 : Below wr.heap.size wr w5 := ((Below.refl _ _).drew).trans hb5
        have hp := (hs.below g4 e5).put ((S k).1 ||| Ns.sLo x) ((S k).2 ||| Ns.sHi x)
        go_roundw
        case rel =>
          exact ⟨k + 1, by omega, by go_num, by rw [HSS.out]; exact hp, ((hw.trans (e5.mono (by omega))).setCell (p := ⟨w.heap.size + 1, 0, none⟩) (Nat.le_refl _) _).setCell (p := ⟨w.heap.size + 1, 1, none⟩) (Nat.le_refl _) _⟩
        case measure => simp [intOf]; omega
    · obtain rfl : k = n := by omega
      have g0 := hs.fst
      have g1 := hs.snd
      go_wp2
      have hq := hz.put (S k).1 (S k).2
      have q0 := hq.fst
      have q1 := hq.snd
      refine bodyPost_ret (v := .agg #[.int .u64 ((S k).1 : Nat), .int .u64 ((S k).2 : Nat)]) (by simp [results, Tryd.results19, go_sem, q0, q1]) rfl ⟨rfl, ?_⟩
      exact ((((Below.refl _ _).alloc (Nat.le_refl _) _).trans (hw.mono (Nat.le_succ _))).setCell (p := ⟨w.heap.size, 0, none⟩) (Nat.le_refl _) _).setCell (p := ⟨w.heap.size, 1, none⟩) (Nat.le_refl _) _

/-- The law at a slice of at most 20 elements. -/
theorem of_split (n : Nat) (X : Nat → Int) : ∃ m, m ≤ n ∧ (∀ k, k < m → validB (X k) = true) ∧ (m < n → validB (X m) = false) := by
  induction n with
  | zero => exact ⟨0, Nat.le_refl _, fun k hk => absurd hk (by omega), fun h => absurd h (by omega)⟩
  | succ n ih =>
    obtain ⟨m, h1, h2, h3⟩ := ih
    by_cases hm : m < n
    · exact ⟨m, by omega, h2, fun _ => h3 hm⟩
    · obtain rfl : m = n := by omega
      cases hv : validB (X m) with
      | false => exact ⟨m, by omega, h2, fun _ => hv⟩
      | true => exact ⟨m + 1, by omega, fun k hk => by
          by_cases e : k = m
          · subst e; exact hv
          · exact h2 k (by omega), fun h => absurd h (by omega)⟩

set_option maxHeartbeats 4000000 in
theorem ofLaw_slice (B off cap n : Nat) (X : Nat → Int) (w : World) (G : Gl w) (hn : n ≤ 20) (hB : B < w.heap.size)
    (hx : ∀ k, k < n → w.cell? ⟨B, off + k, none⟩ = some (.int .i64 (X k))) :
    Calls Tryd.prog 4 #[.slice (some ⟨B, off, none⟩) n cap] w fun e w' => e = .returned (.bool true) ∧ Below w.heap.size w w' := by
  obtain ⟨m, hm, hr, hb⟩ := of_split n X
  have O := Lib.hid (fun W hW hc => of_upto B off cap n m X W hm (by omega) hW hc hr hb)
  have HX := Lib.hid hx
  have HR := Lib.hid hr
  have HB := Lib.hid hb
  have K := Lib.hid (known_any w G)
  have hn20 : ¬ (n : Int) > 20 := by omega
  clear hx hr hb
  by_cases hmn : m = n
  · subst hmn
    rw [if_pos rfl, if_pos rfl, if_pos rfl] at O
    have RO := Lib.hid (fun W hW hc => rof_ok B off cap m X W (by omega) hW hc HR.out)
    generalize (ofN ((List.range m).map fun k => (X k).toNat)).1 = x at O RO
    generalize (ofN ((List.range m).map fun k => (X k).toNat)).2 = y at O RO
    go_enter Tryd.func4, Tryd.ntmps4
    go_wp2_with fail
    refine K.out.mono ?_
    rintro e w1 ⟨rfl, hb1⟩
    have z1 := hb1.size
    go_wp2_with fail
    refine (O.out w1 (by omega) (fun k hk => (hb1.cell (p := ⟨B, off + k, none⟩) hB).trans (HX.out k hk))).mono ?_
    rintro e w2 ⟨rfl, hb2⟩
    have z2 := hb2.size
    have hw2 : Below w.heap.size w w2 := hb1.trans (hb2.mono z1)
    go_wp2_with fail
    go_loop [5] (fun i => ∃ k : Nat, k ≤ m ∧ i = .int .i64 (k : Int)) (fun i => m - (intOf i).toNat)
    case atStart => exact ⟨0, Nat.zero_le _, rfl⟩
    case round =>
      obtain ⟨k, hk, rfl⟩ := hrel
      have hbA : Below w2.heap.size w2 (w2.alloc (.cells #[.int .u64 x, .int .u64 y] 34)) := (Below.refl _ _).alloc (Nat.le_refl _) _
      by_cases h1 : k < m
      · have hx0 : (w2.alloc (.cells #[.int .u64 x, .int .u64 y] 34)).cell? ⟨B, off + k, none⟩ = some (.int .i64 (X k)) := ((hw2.trans (hbA.mono (by omega))).cell (p := ⟨B, off + k, none⟩) hB).trans (HX.out k h1)
        have hv := HR.out k h1
        simp [validB] at hv
        have v1 := hv.1
        have v2 := hv.2
        clear hv
        go_wp2_with fail
        go_round
        case rel => exact ⟨k + 1, by omega, by go_num⟩
        case measure => simp [intOf]; omega
      · obtain rfl : k = m := by omega
        have hxx := (SetAt.new w2 x y).rn
        have hwA : Below w.heap.size w (w2.alloc (.cells #[.int .u64 x, .int .u64 y] 34)) := hw2.trans (hbA.mono (by omega))
        obtain ⟨R, hR⟩ : ∃ R, R = fun W => Rn W w2.heap.size x y ∧ Below w.heap.size w W := ⟨_, rfl⟩
        have HRC : Hid (∀ A B, R A → Below A.heap.size A B → R B) := fun A B h k => by
          rw [hR] at h ⊢; exact ⟨h.1.below k, h.2.trans (k.mono h.2.size)⟩
        have toR : ∀ A, R A → Rn A w2.heap.size x y ∧ Below w.heap.size w A := fun A h => by rw [hR] at h; exact h
        have f1 : ∀ z : Held R, z.W.cell? ⟨w2.heap.size, 0, none⟩ = some (.int .u64 x) := fun z => (toR _ z.h).1.fst
        have f2 : ∀ z : Held R, z.W.cell? ⟨w2.heap.size, 1, none⟩ = some (.int .u64 y) := fun z => (toR _ z.h).1.snd
        have HRO := Lib.hid (fun z : Held R => RO.out z.W (Nat.lt_of_lt_of_le hB (toR _ z.h).2.size) (fun j hj => ((toR _ z.h).2.cell (p := ⟨B, off + j, none⟩) hB).trans (HX.out j hj)))
        have hRx : R (w2.alloc (.cells #[.int .u64 x, .int .u64 y] 34)) := by rw [hR]; exact ⟨hxx, hwA⟩
        have HRB := Lib.hid (fun A h => (toR A h).2)
        have hne : Nonempty (Held R) := ⟨⟨_, hRx⟩⟩
        clear hR toR hxx hwA hbA hw2 hb2 hb1
        go_wp2_with fail
        refine wp_region_quiet (C := fun W => ∃ z : Held R, W = z.W) (by kernel_rfl) (by kernel_rfl) ⟨⟨_, HRC.out _ _ hRx (Below.refl _ _).drew⟩, rfl⟩ ?_
        simp only []
        repeat (quiet_step (((with_reducible exact quiet_held HRC.out (HRO.out _)))))
        refine wpQuiet_nil ?_
        rintro w6 ⟨⟨W6, hR6⟩, rfl⟩
        have hB6 := HRB.out _ hR6
        go_wp2
        go_ret
        exact ⟨rfl, hB6⟩
  · rw [if_neg hmn, if_neg hmn, if_neg hmn] at O
    have hlt : m < n := by omega
    have hbad := HB.out hlt
    go_enter Tryd.func4, Tryd.ntmps4
    go_wp2_with fail
    refine K.out.mono ?_
    rintro e w1 ⟨rfl, hb1⟩
    have z1 := hb1.size
    have O1 := O.out w1 (by omega) (fun k hk => (hb1.cell (p := ⟨B, off + k, none⟩) hB).trans (HX.out k hk))
    go_wp2_with fail
    refine O1.mono ?_
    clear O1
    rintro e w2 ⟨rfl, hb2⟩
    have z2 := hb2.size
    have hw2 : Below w.heap.size w w2 := hb1.trans (hb2.mono z1)
    go_wp2_with fail
    go_loop [5] (fun i => ∃ k : Nat, k ≤ m ∧ i = .int .i64 (k : Int)) (fun i => m + 1 - (intOf i).toNat)
    case atStart => exact ⟨0, Nat.zero_le _, rfl⟩
    case round =>
      obtain ⟨k, hk, rfl⟩ := hrel
      have hbA : Below w2.heap.size w2 (w2.alloc (.cells #[.int .u64 0, .int .u64 0] 34)) := (Below.refl _ _).alloc (Nat.le_refl _) _
      have hx0 : (w2.alloc (.cells #[.int .u64 0, .int .u64 0] 34)).cell? ⟨B, off + k, none⟩ = some (.int .i64 (X k)) := ((hw2.trans (hbA.mono (by omega))).cell (p := ⟨B, off + k, none⟩) hB).trans (HX.out k (by omega))
      have hkn : (k : Int) < (n : Int) := by omega
      by_cases h1 : k < m
      · have hv := HR.out k h1
        simp [validB] at hv
        have v1 := hv.1
        have v2 := hv.2
        clear hv
        go_wp2_with fail
        go_round
        case rel => exact ⟨k + 1, by omega, by go_num⟩
        case measure => simp [intOf]; omega
      · obtain rfl : k = m := by omega
        have hvb : X k < 0 ∨ 127 < X k := by
          simp [validB] at hbad
          omega
        clear hbad
        by_cases h0 : X k < 0
        · go_wp2_with fail
          go_ret
          exact ⟨rfl, hw2.trans (hbA.mono (by omega))⟩
        · have h0' : 0 ≤ X k := by omega
          have h7 : 127 < X k := by omega
          clear hvb
          go_wp2_with fail
          go_ret
          exact ⟨rfl, hw2.trans (hbA.mono (by omega))⟩

set_option maxHeartbeats 1000000 in
theorem of_empty (a : Option Addr) (cap : Nat) (w : World) :
    Calls Tryd.prog 18 #[.slice a 0 cap] w fun e w' => e = .returned (.tuple #[.agg #[.int .u64 0, .int .u64 0], .int .i64 0]) ∧ Below w.heap.size w w' := by
  go_enter Tryd.func18, Tryd.ntmps18
  go_wp2
  go_loop [9] (fun i => i = .int .i64 0) (fun _ => 0)
  case atStart => rfl
  case round =>
    obtain rfl := hrel
    go_wp2
    refine bodyPost_ret (v := .tuple #[.agg #[.int .u64 0, .int .u64 0], .int .i64 0]) (by simp [results, Tryd.results18, go_sem]) rfl ⟨rfl, ?_⟩
    repeat (first | exact Below.refl _ _ | (refine Below.drew ?_) | (refine Below.setCell ?_ (by simp <;> omega) _) | (refine Below.alloc ?_ (by simp <;> omega) _))

set_option maxHeartbeats 1000000 in
theorem rof_empty (a : Option Addr) (cap : Nat) (w : World) :
    Calls Tryd.prog 19 #[.slice a 0 cap] w fun e w' => e = .returned (.agg #[.int .u64 0, .int .u64 0]) ∧ Below w.heap.size w w' := by
  go_enter Tryd.func19, Tryd.ntmps19
  go_wp2
  go_loop [4] (fun i => i = .int .i64 0) (fun _ => 0)
  case atStart => rfl
  case round =>
    obtain rfl := hrel
    go_wp2
    refine bodyPost_ret (v := .agg #[.int .u64 0, .int .u64 0]) (by simp [results, Tryd.results19, go_sem]) rfl ⟨rfl, ?_⟩
    repeat (first | exact Below.refl _ _ | (refine Below.drew ?_) | (refine Below.setCell ?_ (by simp <;> omega) _) | (refine Below.alloc ?_ (by simp <;> omega) _))

set_option maxHeartbeats 1000000 in
theorem ofLaw_long (a : Option Addr) (n cap : Nat) (hn : 20 < n) (w : World) (G : Gl w) :
    Calls Tryd.prog 4 #[.slice a n cap] w fun e w' => e = .returned (.bool true) ∧ Below w.heap.size w w' := by
  have K := Lib.hid (fun W g => known_any W g)
  have hn20 : (20 : Int) < (n : Int) := by omega
  go_enter Tryd.func4, Tryd.ntmps4
  go_wp2_with fail
  refine (K.out _ G).mono ?_
  rintro e w1 ⟨rfl, hb1⟩
  have G1 := G.below hb1
  go_wp2_with fail
  refine (K.out _ G1).mono ?_
  rintro e w2 ⟨rfl, hb2⟩
  go_wp2
  go_ret
  exact ⟨rfl, hb1.trans (hb2.mono hb1.size)⟩

set_option maxHeartbeats 2000000 in
theorem ofLaw_empty (a : Option Addr) (cap : Nat) (w : World) (G : Gl w) :
    Calls Tryd.prog 4 #[.slice a 0 cap] w fun e w' => e = .returned (.bool true) ∧ Below w.heap.size w w' := by
  have K := Lib.hid (known_any w G)
  have O := Lib.hid (fun W => of_empty a cap W)
  have RO := Lib.hid (fun W => rof_empty a cap W)
  go_enter Tryd.func4, Tryd.ntmps4
  go_wp2_with fail
  refine K.out.mono ?_
  rintro e w1 ⟨rfl, hb1⟩
  have z1 := hb1.size
  go_wp2_with fail
  refine (O.out _).mono ?_
  rintro e w2 ⟨rfl, hb2⟩
  have z2 := hb2.size
  have hw2 : Below w.heap.size w w2 := hb1.trans (hb2.mono z1)
  go_wp2_with fail
  go_loop [5] (fun i => i = .int .i64 0) (fun _ => 0)
  case atStart => rfl
  case round =>
    obtain rfl := hrel
    have hbA : Below w2.heap.size w2 (w2.alloc (.cells #[.int .u64 0, .int .u64 0] 34)) := (Below.refl _ _).alloc (Nat.le_refl _) _
    have hxx := (SetAt.new w2 0 0).rn
    have hwA : Below w.heap.size w (w2.alloc (.cells #[.int .u64 0, .int .u64 0] 34)) := hw2.trans (hbA.mono (by omega))
    obtain ⟨R, hR⟩ : ∃ R, R = fun W => Rn W w2.heap.size 0 0 ∧ Below w.heap.size w W := ⟨_, rfl⟩
    have HRC : Hid (∀ A B, R A → Below A.heap.size A B → R B) := fun A B h k => by
      rw [hR] at h ⊢; exact ⟨h.1.below k, h.2.trans (k.mono h.2.size)⟩
    have toR : ∀ A, R A → Rn A w2.heap.size 0 0 ∧ Below w.heap.size w A := fun A h => by rw [hR] at h; exact h
    have f1 : ∀ z : Held R, z.W.cell? ⟨w2.heap.size, 0, none⟩ = some (.int .u64 0) := fun z => (toR _ z.h).1.fst
    have f2 : ∀ z : Held R, z.W.cell? ⟨w2.heap.size, 1, none⟩ = some (.int .u64 0) := fun z => (toR _ z.h).1.snd
    have hRx : R (w2.alloc (.cells #[.int .u64 0, .int .u64 0] 34)) := by rw [hR]; exact ⟨hxx, hwA⟩
    have HRB := Lib.hid (fun A h => (toR A h).2)
    have hne : Nonempty (Held R) := ⟨⟨_, hRx⟩⟩
    clear hR toR hxx hwA hbA hw2 hb2 hb1
    go_wp2_with fail
    refine wp_region_quiet (C := fun W => ∃ z : Held R, W = z.W) (by kernel_rfl) (by kernel_rfl) ⟨⟨_, HRC.out _ _ hRx (Below.refl _ _).drew⟩, rfl⟩ ?_
    simp only []
    repeat (quiet_step (((with_reducible exact quiet_held HRC.out (RO.out _)))))
    refine wpQuiet_nil ?_
    rintro w6 ⟨⟨W6, hR6⟩, rfl⟩
    have hB6 := HRB.out _ hR6
    go_wp2
    go_ret
    exact ⟨rfl, hB6⟩

theorem ofLaw_any (a : Option Addr) (n cap : Nat) (w : World) (G : Gl w) (h : n = 0 ∨ 20 < n ∨ ∃ (B off : Nat) (X : Nat → Int), n ≤ 20 ∧ a = some ⟨B, off, none⟩ ∧ B < w.heap.size ∧ ∀ k, k < n → w.cell? ⟨B, off + k, none⟩ = some (.int .i64 (X k))) :
    Calls Tryd.prog 4 #[.slice a n cap] w fun e w' => e = .returned (.bool true) ∧ Below w.heap.size w w' := by
  rcases h with rfl | h | ⟨B, off, X, h1, rfl, h2, h3⟩
  · exact ofLaw_empty a cap w G
  · exact ofLaw_long a n cap h w G
  · exact ofLaw_slice B off cap n X w G h1 h2 h3
end Go.Proofs.YtibdnfcbgcbdeaaDoor
