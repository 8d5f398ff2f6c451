/- Text: the names of a set's notes, joined by blanks. -/
import Derived.Test.YtinopmdefndhoaaDoorNsE
import Derived.Maps.AppendAt
import Derived.Test.YtinopmdefndhoaaDoorNsShelf
import Derived.Shelf.Small.Bits
import Derived.OwnWalk
import Derived.BigQuiet
namespace Go.Proofs.YtinopmdefndhoaaDoor
open Go Go.RowKit Go.Shelf
attribute [local go_sem] Oper.semAt_some wide_fn wide_depth

theorem count_below (lo hi : Nat) (hl : lo < 18446744073709551616) (hh : hi < 18446744073709551616) (w : World) :
    Calls Tryd.prog 43 #[.agg #[.int .u64 lo, .int .u64 hi]] w fun e w' => e = .returned (.int .i64 (Ns.pc lo + Ns.pc hi : Nat)) ∧ Below w.heap.size w w' :=
  (count_any lo hi hl hh w).mono fun _ _ ⟨a, k, b⟩ => ⟨a, b ▸ below_drewN ((Below.refl _ _).alloc (Nat.le_refl _) _) k⟩

theorem boxed_step {A B : World} {b k : Nat} {t u : TypeId} {v : Value} (h : Boxed A k u v) (hu : u ≠ t) (st : Step b t A B) : Boxed B k u v := st.same k _ u _ h hu
theorem ownsRow_step {A B : World} {b base k size : Nat} {t e : TypeId} {v : Value} {xs : List Value} (h : A.ownsRow base e size v k xs) (he : e ≠ t) (st : Step b t A B) : B.ownsRow base e size v k xs :=
  ⟨h.1, h.2.imp id fun ⟨g, cap, cur, h1, h2, h3, h4⟩ => ⟨g, cap, cur, h1, h2, st.same g _ _ _ h3 he, h4⟩⟩
theorem appended_round {W w1 : World} {n₀ B : Nat} {t u e : TypeId} {size : Nat} {v v' : Value} {k : Nat} {xs : List Value} {tmp : Obj}
    (hv : Boxed W B u v) (hu : u ≠ t) (he : e ≠ t) (hrow : W.ownsRow n₀ e size v k xs) (hgrow : (W.alloc tmp).grownBy w1 v.ownBlock) : Round t W (w1.setCell ⟨B, 0, none⟩ v') where
  size := by
    have := hgrow.size
    simp [World.setCell] at this ⊢
    omega
  same := fun i o hi ho => by
    have hil := (Array.getElem?_eq_some_iff.1 hi).1
    have h1 : (W.alloc tmp).heap[i]? = some o := (Below.heap_alloc _ _ _ hil).trans hi
    have hr : some i ≠ v.ownBlock := fun ei => by
      rcases hrow.2 with ⟨rfl, _⟩ | ⟨g, cap, cur, rfl, _, hg, _⟩
      · cases ei
      · simp [Value.ownBlock] at ei
        subst ei
        rw [hg] at hi
        cases hi
        rcases ho with ho | ⟨c, ho⟩
        · simp [Obj.isCells] at ho
        · cases ho; exact he rfl
    have h2 : w1.heap[i]? = some o := (hgrow.block i (by simp; omega) hr).trans h1
    have hB : i ≠ B := fun ei => by
      subst ei
      rw [show W.heap[i]? = _ from hv] at hi
      cases hi
      rcases ho with ho | ⟨c, ho⟩
      · simp [Obj.isCells] at ho
      · cases ho; exact hu rfl
    exact (Below.heap_setCell _ _ _ _ hB).trans h2

theorem info_string : (Tryd.prog.info? 9).map (fun i => (i.zero, i.size, i.bytes)) = some (some (.string ⟨#[]⟩), 1, 16) := by kernel_rfl

def names (l : List Nat) : List Value := l.map fun n => .string (nameOf n)
theorem nameOf_size (n : Nat) (h : n < 128) : (nameOf n).size ≤ 4 := by
  have : ∀ n, n < 128 → (nameOf n).size ≤ 4 := by decide +kernel
  exact this n h
end Go.Proofs.YtinopmdefndhoaaDoor
/- Members: the notes of a set in a list of its own. -/
namespace Go.Proofs.YtinopmdefndhoaaDoor
open Go Go.RowKit Go.Shelf
attribute [local go_sem] Oper.semAt_some wide_fn wide_depth

theorem info_int : (Tryd.prog.info? 3).map (fun i => (i.zero, i.size, i.bytes)) = some (some (.int .i64 0), 1, 8) := by kernel_rfl
theorem ownsRow_mono {w : World} {base base' : Nat} {e : TypeId} {size : Nat} {v : Value} {n : Nat} {xs : List Value} (h : w.ownsRow base e size v n xs) (hb : base' ≤ base) : w.ownsRow base' e size v n xs :=
  ⟨h.1, h.2.imp id fun ⟨g, cap, cur, h1, h2, r⟩ => ⟨g, cap, cur, h1, Nat.le_trans hb h2, r⟩⟩
def ints (l : List Nat) : List Value := l.map fun n => .int .i64 (n : Nat)

end Go.Proofs.YtinopmdefndhoaaDoor
/- Of: the set of a list of notes. -/
namespace Go.Proofs.YtinopmdefndhoaaDoor
open Go Go.RowKit Go.Shelf

/-- The words of the set of some notes, taken up one after another. -/
def ofN (l : List Nat) : Nat × Nat := l.foldl (fun s n => (s.1 ||| Ns.sLo n, s.2 ||| Ns.sHi n)) (0, 0)
theorem ofN_snoc (l : List Nat) (n : Nat) : ofN (l ++ [n]) = ((ofN l).1 ||| Ns.sLo n, (ofN l).2 ||| Ns.sHi n) := by simp [ofN]
theorem ofN_lt (l : List Nat) (h : ∀ n, n ∈ l → n < 128) : (ofN l).1 < 18446744073709551616 ∧ (ofN l).2 < 18446744073709551616 := by
  have : ∀ (l : List Nat) (s : Nat × Nat), s.1 < 18446744073709551616 → s.2 < 18446744073709551616 → (∀ n, n ∈ l → n < 128) →
      (l.foldl (fun s n => (s.1 ||| Ns.sLo n, s.2 ||| Ns.sHi n)) s).1 < 18446744073709551616 ∧ (l.foldl (fun s n => (s.1 ||| Ns.sLo n, s.2 ||| Ns.sHi n)) s).2 < 18446744073709551616 := fun l => by
    induction l with
    | nil => intro s h1 h2 _; exact ⟨h1, h2⟩
    | cons a r ih =>
      intro s h1 h2 h
      exact ih _ (Ns.or_lt h1 (Ns.sLo_lt a)) (Ns.or_lt h2 (Ns.sHi_lt a (h a (List.mem_cons_self ..)))) (fun n hn => h n (List.mem_cons_of_mem _ hn))
  exact this l (0, 0) (by decide) (by decide) h

/-- What Of returns. -/
def ofE (xs : List Int) : Nat × Nat × Int := if xs.all validB then ((ofN (xs.map Int.toNat)).1, (ofN (xs.map Int.toNat)).2, 0) else (0, 0, 3)

theorem SetAt.put {w : World} {b lo hi : Nat} (h : SetAt w b lo hi) (x y : Nat) : SetAt ((w.setCell ⟨b, 0, none⟩ (.int .u64 x)).setCell ⟨b, 1, none⟩ (.int .u64 y)) b x y := by
  simp [SetAt, World.setCell, Array.getElem?_modify, show w.heap[b]? = _ from h]

set_option maxHeartbeats 2000000 in
theorem of_upto (B off cap n m : Nat) (X : Nat → Int) (w : World) (hm : m ≤ n) (hn : n ≤ 1099511627776) (hB : B < w.heap.size)
    (hx : ∀ k, k < n → w.cell? ⟨B, off + k, none⟩ = some (.int .i64 (X k)))
    (hr : ∀ k, k < m → validB (X k) = true) (hb : m < n → validB (X m) = false) :
    Calls Tryd.prog 33 #[.slice (some ⟨B, off, none⟩) n cap] w fun e w' =>
      e = .returned (.tuple #[.agg #[.int .u64 (if m = n then (ofN ((List.range m).map fun k => (X k).toNat)).1 else 0 : Nat), .int .u64 (if m = n then (ofN ((List.range m).map fun k => (X k).toNat)).2 else 0 : Nat)], .int .i64 (if m = n then 0 else 3)]) ∧ Below w.heap.size w w' := by
  have HX := Lib.hid hx
  have HR := Lib.hid hr
  have HB := Lib.hid hb
  clear hx hr hb
  obtain ⟨S, hS⟩ : ∃ S : Nat → Nat × Nat, S = fun k => ofN ((List.range k).map fun k => (X k).toNat) := ⟨_, rfl⟩
  have HS := Lib.hid hS
  have hS0 : S 0 = (0, 0) := by rw [hS]; rfl
  have hSs : ∀ k, S (k + 1) = ((S k).1 ||| Ns.sLo (X k).toNat, (S k).2 ||| Ns.sHi (X k).toNat) := fun k => by
    rw [hS]; simp only [List.range_succ, List.map_append, List.map_cons, List.map_nil, ofN_snoc]
  have hSl : ∀ k, k ≤ m → (S k).1 < 18446744073709551616 ∧ (S k).2 < 18446744073709551616 := fun k hk => by
    rw [hS]
    exact ofN_lt _ fun y hy => by
      obtain ⟨z, hz, rfl⟩ := List.mem_map.1 hy
      have := HR.out z (by have := List.mem_range.1 hz; omega)
      simp [validB] at this
      omega
  have HS0 := Lib.hid hS0
  have HSs := Lib.hid hSs
  have HSl := Lib.hid hSl
  rw [show ofN ((List.range m).map fun k => (X k).toNat) = S m by rw [hS]]
  clear hS hS0 hSs hSl
  go_enter Tryd.func33, Tryd.ntmps33
  go_wp2
  go_loopw [9] (fun i wr => ∃ k : Nat, k ≤ m ∧ i = .int .i64 (k : Int) ∧ SetAt wr (w.heap.size + 1) (S k).1 (S k).2 ∧ Below (w.heap.size + 1) (w.alloc (.cells #[.int .u64 0, .int .u64 0] 26)) wr) (fun i _ => n - (intOf i).toNat)
  case atStart =>
    refine ⟨0, Nat.zero_le _, rfl, ?_, (Below.refl (w.heap.size + 1) (w.alloc (.cells #[.int .u64 0, .int .u64 0] 26))).alloc (by first | simp | omega | exact Nat.le_refl _) _⟩
    rw [HS0.out]
    simpa using SetAt.new (w.alloc (.cells #[.int .u64 0, .int .u64 0] 26)) 0 0
  case round =>
    obtain ⟨k, hk, rfl, hs, hw⟩ := hrel
    have hsz := hw.size
    simp at hsz
    have hz : SetAt wr w.heap.size 0 0 := (SetAt.new w 0 0).below (Nat.lt_succ_self _) hw
    have z0 := hz.fst
    have z1 := hz.snd
    have z2 := hz.f0
    have z3 := hz.f1
    simp only [Int.ofNat_zero] at z0 z1
    by_cases h1 : k < n
    · have hx0 : wr.cell? ⟨B, off + k, none⟩ = some (.int .i64 (X k)) := ((hw.cell (p := ⟨B, off + k, none⟩) (show B < w.heap.size + 1 by omega)).trans (((Below.refl w.heap.size w).alloc (Nat.le_refl _) _).cell (p := ⟨B, off + k, none⟩) hB)).trans (HX.out k h1)
      by_cases h2 : k < m
      · have hv := HR.out k h2
        have v := fun W => valid_any (X k) W
        rw [hv] at v
        have VV := Lib.hid v
        obtain ⟨x, hxe⟩ : ∃ x : Nat, X k = (x : Int) := ⟨(X k).toNat, by simp [validB] at hv; omega⟩
        have hx128 : x < 128 := by simp [validB] at hv; omega
        have hss := HSs.out k
        rw [hxe] at hss VV hx0
        simp only [Int.toNat_natCast] at hss
        have HSS := Lib.hid hss
        have hlt := HSl.out k (by omega)
        have g0 := hs.fst
        have g1 := hs.snd
        have g2 := hs.f0
        have g3 := hs.f1
        have g4 := hs.lt
        clear v hv hss hxe
        go_wp2_with (first | (go_at_call 51; refine (VV.out _).mono ?_; rintro e w' ⟨rfl, rfl⟩) | fail)
        go_region_with (first
          | (go_at_call 53; refine (single_any x hx128 _).mono ?_; rintro e w4 ⟨rfl, hb4⟩; have m0 := (bcell hb4).1 (w.heap.size + 1) 0 g4; have m1 := (bcell hb4).1 (w.heap.size + 1) 1 g4; have m2 := (bcell hb4).2 (w.heap.size + 1) 0 g4; have m3 := (bcell hb4).2 (w.heap.size + 1) 1 g4; have m4 : w.heap.size + 1 < w4.heap.size := Nat.lt_of_lt_of_le g4 hb4.size)
          | (go_at_call 52; refine (union_any _ _ _ _ hlt.1 hlt.2 (Ns.sLo_lt x) (Ns.sHi_lt x hx128) _).mono ?_; rintro e w5 ⟨rfl, hb5⟩; have q0 := (bcell hb5).1 (w.heap.size + 1) 0 m4; have q1 := (bcell hb5).1 (w.heap.size + 1) 1 m4; have q2 := (bcell hb5).2 (w.heap.size + 1) 0 m4; have q3 := (bcell hb5).2 (w.heap.size + 1) 1 m4; have q4 : w.heap.size + 1 < w5.heap.size := Nat.lt_of_lt_of_le m4 hb5.size))
        all_goals
          go_wp2
          have e4 : Below wr.heap.size wr w4 := ((Below.refl _ _).drew).trans hb4
          have hs5 : SetAt w5 (w.heap.size + 1) (S k).1 (S k).2 := (hs.below g4 e4).below m4 hb5
          have hp := hs5.put ((S k).1 ||| Ns.sLo x) ((S k).2 ||| Ns.sHi x)
          have z4 := e4.size
          go_roundw
          case rel =>
            exact ⟨k + 1, by omega, by go_num, by rw [HSS.out]; exact hp, (((hw.trans (e4.mono (by omega))).trans (hb5.mono (by omega))).setCell (p := ⟨w.heap.size + 1, 0, none⟩) (Nat.le_refl _) _).setCell (p := ⟨w.heap.size + 1, 1, none⟩) (Nat.le_refl _) _⟩
          case measure => simp [intOf]; omega
      · have hv := HB.out (by omega)
        obtain rfl : k = m := by omega
        have v := fun W => valid_any (X k) W
        rw [hv] at v
        have VV := Lib.hid v
        have hmn : ¬ k = n := by omega
        clear v hv
        go_wp2_with (first | (go_at_call 51; refine (VV.out _).mono ?_; rintro e w' ⟨rfl, rfl⟩) | fail)
        have hq := hz.put 0 0
        have q0 := hq.fst
        have q1 := hq.snd
        simp only [Int.ofNat_zero] at q0 q1
        refine bodyPost_ret (v := .tuple #[.agg #[.int .u64 0, .int .u64 0], .int .i64 3]) (by simp [results, Tryd.results33, go_sem, q0, q1]) rfl ⟨rfl, ?_⟩
        exact ((((Below.refl _ _).alloc (Nat.le_refl _) _).trans (hw.mono (Nat.le_succ _))).setCell (p := ⟨w.heap.size, 0, none⟩) (Nat.le_refl _) _).setCell (p := ⟨w.heap.size, 1, none⟩) (Nat.le_refl _) _
    · obtain rfl : m = n := by omega
      obtain rfl : k = m := by omega
      have g0 := hs.fst
      have g1 := hs.snd
      go_wp2
      have hq := hz.put (S k).1 (S k).2
      have q0 := hq.fst
      have q1 := hq.snd
      refine bodyPost_ret (v := .tuple #[.agg #[.int .u64 ((S k).1 : Nat), .int .u64 ((S k).2 : Nat)], .int .i64 0]) (by simp [results, Tryd.results33, go_sem, q0, q1]) rfl ⟨rfl, ?_⟩
      exact ((((Below.refl _ _).alloc (Nat.le_refl _) _).trans (hw.mono (Nat.le_succ _))).setCell (p := ⟨w.heap.size, 0, none⟩) (Nat.le_refl _) _).setCell (p := ⟨w.heap.size, 1, none⟩) (Nat.le_refl _) _
end Go.Proofs.YtinopmdefndhoaaDoor
/- The example that every law on sets of notes begins with. -/
namespace Go.Proofs.YtinopmdefndhoaaDoor
open Go Go.RowKit Go.Shelf

def lettersV : Array Value := #[.string ⟨#[67]⟩, .string ⟨#[67, 35]⟩, .string ⟨#[68]⟩, .string ⟨#[68, 35]⟩, .string ⟨#[69]⟩, .string ⟨#[70]⟩, .string ⟨#[70, 35]⟩, .string ⟨#[71]⟩, .string ⟨#[71, 35]⟩, .string ⟨#[65]⟩, .string ⟨#[65, 35]⟩, .string ⟨#[66]⟩]
theorem of_known (b : Nat) (w : World) (hb : b < w.heap.size) (h0 : w.cell? ⟨b, 0, none⟩ = some (.int .i64 60)) (h1 : w.cell? ⟨b, 1, none⟩ = some (.int .i64 64)) (h2 : w.cell? ⟨b, 2, none⟩ = some (.int .i64 67)) :
    Calls Tryd.prog 33 #[.slice (some ⟨b, 0, none⟩) 3 3] w fun e w' => e = .returned (.tuple #[.agg #[.int .u64 (1152921504606846976 : Nat), .int .u64 (9 : Nat)], .int .i64 0]) ∧ Below w.heap.size w w' := by
  have h := of_upto b 0 3 3 3 (fun k => if k = 0 then 60 else if k = 1 then 64 else 67) w (Nat.le_refl _) (by decide) hb (fun k hk => by
      obtain rfl | rfl | rfl : k = 0 ∨ k = 1 ∨ k = 2 := by omega
      · exact h0
      · exact h1
      · exact h2) (fun k _ => by show validB _ = true; by_cases k = 0 <;> by_cases k = 1 <;> simp [*, validB]) (fun h => absurd h (by omega))
  rw [if_pos rfl, if_pos rfl, if_pos rfl] at h
  exact h

theorem pc_known : Ns.pc 1152921504606846976 + Ns.pc 9 = 3 := by decide +kernel

end Go.Proofs.YtinopmdefndhoaaDoor
/- The reference's Has and With. -/
namespace Go.Proofs.YtinopmdefndhoaaDoor
open Go Go.RowKit Go.Shelf

theorem rhas_no (a b : Nat) (n : Int) (hn : n < 0 ∨ 127 < n) (w : World) :
    Calls Tryd.prog 47 #[.agg #[.int .u64 a, .int .u64 b], .int .i64 n] w fun e w' => e = .returned (.bool false) ∧ w' = w.alloc (.cells #[.int .u64 a, .int .u64 b] 26) := by
  by_cases h0 : n < 0
  · go_enter Tryd.func47, Tryd.ntmps47
    go_wp2
    go_ret
    exact ⟨rfl, rfl⟩
  · have h1 : n > 127 := by omega
    have h2 : (0 : Int) ≤ n := by omega
    go_enter Tryd.func47, Tryd.ntmps47
    go_wp2
    go_ret
    exact ⟨rfl, rfl⟩

theorem bit_and (a n : Nat) (ha : a < 18446744073709551616) : (bits .and .u64 ((a : Int) / 2 ^ n) 1 == 1) = a.testBit n := by
  have h1 : ((a : Int) / 2 ^ n) = ((a / 2 ^ n : Nat) : Int) := by simp
  have h2 : a / 2 ^ n < 18446744073709551616 := Nat.lt_of_le_of_lt (Nat.div_le_self _ _) ha
  have h3 : bits .and .u64 ((a / 2 ^ n : Nat) : Int) 1 = ((a / 2 ^ n &&& 1 : Nat) : Int) := u64_and_nat _ 1 h2 (by decide)
  rw [h1, h3, Nat.and_one_is_mod, Nat.testBit_eq_decide_div_mod_eq, Bool.eq_iff_iff]
  simp
  omega

set_option maxHeartbeats 1000000 in
theorem rhas_low (a b n : Nat) (hn : n < 64) (ha : a < 18446744073709551616) (w : World) :
    Calls Tryd.prog 47 #[.agg #[.int .u64 a, .int .u64 b], .int .i64 n] w fun e w' => e = .returned (.bool (Ns.has a b n)) ∧ w' = w.alloc (.cells #[.int .u64 a, .int .u64 b] 26) := by
  have e0 : Ns.has a b n = a.testBit n := by unfold Ns.has; rw [if_pos (by omega)]
  rw [e0]
  clear e0
  have h1 : (n : Int) < 64 := by omega
  have h2 : (n : Int) ≤ 127 := by omega
  have e1 : IntKind.u64.wrap (n : Int) = (n : Int) := by rw [IntKind.wrap_u64]; omega
  have hb := Lib.hid (bit_and a n ha)
  go_enter Tryd.func47, Tryd.ntmps47
  go_wp2
  go_ret
  exact ⟨by rw [← hb.out]; rfl, rfl⟩

set_option maxHeartbeats 1000000 in
theorem rhas_high (a b n : Nat) (hn : 64 ≤ n) (hn2 : n < 128) (ha : b < 18446744073709551616) (w : World) :
    Calls Tryd.prog 47 #[.agg #[.int .u64 a, .int .u64 b], .int .i64 n] w fun e w' => e = .returned (.bool (Ns.has a b n)) ∧ w' = w.alloc (.cells #[.int .u64 a, .int .u64 b] 26) := by
  have e0 : Ns.has a b n = b.testBit (n - 64) := by unfold Ns.has; rw [if_neg (by omega)]
  rw [e0]
  clear e0
  have h1 : ¬ (n : Int) < 64 := by omega
  have h2 : (n : Int) ≤ 127 := by omega
  have e1 : IntKind.i64.wrap ((n : Int) - 64) = (n : Int) - 64 := by rw [IntKind.wrap_i64]; omega
  have e2 : IntKind.u64.wrap ((n : Int) - 64) = (n : Int) - 64 := by rw [IntKind.wrap_u64]; omega
  have e3 : ((n : Int) - 64).toNat = n - 64 := by omega
  have hb := Lib.hid (bit_and b (n - 64) ha)
  go_enter Tryd.func47, Tryd.ntmps47
  go_wp2
  go_ret
  exact ⟨by rw [← hb.out]; rfl, rfl⟩

theorem rhas_any (a b n : Nat) (hn : n < 128) (ha : a < 18446744073709551616) (hb : b < 18446744073709551616) (w : World) :
    Calls Tryd.prog 47 #[.agg #[.int .u64 a, .int .u64 b], .int .i64 n] w fun e w' => e = .returned (.bool (Ns.has a b n)) ∧ w' = w.alloc (.cells #[.int .u64 a, .int .u64 b] 26) := by
  by_cases h : n < 64
  · exact rhas_low a b n h ha w
  · exact rhas_high a b n (by omega) hn hb w

set_option maxHeartbeats 1000000 in
theorem with_low (a b n : Nat) (hn : n < 64) (ha : a < 18446744073709551616) (_hb : b < 18446744073709551616) (w : World) :
    Calls Tryd.prog 48 #[.agg #[.int .u64 a, .int .u64 b], .int .i64 n] w fun e w' => e = .returned (.agg #[.int .u64 ((a ||| Ns.sLo n : Nat) : Int), .int .u64 ((b ||| Ns.sHi n : Nat) : Int)]) ∧ Below w.heap.size w w' := by
  have e1 : Ns.sLo n = 2 ^ n := by unfold Ns.sLo; rw [if_pos hn]
  have e2 : Ns.sHi n = 0 := by unfold Ns.sHi; rw [if_pos hn]
  rw [e1, e2, Nat.or_zero b]
  clear e1 e2
  have h1 : (n : Int) < 64 := by omega
  have h3 : IntKind.u64.wrap (n : Int) = (n : Int) := by rw [IntKind.wrap_u64]; omega
  have h4 := wrap_pow n (by omega)
  have h5 := u64_or_nat a (2 ^ n) ha (Nat.lt_of_lt_of_le (Nat.pow_lt_pow_right (by decide) (by omega : n < 64)) (by decide : 2 ^ 64 ≤ 18446744073709551616))
  have h6 : bits .or .u64 (a : Int) ((2 : Int) ^ n) = ((a ||| 2 ^ n : Nat) : Int) := by rw [← h5]; simp
  go_enter Tryd.func48, Tryd.ntmps48
  go_wp2
  refine bodyPost_ret (v := .agg #[.int .u64 ((a ||| 2 ^ n : Nat) : Int), .int .u64 (b : Nat)]) (by simp [results, Tryd.results48, go_sem]) rfl ⟨rfl, ?_⟩
  repeat (first | exact Below.refl _ _ | (refine Below.setCell ?_ (by simp <;> omega) _) | (refine Below.alloc ?_ (by simp <;> omega) _))

set_option maxHeartbeats 1000000 in
theorem with_high (a b n : Nat) (hn : 64 ≤ n) (hn2 : n < 128) (_ha : a < 18446744073709551616) (hb : b < 18446744073709551616) (w : World) :
    Calls Tryd.prog 48 #[.agg #[.int .u64 a, .int .u64 b], .int .i64 n] w fun e w' => e = .returned (.agg #[.int .u64 ((a ||| Ns.sLo n : Nat) : Int), .int .u64 ((b ||| Ns.sHi n : Nat) : Int)]) ∧ Below w.heap.size w w' := by
  have e1 : Ns.sLo n = 0 := by unfold Ns.sLo; rw [if_neg (by omega)]
  have e2 : Ns.sHi n = 2 ^ (n - 64) := by unfold Ns.sHi; rw [if_neg (by omega)]
  rw [e1, e2, Nat.or_zero a]
  clear e1 e2
  have h1 : ¬ (n : Int) < 64 := by omega
  have h2 : IntKind.i64.wrap ((n : Int) - 64) = (n : Int) - 64 := by rw [IntKind.wrap_i64]; omega
  have h3 : IntKind.u64.wrap ((n : Int) - 64) = (n : Int) - 64 := by rw [IntKind.wrap_u64]; omega
  have e3 : ((n : Int) - 64).toNat = n - 64 := by omega
  have h4 := wrap_pow (n - 64) (by omega)
  have h5 := u64_or_nat b (2 ^ (n - 64)) hb (Nat.lt_of_lt_of_le (Nat.pow_lt_pow_right (by decide) (by omega : (n - 64) < 64)) (by decide : 2 ^ 64 ≤ 18446744073709551616))
  have h6 : bits .or .u64 (b : Int) ((2 : Int) ^ (n - 64)) = ((b ||| 2 ^ (n - 64) : Nat) : Int) := by rw [← h5]; simp
  go_enter Tryd.func48, Tryd.ntmps48
  go_wp2
  refine bodyPost_ret (v := .agg #[.int .u64 (a : Nat), .int .u64 ((b ||| 2 ^ (n - 64) : Nat) : Int)]) (by simp [results, Tryd.results48, go_sem]) rfl ⟨rfl, ?_⟩
  repeat (first | exact Below.refl _ _ | (refine Below.setCell ?_ (by simp <;> omega) _) | (refine Below.alloc ?_ (by simp <;> omega) _))

theorem with_any (a b n : Nat) (hn : n < 128) (ha : a < 18446744073709551616) (hb : b < 18446744073709551616) (w : World) :
    Calls Tryd.prog 48 #[.agg #[.int .u64 a, .int .u64 b], .int .i64 n] w fun e w' => e = .returned (.agg #[.int .u64 ((a ||| Ns.sLo n : Nat) : Int), .int .u64 ((b ||| Ns.sHi n : Nat) : Int)]) ∧ Below w.heap.size w w' := by
  by_cases h : n < 64
  · exact with_low a b n h ha hb w
  · exact with_high a b n (by omega) hn ha hb w
end Go.Proofs.YtinopmdefndhoaaDoor
/- Greatest, the reference's List, and Same. -/
namespace Go.Proofs.YtinopmdefndhoaaDoor
open Go Go.RowKit Go.Shelf

theorem bl_spec : ∀ (x : Nat), x ≠ 0 → x < 18446744073709551616 → ∃ k, Lib.bitLen x = k + 1 ∧ x.testBit k = true ∧ ∀ i, k < i → x.testBit i = false := by
  intro x
  induction x using Nat.strongRecOn with
  | ind x ih =>
    intro h0 h
    by_cases h1 : x = 1
    · subst h1
      refine ⟨0, by decide, by decide, fun i hi => ?_⟩
      exact Nat.testBit_lt_two_pow (Nat.lt_of_lt_of_le (show 1 < 2 ^ 1 by decide) (Nat.pow_le_pow_right (by decide) hi))
    · obtain ⟨k, e, t, l⟩ := ih (x / 2) (by omega) (by omega) (by omega)
      refine ⟨k + 1, by rw [Lib.bitLen_half x h0 h, e]; omega, by rw [Nat.testBit_succ]; exact t, fun i hi => ?_⟩
      obtain ⟨j, rfl⟩ : ∃ j, i = j + 1 := ⟨i - 1, by omega⟩
      rw [Nat.testBit_succ]
      exact l j (by omega)

namespace Ns
def greatest (lo hi : Nat) : Nat := if hi = 0 then Lib.bitLen lo - 1 else 64 + (Lib.bitLen hi - 1)
theorem greatest_spec (lo hi : Nat) (hl : lo < 18446744073709551616) (hh : hi < 18446744073709551616) (h : ¬ (lo = 0 ∧ hi = 0)) :
    greatest lo hi < 128 ∧ has lo hi (greatest lo hi) = true ∧ ∀ i, greatest lo hi < i → i < 128 → has lo hi i = false := by
  unfold greatest
  by_cases h0 : hi = 0
  · subst h0
    obtain ⟨k, e, t, l⟩ := bl_spec lo (fun e => h ⟨e, rfl⟩) hl
    have hk : k < 64 := by
      rcases Nat.lt_or_ge k 64 with h | h
      · exact h
      · rw [testBit_ge hl h] at t; cases t
    rw [if_pos rfl, e]
    refine ⟨by omega, ?_, fun i hi _ => ?_⟩
    · unfold has; rw [if_pos (by omega)]; exact t
    · unfold has; split
      · exact l i (by omega)
      · simp
  · obtain ⟨k, e, t, l⟩ := bl_spec hi h0 hh
    have hk : k < 64 := by
      rcases Nat.lt_or_ge k 64 with h | h
      · exact h
      · rw [testBit_ge hh h] at t; cases t
    rw [if_neg h0, e]
    refine ⟨by omega, ?_, fun i hi _ => ?_⟩
    · unfold has; rw [if_neg (by omega), show 64 + (k + 1 - 1) - 64 = k by omega]; exact t
    · unfold has; rw [if_neg (by omega)]; exact l _ (by omega)

theorem notes_snoc (lo hi : Nat) (hl : lo < 18446744073709551616) (hh : hi < 18446744073709551616) (h : ¬ (lo = 0 ∧ hi = 0)) :
    ∃ pre, notes lo hi = pre ++ [greatest lo hi] := by
  obtain ⟨h1, h2, h3⟩ := greatest_spec lo hi hl hh h
  generalize greatest lo hi = k at h1 h2 h3
  refine ⟨(List.range' 0 k).filter (fun n => has lo hi n && decide (n < 128)), ?_⟩
  unfold notes
  have e : List.range' 0 128 = List.range' 0 k ++ k :: List.range' (k + 1) (127 - k) := by
    rw [← List.range'_succ, show 127 - k + 1 = 128 - k by omega]
    have := List.range'_append (s := 0) (m := k) (n := 128 - k) (step := 1)
    simp only [Nat.one_mul, Nat.zero_add] at this
    rw [this]
    congr 1
    omega
  rw [e, List.filter_append, List.filter_cons_of_pos (by simp [h2, h1])]
  congr 2
  rw [List.filter_eq_nil_iff]
  intro n hn
  have := List.mem_range'_1.1 hn
  rw [h3 n (by omega) (by omega)]
  simp
theorem notes_eq (lo hi : Nat) : notes lo hi = (List.range' 0 128).filter (fun n => has lo hi n) := by
  unfold notes
  apply List.filter_congr
  intro n hn
  have := List.mem_range'_1.1 hn
  rw [decide_eq_true (by omega), Bool.and_true]
end Ns

theorem len64_at (x : Nat) (hx : x < 18446744073709551616) (w : World) : Calls Tryd.prog 50 #[.int .u64 x] w fun e w' => e = .returned (.int .i64 (Lib.bitLen x : Nat)) ∧ w' = w :=
  Any.bits_Len64 Tryd.lays129 x w (by omega) (by omega)

set_option maxHeartbeats 400000 in
theorem greatest_high (lo hi : Nat) (hh : hi < 18446744073709551616) (h0 : hi ≠ 0) (w : World) :
    Calls Tryd.prog 32 #[.agg #[.int .u64 lo, .int .u64 hi]] w fun e w' => e = .returned (.tuple #[.int .i64 (Ns.greatest lo hi : Nat), .bool true]) ∧ Below w.heap.size w w' := by
  obtain ⟨k, hk, ht, _⟩ := bl_spec hi h0 hh
  have hk64 : k < 64 := by
    rcases Nat.lt_or_ge k 64 with h | h
    · exact h
    · rw [Ns.testBit_ge hh h] at ht; cases ht
  have e1 : (Ns.greatest lo hi : Int) = 64 + (k : Int) := by unfold Ns.greatest; rw [if_neg h0, hk]; omega
  rw [e1]
  have c := fun W => len64_at hi hh W
  rw [hk] at c
  have C := Lib.hid c
  clear c hk ht e1
  have hne : ((hi : Int) != 0) = true := by simp; omega
  have hw1 : IntKind.i64.wrap (64 + ((k : Int) + 1)) = 65 + k := by rw [IntKind.wrap_i64]; omega
  have hw2 : IntKind.i64.wrap (65 + (k : Int) - 1) = 64 + k := by rw [IntKind.wrap_i64]; omega
  go_enter Tryd.func32, Tryd.ntmps32
  go_wp2_with fail
  refine (C.out _).mono ?_
  rintro e w' ⟨rfl, rfl⟩
  go_wp2
  go_ret2
  exact ⟨rfl, (Below.refl _ _).alloc (Nat.le_refl _) _⟩

set_option maxHeartbeats 400000 in
theorem greatest_low (lo : Nat) (hl : lo < 18446744073709551616) (h0 : lo ≠ 0) (w : World) :
    Calls Tryd.prog 32 #[.agg #[.int .u64 lo, .int .u64 0]] w fun e w' => e = .returned (.tuple #[.int .i64 (Ns.greatest lo 0 : Nat), .bool true]) ∧ Below w.heap.size w w' := by
  obtain ⟨k, hk, ht, _⟩ := bl_spec lo h0 hl
  have hk64 : k < 64 := by
    rcases Nat.lt_or_ge k 64 with h | h
    · exact h
    · rw [Ns.testBit_ge hl h] at ht; cases ht
  have e1 : (Ns.greatest lo 0 : Int) = (k : Int) := by unfold Ns.greatest; rw [if_pos rfl, hk]; omega
  rw [e1]
  have c := fun W => len64_at lo hl W
  rw [hk] at c
  have C := Lib.hid c
  clear c hk ht e1
  have hne : ((lo : Int) != 0) = true := by simp; omega
  have hw2 : IntKind.i64.wrap ((k : Int) + 1 - 1) = k := by rw [IntKind.wrap_i64]; omega
  go_enter Tryd.func32, Tryd.ntmps32
  go_wp2_with fail
  refine (C.out _).mono ?_
  rintro e w' ⟨rfl, rfl⟩
  go_wp2
  go_ret2
  exact ⟨rfl, (Below.refl _ _).alloc (Nat.le_refl _) _⟩

theorem greatest_none (w : World) :
    Calls Tryd.prog 32 #[.agg #[.int .u64 0, .int .u64 0]] w fun e w' => e = .returned (.tuple #[.int .i64 0, .bool false]) ∧ Below w.heap.size w w' := by
  go_enter Tryd.func32, Tryd.ntmps32
  go_wp2
  go_ret2
  exact ⟨rfl, (Below.refl _ _).alloc (Nat.le_refl _) _⟩

def upto (lo hi k : Nat) : List Nat := (List.range' 0 k).filter fun n => Ns.has lo hi n
theorem upto_succ (lo hi k : Nat) : upto lo hi (k + 1) = if Ns.has lo hi k then upto lo hi k ++ [k] else upto lo hi k := by
  unfold upto
  rw [List.range'_1_concat, List.filter_append]
  cases h : Ns.has lo hi k <;> simp [h]
theorem upto_length (lo hi k : Nat) : (upto lo hi k).length ≤ k := by
  unfold upto
  exact Nat.le_trans (List.length_filter_le _ _) (by simp)

theorem rhas_below (a b n : Nat) (hn : n < 128) (ha : a < 18446744073709551616) (hb : b < 18446744073709551616) (w : World) :
    Calls Tryd.prog 47 #[.agg #[.int .u64 a, .int .u64 b], .int .i64 n] w fun e w' => e = .returned (.bool (Ns.has a b n)) ∧ Below w.heap.size w w' :=
  (rhas_any a b n hn ha hb w).mono fun _ _ ⟨h1, h2⟩ => ⟨h1, h2 ▸ (Below.refl _ _).alloc (Nat.le_refl _) _⟩

/-- A row that is appended to is all that is written: below its base nothing is. -/
theorem grown_below {W w1 : World} {B e size : Nat} {v : Value} {k : Nat} {xs : List Value} {o : Obj} (hB : B ≤ W.heap.size) (hrow : W.ownsRow B e size v k xs) (hg : (W.alloc o).grownBy w1 v.ownBlock) : Below B W w1 :=
  ((Below.refl B W).alloc hB o).grown hg (by simp; omega) (fun g hgv => by
    rcases hrow.2 with ⟨rfl, _⟩ | ⟨g', cap, cur, rfl, h1, _⟩
    · cases hgv
    · simp [Value.ownBlock] at hgv
      omega)

set_option maxRecDepth 100000 in
set_option maxHeartbeats 2000000 in
theorem list_any (lo hi : Nat) (hl : lo < 18446744073709551616) (hh : hi < 18446744073709551616) (w : World) :
    Calls Tryd.prog 23 #[.agg #[.int .u64 lo, .int .u64 hi]] w fun e w' => (∃ v, e = .returned v ∧ w'.ownsRow w.heap.size 3 1 v (Ns.notes lo hi).length (ints (Ns.notes lo hi))) ∧ Below w.heap.size w w' := by
  obtain ⟨i0, hi0, hz0, hz1, hz2⟩ := info_parts info_int
  have e128 : Ns.notes lo hi = upto lo hi 128 := Ns.notes_eq lo hi
  rw [e128]
  clear e128
  have HS := Lib.hid (fun k => upto_succ lo hi k)
  have HL := Lib.hid (fun k => upto_length lo hi k)
  have RH := Lib.hid (fun k (hk : k < 128) W => rhas_below lo hi k hk hl hh W)
  go_enter Tryd.func23, Tryd.ntmps23
  go_wp2
  go_loopw [4, 3] (fun i v wr => ∃ k : Nat, k ≤ 128 ∧ i = .int .i64 (k : Int) ∧ wr.ownsRow (w.heap.size + 1) 3 1 v (upto lo hi k).length (ints (upto lo hi k)) ∧ Below (w.heap.size + 1) (w.alloc (.cells #[.int .u64 lo, .int .u64 hi] 26)) wr) (fun i _ _ => 128 - (intOf i).toNat)
  case atStart => exact ⟨0, Nat.zero_le _, rfl, World.ownsRow_nil _ _ _ _, Below.refl _ _⟩
  case round =>
    obtain ⟨k, hk, rfl, hrow, hw⟩ := hrel
    have hsz := hw.size
    simp at hsz
    have hz : SetAt wr w.heap.size lo hi := (SetAt.new w lo hi).below (Nat.lt_succ_self _) hw
    have z0 := hz.fst
    have z1 := hz.snd
    have hlen := HL.out k
    have hsucc := HS.out k
    by_cases h1 : k < 128
    · have hk127 : (k : Int) ≤ 127 := by omega
      have R := Lib.hid (fun W => RH.out k h1 W)
      cases hb : Ns.has lo hi k with
      | false =>
        rw [hb] at R hsucc
        have HSS := Lib.hid hsucc
        clear hsucc
        go_wp2_with fail
        refine (R.out _).mono ?_
        rintro e w5 ⟨rfl, hb5⟩
        have hrow5 := ownsRow_step hrow (t := 26) (b := 0) (by decide) (Step.of_below (Nat.zero_le _) hb5)
        go_wp2
        go_roundw
        case rel => exact ⟨k + 1, by omega, by go_num, by rw [HSS.out]; exact hrow5, hw.trans (hb5.mono (by omega))⟩
        case measure => simp [intOf]; omega
      | true =>
        rw [hb] at R hsucc
        have HSS := Lib.hid hsucc
        clear hsucc
        go_wp2_with fail
        refine (R.out _).mono ?_
        rintro e w5 ⟨rfl, hb5⟩
        have hrow5 := ownsRow_step hrow (t := 26) (b := 0) (by decide) (Step.of_below (Nat.zero_le _) hb5)
        have hz5 := hb5.size
        go_wp2_with (at_builtin; refine wpList_append_own _ rfl _ _ 48 rfl (w.heap.size + 1) 3 i0 (.int .i64 0) 1 8 Tryd.underlying48 hi0 hz0 hz1 hz2 rfl (by decide) _ _ _ rfl (hrow5.alloc _) ⟨w5.heap.size, 0, none⟩ 1 1 [.int .i64 (k : Nat)] rfl rfl (cell_one_new _ _ _) (by simp [Value.oneCell']) (by unfold maxLen; omega) (by omega) (by simp; omega) ?_; intro v' w6 hown' hgrow _)
        have hb6 := grown_below (by omega) hrow5 hgrow
        go_roundw
        case rel => exact ⟨k + 1, by omega, by go_num, by rw [HSS.out]; simpa [ints] using hown', (hw.trans (hb5.mono (by omega))).trans hb6⟩
        case measure => simp [intOf]; omega
    · obtain rfl : k = 128 := by omega
      go_wp2
      go_ret
      exact ⟨⟨_, rfl, ownsRow_mono hrow (by omega)⟩, ((Below.refl _ _).alloc (Nat.le_refl _) _).trans (hw.mono (Nat.le_succ _))⟩
end Go.Proofs.YtinopmdefndhoaaDoor
/- Same: two lists that read alike. -/
namespace Go.Proofs.YtinopmdefndhoaaDoor
open Go Go.RowKit Go.Shelf

/-- The ints of a slice, as they are read. -/
def RowAt (W : World) (v : Value) (n : Nat) (X : Nat → Int) : Prop :=
  (n = 0 ∧ ∃ a c, v = .slice a 0 c) ∨ ∃ g off c, v = .slice (some ⟨g, off, none⟩) n c ∧ g < W.heap.size ∧ ∀ k, k < n → W.cell? ⟨g, off + k, none⟩ = some (.int .i64 (X k))

theorem RowAt.open {W : World} {v : Value} {n : Nat} {X : Nat → Int} (h : RowAt W v n X) : ∃ a c, v = .slice a n c ∧ (0 < n → ∃ g off, a = some ⟨g, off, none⟩ ∧ g < W.heap.size ∧ ∀ k, k < n → W.cell? ⟨g, off + k, none⟩ = some (.int .i64 (X k))) := by
  rcases h with ⟨rfl, a, c, rfl⟩ | ⟨g, off, c, rfl, h1, h2⟩
  · exact ⟨a, c, rfl, fun h => absurd h (by decide)⟩
  · exact ⟨_, c, rfl, fun _ => ⟨g, off, rfl, h1, h2⟩⟩

end Go.Proofs.YtinopmdefndhoaaDoor
/- The law's check and player. -/
namespace Go.Proofs.YtinopmdefndhoaaDoor
open Go Go.RowKit Go.Shelf

theorem heap_new {X : World} {o : Obj} {k : Nat} (hk : k = X.heap.size) : (X.alloc o).heap[k]? = some o := by subst hk; exact World.alloc_heap_new X o
theorem heap_old {X : World} {o o' : Obj} {k : Nat} (h : X.heap[k]? = some o') : (X.alloc o).heap[k]? = some o' := (Below.heap_alloc _ _ _ (Array.getElem?_eq_some_iff.1 h).1).trans h
theorem heap_kept {A B : World} {k : Nat} {o : Obj} (hb : Below A.heap.size A B) (h : A.heap[k]? = some o) : B.heap[k]? = some o := (hb.block k (Array.getElem?_eq_some_iff.1 h).1).trans h
theorem cell2_0 {W : World} {b : Nat} {c0 c1 : Value} {T : TypeId} (h : W.heap[b]? = some (.cells #[c0, c1] T)) : W.cell? ⟨b, 0, none⟩ = some c0 := by simp [World.cell?, h]
theorem cell2_1 {W : World} {b : Nat} {c0 c1 : Value} {T : TypeId} (h : W.heap[b]? = some (.cells #[c0, c1] T)) : W.cell? ⟨b, 1, none⟩ = some c1 := by simp [World.cell?, h]
theorem cell4_0 {W : World} {b : Nat} {c0 c1 c2 c3 : Value} {T : TypeId} (h : W.heap[b]? = some (.cells #[c0, c1, c2, c3] T)) : W.cell? ⟨b, 0, none⟩ = some c0 := by simp [World.cell?, h]
theorem cell4_1 {W : World} {b : Nat} {c0 c1 c2 c3 : Value} {T : TypeId} (h : W.heap[b]? = some (.cells #[c0, c1, c2, c3] T)) : W.cell? ⟨b, 1, none⟩ = some c1 := by simp [World.cell?, h]
theorem cell4_2 {W : World} {b : Nat} {c0 c1 c2 c3 : Value} {T : TypeId} (h : W.heap[b]? = some (.cells #[c0, c1, c2, c3] T)) : W.cell? ⟨b, 2, none⟩ = some c2 := by simp [World.cell?, h]
theorem cell4_3 {W : World} {b : Nat} {c0 c1 c2 c3 : Value} {T : TypeId} (h : W.heap[b]? = some (.cells #[c0, c1, c2, c3] T)) : W.cell? ⟨b, 3, none⟩ = some c3 := by simp [World.cell?, h]
/-- The error of a player. -/
def chk (a b c d : Int) : Int := if 0 ≤ a ∧ a ≤ 10 ∧ 0 ≤ c ∧ c ≤ 10 ∧ 0 ≤ b ∧ b ≤ 127 ∧ 0 ≤ d ∧ d ≤ 127 then 0 else 3
theorem player_any (w : World) : Calls Tryd.prog 36 #[] w fun e w' => e = .returned (.agg #[.int .i64 5, .int .i64 12, .int .i64 2, .int .i64 12]) ∧ Below w.heap.size w w' := by
  go_enter Tryd.func36, Tryd.ntmps36
  go_wp2
  refine bodyPost_ret (v := .agg #[.int .i64 5, .int .i64 12, .int .i64 2, .int .i64 12]) (by simp [results, Tryd.results36, go_sem]) rfl ⟨rfl, by go_grown⟩
set_option maxHeartbeats 2000000 in
theorem chkp_any (a b c d : Int) (w : World) :
    Calls Tryd.prog 13 #[.agg #[.int .i64 a, .int .i64 b, .int .i64 c, .int .i64 d]] w fun e w' => e = .returned (.int .i64 (chk a b c d)) ∧ Below w.heap.size w w' := by
  obtain ⟨D, hD⟩ : ∃ D, w.heap.size = D := ⟨_, rfl⟩
  have HB := Lib.hid (show ¬ (0 ≤ a ∧ a ≤ 10 ∧ 0 ≤ c ∧ c ≤ 10 ∧ 0 ≤ b ∧ b ≤ 127 ∧ 0 ≤ d ∧ d ≤ 127) → chk a b c d = 3 from fun h => if_neg h)
  have HG := Lib.hid (show (0 ≤ a ∧ a ≤ 10 ∧ 0 ≤ c ∧ c ≤ 10 ∧ 0 ≤ b ∧ b ≤ 127 ∧ 0 ≤ d ∧ d ≤ 127) → chk a b c d = 0 from fun h => if_pos h)
  generalize chk a b c d = R at *
  go_enter Tryd.func13, Tryd.ntmps13
  go_wp2_with fail
  obtain ⟨V1, hV1⟩ : ∃ V : World, (w.alloc (.cells #[.int .i64 a, .int .i64 b, .int .i64 c, .int .i64 d] 23)).alloc (.cells #[.int .i64 a, .int .i64 c] 3) = V := ⟨_, rfl⟩
  have hwV1 : Below D w V1 := by rw [← hV1]; exact ((Below.refl _ w).alloc (by omega) _).alloc (by simp; omega) _
  have hpV1 : V1.heap[D]? = some (.cells #[.int .i64 a, .int .i64 b, .int .i64 c, .int .i64 d] 23) := by rw [← hV1]; exact heap_old (heap_new hD.symm)
  have hsV1 : V1.heap[D + 1]? = some (.cells #[.int .i64 a, .int .i64 c] 3) := by rw [← hV1]; exact heap_new (by simp [hD])
  try rw [hV1]
  clear hV1
  go_loopw [13] (fun i wr => (i = .int .i64 0 ∨ (i = .int .i64 1 ∧ (0 ≤ a ∧ a ≤ 10)) ∨ (i = .int .i64 2 ∧ (0 ≤ a ∧ a ≤ 10) ∧ (0 ≤ c ∧ c ≤ 10))) ∧ Below D w wr ∧ wr.heap[D]? = some (.cells #[.int .i64 a, .int .i64 b, .int .i64 c, .int .i64 d] 23) ∧ wr.heap[D + 1]? = some (.cells #[.int .i64 a, .int .i64 c] 3)) (fun i _ => 2 - (intOf i).toNat)
  case atStart => exact ⟨.inl rfl, hwV1, hpV1, hsV1⟩
  case round =>
    obtain ⟨hk, hw, hp, hs⟩ := hrel
    clear hwV1 hpV1 hsV1
    rcases hk with rfl | ⟨rfl, k0⟩ | ⟨rfl, k0, k1⟩
    · have y := cell2_0 hs
      have HW := Lib.hid hw
      have HP := Lib.hid hp
      have HS := Lib.hid hs
      clear hw hp hs
      by_cases c_ : a < 0
      · have e := HB.out (by omega)
        subst e
        go_wp2
        go_ret
        exact ⟨rfl, by first | exact HW.out | (rw [hD]; exact HW.out)⟩
      have c0_ := c_
      clear c_
      by_cases c_ : 10 < a
      · have e := HB.out (by omega)
        subst e
        go_wp2
        go_ret
        exact ⟨rfl, by first | exact HW.out | (rw [hD]; exact HW.out)⟩
      have c1_ := c_
      clear c_
      go_wp2
      exact ⟨⟨.inr (.inl ⟨rfl, by omega, by omega⟩), HW.out, HP.out, HS.out⟩, by decide⟩
    · have y := cell2_1 hs
      have HW := Lib.hid hw
      have HP := Lib.hid hp
      have HS := Lib.hid hs
      clear hw hp hs
      have K0 := Lib.hid k0
      clear k0
      by_cases c_ : c < 0
      · have e := HB.out (by omega)
        subst e
        go_wp2
        go_ret
        exact ⟨rfl, by first | exact HW.out | (rw [hD]; exact HW.out)⟩
      have c0_ := c_
      clear c_
      by_cases c_ : 10 < c
      · have e := HB.out (by omega)
        subst e
        go_wp2
        go_ret
        exact ⟨rfl, by first | exact HW.out | (rw [hD]; exact HW.out)⟩
      have c1_ := c_
      clear c_
      go_wp2
      exact ⟨⟨.inr (.inr ⟨rfl, K0.out, by omega, by omega⟩), HW.out, HP.out, HS.out⟩, by decide⟩
    · have yb := cell4_1 hp
      have yd := cell4_3 hp
      obtain ⟨wo, hwo_⟩ : ∃ wo, wo = wr := ⟨_, rfl⟩
      subst hwo_
      obtain ⟨E, hE⟩ : ∃ E, wo.heap.size = E := ⟨_, rfl⟩
      have hwo := hw
      have hpo := hp
      clear hw hp hs
      go_wp2_with fail
      obtain ⟨V2, hV2⟩ : ∃ V : World, wo.alloc (.cells #[.int .i64 b, .int .i64 d] 3) = V := ⟨_, rfl⟩
      have hwV2 : Below D w V2 := by rw [← hV2]; exact hwo.alloc (by have := hwo.size; omega) _
      have hpV2 : V2.heap[D]? = some (.cells #[.int .i64 a, .int .i64 b, .int .i64 c, .int .i64 d] 23) := by rw [← hV2]; exact heap_old hpo
      have hsV2 : V2.heap[E]? = some (.cells #[.int .i64 b, .int .i64 d] 3) := by rw [← hV2]; exact heap_new hE.symm
      try rw [hV2]
      clear hV2
      go_loopw [30] (fun i wr => (i = .int .i64 0 ∨ (i = .int .i64 1 ∧ (0 ≤ b ∧ b ≤ 127)) ∨ (i = .int .i64 2 ∧ (0 ≤ b ∧ b ≤ 127) ∧ (0 ≤ d ∧ d ≤ 127))) ∧ Below D w wr ∧ wr.heap[D]? = some (.cells #[.int .i64 a, .int .i64 b, .int .i64 c, .int .i64 d] 23) ∧ wr.heap[E]? = some (.cells #[.int .i64 b, .int .i64 d] 3)) (fun i _ => 2 - (intOf i).toNat)
      case atStart => exact ⟨.inl rfl, hwV2, hpV2, hsV2⟩
      case round =>
        obtain ⟨hk, hw, hp, hs⟩ := hrel
        clear hwV2 hpV2 hsV2
        rcases hk with rfl | ⟨rfl, k0⟩ | ⟨rfl, k0, k1⟩
        · have y := cell2_0 hs
          have HW := Lib.hid hw
          have HP := Lib.hid hp
          have HS := Lib.hid hs
          clear hw hp hs
          by_cases c_ : b < 0
          · have e := HB.out (by omega)
            subst e
            go_wp2
            go_ret
            exact ⟨rfl, by first | exact HW.out | (rw [hD]; exact HW.out)⟩
          have c0_ := c_
          clear c_
          by_cases c_ : 127 < b
          · have e := HB.out (by omega)
            subst e
            go_wp2
            go_ret
            exact ⟨rfl, by first | exact HW.out | (rw [hD]; exact HW.out)⟩
          have c1_ := c_
          clear c_
          go_wp2
          exact ⟨⟨.inr (.inl ⟨rfl, by omega, by omega⟩), HW.out, HP.out, HS.out⟩, by decide⟩
        · have y := cell2_1 hs
          have HW := Lib.hid hw
          have HP := Lib.hid hp
          have HS := Lib.hid hs
          clear hw hp hs
          have K0 := Lib.hid k0
          clear k0
          by_cases c_ : d < 0
          · have e := HB.out (by omega)
            subst e
            go_wp2
            go_ret
            exact ⟨rfl, by first | exact HW.out | (rw [hD]; exact HW.out)⟩
          have c0_ := c_
          clear c_
          by_cases c_ : 127 < d
          · have e := HB.out (by omega)
            subst e
            go_wp2
            go_ret
            exact ⟨rfl, by first | exact HW.out | (rw [hD]; exact HW.out)⟩
          have c1_ := c_
          clear c_
          go_wp2
          exact ⟨⟨.inr (.inr ⟨rfl, K0.out, by omega, by omega⟩), HW.out, HP.out, HS.out⟩, by decide⟩
        · have e := HG.out (by omega)
          subst e
          have HW := Lib.hid hw
          clear hp hs hw
          go_wp2
          go_ret
          exact ⟨rfl, by first | exact HW.out | (rw [hD]; exact HW.out)⟩
end Go.Proofs.YtinopmdefndhoaaDoor
/- The law's holds. -/
namespace Go.Proofs.YtinopmdefndhoaaDoor
open Go Go.RowKit Go.Shelf

/-- Whether notes in order are not too many and not too wide. -/
def holdX (X : Nat → Int) (n : Nat) (k wd : Int) : Bool := decide ((n : Int) ≤ k) && (decide (n = 0) || decide (X (n - 1) - X 0 ≤ wd))
theorem drew_below' (w : World) (m : Nat) : Below w.heap.size w (w.drewN m) := ⟨rfl, rfl, rfl, Nat.le_refl _, fun _ _ => rfl⟩
set_option maxHeartbeats 2000000 in
theorem holds_any (v : Value) (n : Nat) (X : Nat → Int) (k wd : Int) (w : World) (h : RowAt w v n X) (hn : n ≤ 1000) (hX : ∀ j, j < n → 0 ≤ X j ∧ X j ≤ 127) :
    Calls Tryd.prog 22 #[v, .int .i64 k, .int .i64 wd] w fun e w' => e = .returned (.bool (holdX X n k wd)) ∧ ∃ nn, w' = w.drewN nn := by
  obtain ⟨a, c, rfl, hc⟩ := h.open
  by_cases h1 : (n : Int) ≤ k
  · by_cases h0 : n = 0
    · subst h0
      have hr : holdX X 0 k wd = true := by simp [holdX]; omega
      rw [hr]
      clear hc hX hr
      have h2 : (0 : Int) ≤ k := by omega
      go_enter Tryd.func22, Tryd.ntmps22
      go_wp2_with (go_quiet (fail))
      go_ret
      exact ⟨rfl, _, rfl⟩
    · obtain ⟨g, off, rfl, hg, hcell⟩ := hc (by omega)
      obtain ⟨m, hm⟩ : ∃ m, n - 1 = m := ⟨_, rfl⟩
      have r0 := hcell 0 (by omega)
      have r1 := hcell m (by omega)
      have b0 := hX 0 (by omega)
      have b1 := hX m (by omega)
      have hr : holdX X n k wd = decide (X m - X 0 ≤ wd) := by simp [holdX, h0, h1, hm]
      rw [hr]
      have hz : ((n : Int) == 0) = false := by rw [beq_eq_false_iff_ne]; omega
      have hz' : ¬ (n : Int) = 0 := by omega
      have e1 : (n : Int) - 1 = (m : Int) := by omega
      have e2 : IntKind.i64.wrap ((n : Int) - 1) = (m : Int) := by rw [e1, IntKind.wrap_i64]; omega
      have e3 : wrap64 ((n : Int) - 1) = (m : Int) := by unfold wrap64; omega
      have e4 : wrap64 (X m - X 0) = X m - X 0 := by unfold wrap64; omega
      have e5 : IntKind.i64.wrap (X m - X 0) = X m - X 0 := by rw [IntKind.wrap_i64]; omega
      have l1 : m < n := by omega
      have l2 : 0 < n := by omega
      have l3 : (m : Int) < n := by omega
      have l4 : (0 : Int) < n := by omega
      simp only [Nat.add_zero] at r0
      generalize X m = y1 at *
      generalize X 0 = y0 at *
      clear hc hX hr hcell hm
      go_enter Tryd.func22, Tryd.ntmps22
      go_wp2_with (go_quiet (fail))
      go_ret
      exact ⟨rfl, _, rfl⟩
  · have hr : holdX X n k wd = false := by simp [holdX, h1]
    rw [hr]
    clear hc hX hr
    go_enter Tryd.func22, Tryd.ntmps22
    go_wp2_with (go_quiet (fail))
    go_ret
    exact ⟨rfl, _, rfl⟩
end Go.Proofs.YtinopmdefndhoaaDoor
/- The law's divisions. -/
namespace Go.Proofs.YtinopmdefndhoaaDoor
open Go Go.RowKit Go.Shelf

def divB (X : Nat → Int) (n : Nat) (k wd : Int) (t : Nat) : Bool := holdX X t k wd && holdX (fun j => X (t + j)) (n - t) k wd
def divU (X : Nat → Int) (n : Nat) (k wd : Int) (m : Nat) : List Nat := (List.range' 0 m).filter fun t => divB X n k wd t
theorem divU_succ (X : Nat → Int) (n : Nat) (k wd : Int) (m : Nat) : divU X n k wd (m + 1) = if divB X n k wd m then divU X n k wd m ++ [m] else divU X n k wd m := by
  unfold divU
  rw [List.range'_1_concat, List.filter_append]
  cases h : divB X n k wd m <;> simp [h]
theorem divU_length (X : Nat → Int) (n : Nat) (k wd : Int) (m : Nat) : (divU X n k wd m).length ≤ m := by
  unfold divU
  exact Nat.le_trans (List.length_filter_le _ _) (by simp)

set_option maxRecDepth 100000 in
set_option maxHeartbeats 4000000 in
theorem divisions_some (g off cc n : Nat) (X : Nat → Int) (a b c d : Int) (w : World) (hn : n ≤ 1000) (hX : ∀ j, j < n → 0 ≤ X j ∧ X j ≤ 127) (hcc : n ≤ cc) (hg : g < w.heap.size) (hcell : ∀ k, k < n → w.cell? ⟨g, off + k, none⟩ = some (.int .i64 (X k))) :
    Calls Tryd.prog 25 #[.agg #[.int .i64 a, .int .i64 b, .int .i64 c, .int .i64 d], .slice (some ⟨g, off, none⟩) n cc] w fun e w' => (∃ v, e = .returned v ∧ w'.ownsRow w.heap.size 3 1 v (divU X n a b (n + 1)).length (ints (divU X n a b (n + 1)))) ∧ Below w.heap.size w w' := by
  obtain ⟨i0, hi0, hz0, hz1, hz2⟩ := info_parts info_int
  obtain ⟨D, hD⟩ : ∃ D, w.heap.size = D := ⟨_, rfl⟩
  go_enter Tryd.func25, Tryd.ntmps25
  go_wp2_with fail
  go_loopw [6, 5] (fun i v wr => ∃ t : Nat, t ≤ n + 1 ∧ i = .int .i64 (t : Int) ∧ wr.ownsRow (D + 1) 3 1 v (divU X n a b t).length (ints (divU X n a b t)) ∧ Below (D + 1) (w.alloc (.cells #[.int .i64 a, .int .i64 b, .int .i64 c, .int .i64 d] 23)) wr) (fun i _ _ => n + 1 - (intOf i).toNat)
  case atStart => exact ⟨0, Nat.zero_le _, rfl, World.ownsRow_nil _ _ _ _, by rw [← hD]; exact Below.refl _ _⟩
  case round =>
    obtain ⟨t, ht, rfl, hrow, hw⟩ := hrel
    have hsz := hw.size
    simp at hsz
    by_cases h1 : t ≤ n
    · have hp : wr.heap[D]? = some (.cells #[.int .i64 a, .int .i64 b, .int .i64 c, .int .i64 d] 23) := (hw.block D (by omega)).trans (heap_new hD.symm)
      have p0 := cell4_0 hp
      have p1 := cell4_1 hp
      clear hp
      have h1i : (t : Int) ≤ n := by omega
      have h1c : (t : Int) ≤ cc := by omega
      have h1d : t ≤ cc := by omega
      have hr0 : ∀ k, k < n → wr.cell? ⟨g, off + k, none⟩ = some (.int .i64 (X k)) := fun k hk => (hw.cell (p := ⟨g, off + k, none⟩) (show g < D + 1 by omega)).trans (((Below.refl w.heap.size w).alloc (Nat.le_refl _) _).cell (p := ⟨g, off + k, none⟩) hg |>.trans (hcell k hk))
      have hra : RowAt wr (.slice (some ⟨g, off, none⟩) t cc) t X := .inr ⟨g, off, cc, rfl, by omega, fun k hk => hr0 k (by omega)⟩
      have HA := Lib.hid (fun m => holds_any (.slice (some ⟨g, off, none⟩) t cc) t X a b (wr.drewN m) (show RowAt (wr.drewN m) _ _ _ from hra) (by omega) (fun j hj => hX j (by omega)))
      have HA0 := Lib.hid (holds_any (.slice (some ⟨g, off, none⟩) t cc) t X a b wr hra (by omega) (fun j hj => hX j (by omega)))
      have hlen := divU_length X n a b t
      have HS := Lib.hid (divU_succ X n a b t)
      have hdv : divB X n a b t = (holdX X t a b && holdX (fun j => X (t + j)) (n - t) a b) := rfl
      have HRW := Lib.hid hrow
      have HWW := Lib.hid hw
      have HR0 := Lib.hid hr0
      clear hrow hw hra hr0
      cases hx : holdX X t a b with
      | false =>
        rw [hx] at HA HA0 hdv
        simp only [Bool.false_and] at hdv
        rw [hdv] at HS
        clear hx hdv
        go_wp2_with fail
        go_quiet (first | (go_at_call 22; with_reducible exact Calls.quiet_of HA0.out) | (go_at_call 22; with_reducible exact Calls.quiet_of (HA.out _)) | fail)
        go_wp2_with fail
        go_roundw
        case rel => exact ⟨t + 1, by omega, by go_num, by rw [HS.out]; exact HRW.out, HWW.out.trans ((drew_below' wr _).mono (by omega))⟩
        case measure => simp [intOf] <;> omega
      | true =>
        rw [hx] at HA HA0 hdv
        simp only [Bool.true_and] at hdv
        by_cases hct : cc = t
        · subst hct
          obtain hnc : n = cc := by omega
          subst hnc
          rw [Nat.sub_self] at hdv
          have hss : n - n = 0 := Nat.sub_self n
          have hrb : RowAt wr (.slice (some ⟨g, off, none⟩) 0 0) 0 (fun j => X (n + j)) := .inl ⟨rfl, _, _, rfl⟩
          have HB := Lib.hid (fun m => holds_any (.slice (some ⟨g, off, none⟩) 0 0) 0 (fun j => X (n + j)) a b (wr.drewN m) (show RowAt (wr.drewN m) _ _ _ from hrb) (by omega) (fun j hj => hX (n + j) (by omega)))
          have HB0 := Lib.hid (holds_any (.slice (some ⟨g, off, none⟩) 0 0) 0 (fun j => X (n + j)) a b wr hrb (by omega) (fun j hj => hX (n + j) (by omega)))
          clear hrb
          cases hy : holdX (fun j => X (n + j)) 0 a b with
          | false =>
            rw [hy] at HB HB0 hdv
            rw [hdv] at HS
            clear hx hy hdv
            go_wp2_with fail
            go_quiet (first | (go_at_call 22; with_reducible exact Calls.quiet_of HA0.out) | (go_at_call 22; with_reducible exact Calls.quiet_of (HA.out _)) | (go_at_call 22; with_reducible exact Calls.quiet_of HB0.out) | (go_at_call 22; with_reducible exact Calls.quiet_of (HB.out _)) | fail)
            go_wp2_with fail
            go_roundw
            case rel => exact ⟨n + 1, by omega, by go_num, by rw [HS.out]; exact HRW.out, HWW.out.trans ((drew_below' wr _).mono (by omega))⟩
            case measure => simp [intOf] <;> omega
          | true =>
            rw [hy] at HB HB0 hdv
            rw [hdv] at HS
            clear hx hy hdv
            go_wp2_with fail
            go_quiet (first | (go_at_call 22; with_reducible exact Calls.quiet_of HA0.out) | (go_at_call 22; with_reducible exact Calls.quiet_of (HA.out _)) | (go_at_call 22; with_reducible exact Calls.quiet_of HB0.out) | (go_at_call 22; with_reducible exact Calls.quiet_of (HB.out _)) | fail)
            obtain ⟨w5, hw5⟩ : ∃ w5, wr.drewN nq = w5 := ⟨_, rfl⟩
            have hb5 : Below wr.heap.size wr w5 := by rw [← hw5]; exact drew_below' wr nq
            rw [hw5]
            clear hw5 HA HA0 HB HB0 HR0 p0 p1
            have hz5 := hb5.size
            have hrow5 := ownsRow_step HRW.out (t := 26) (b := 0) (by decide) (Step.of_below (Nat.zero_le _) hb5)
            go_wp2_with (at_builtin; refine wpList_append_own _ rfl _ _ 48 rfl (D + 1) 3 i0 (.int .i64 0) 1 8 Tryd.underlying48 hi0 hz0 hz1 hz2 rfl (by decide) _ _ _ rfl (hrow5.alloc _) ⟨w5.heap.size, 0, none⟩ 1 1 [.int .i64 (n : Nat)] rfl rfl (cell_one_new _ _ _) (by simp [Value.oneCell']) (by unfold maxLen; omega) (by omega) (by simp; omega) ?_; intro v' w6 hown' hgrow _)
            have hb6 := grown_below (by omega) hrow5 hgrow
            go_roundw
            case rel => exact ⟨n + 1, by omega, by go_num, by rw [HS.out]; simpa [ints] using hown', (HWW.out.trans (hb5.mono (by omega))).trans hb6⟩
            case measure => simp [intOf] <;> omega
        · have hrb : RowAt wr (.slice (some ⟨g, off + t, none⟩) (n - t) (cc - t)) (n - t) (fun j => X (t + j)) := .inr ⟨g, off + t, cc - t, rfl, by omega, fun k hk => by rw [Nat.add_assoc]; exact HR0.out (t + k) (by omega)⟩
          have HB := Lib.hid (fun m => holds_any (.slice (some ⟨g, off + t, none⟩) (n - t) (cc - t)) (n - t) (fun j => X (t + j)) a b (wr.drewN m) (show RowAt (wr.drewN m) _ _ _ from hrb) (by omega) (fun j hj => hX (t + j) (by omega)))
          have HB0 := Lib.hid (holds_any (.slice (some ⟨g, off + t, none⟩) (n - t) (cc - t)) (n - t) (fun j => X (t + j)) a b wr hrb (by omega) (fun j hj => hX (t + j) (by omega)))
          clear hrb
          cases hy : holdX (fun j => X (t + j)) (n - t) a b with
          | false =>
            rw [hy] at HB HB0 hdv
            rw [hdv] at HS
            clear hx hy hdv
            go_wp2_with fail
            go_quiet (first | (go_at_call 22; with_reducible exact Calls.quiet_of HA0.out) | (go_at_call 22; with_reducible exact Calls.quiet_of (HA.out _)) | (go_at_call 22; with_reducible exact Calls.quiet_of HB0.out) | (go_at_call 22; with_reducible exact Calls.quiet_of (HB.out _)) | fail)
            go_wp2_with fail
            go_roundw
            case rel => exact ⟨t + 1, by omega, by go_num, by rw [HS.out]; exact HRW.out, HWW.out.trans ((drew_below' wr _).mono (by omega))⟩
            case measure => simp [intOf] <;> omega
          | true =>
            rw [hy] at HB HB0 hdv
            rw [hdv] at HS
            clear hx hy hdv
            go_wp2_with fail
            go_quiet (first | (go_at_call 22; with_reducible exact Calls.quiet_of HA0.out) | (go_at_call 22; with_reducible exact Calls.quiet_of (HA.out _)) | (go_at_call 22; with_reducible exact Calls.quiet_of HB0.out) | (go_at_call 22; with_reducible exact Calls.quiet_of (HB.out _)) | fail)
            obtain ⟨w5, hw5⟩ : ∃ w5, wr.drewN nq = w5 := ⟨_, rfl⟩
            have hb5 : Below wr.heap.size wr w5 := by rw [← hw5]; exact drew_below' wr nq
            rw [hw5]
            clear hw5 HA HA0 HB HB0 HR0 p0 p1
            have hz5 := hb5.size
            have hrow5 := ownsRow_step HRW.out (t := 26) (b := 0) (by decide) (Step.of_below (Nat.zero_le _) hb5)
            go_wp2_with (at_builtin; refine wpList_append_own _ rfl _ _ 48 rfl (D + 1) 3 i0 (.int .i64 0) 1 8 Tryd.underlying48 hi0 hz0 hz1 hz2 rfl (by decide) _ _ _ rfl (hrow5.alloc _) ⟨w5.heap.size, 0, none⟩ 1 1 [.int .i64 (t : Nat)] rfl rfl (cell_one_new _ _ _) (by simp [Value.oneCell']) (by unfold maxLen; omega) (by omega) (by simp; omega) ?_; intro v' w6 hown' hgrow _)
            have hb6 := grown_below (by omega) hrow5 hgrow
            go_roundw
            case rel => exact ⟨t + 1, by omega, by go_num, by rw [HS.out]; simpa [ints] using hown', (HWW.out.trans (hb5.mono (by omega))).trans hb6⟩
            case measure => simp [intOf] <;> omega
    · obtain rfl : t = n + 1 := by omega
      have h1i : ¬ ((n + 1 : Nat) : Int) ≤ n := by omega
      have HRW := Lib.hid hrow
      have HWW := Lib.hid hw
      clear hrow hw
      go_wp2
      go_ret
      exact ⟨⟨_, rfl, ownsRow_mono HRW.out (by omega)⟩, by first | exact ((Below.refl D w).alloc (by omega) _).trans (HWW.out.mono (by omega)) | (rw [hD]; exact ((Below.refl D w).alloc (by omega) _).trans (HWW.out.mono (by omega)))⟩
end Go.Proofs.YtinopmdefndhoaaDoor
