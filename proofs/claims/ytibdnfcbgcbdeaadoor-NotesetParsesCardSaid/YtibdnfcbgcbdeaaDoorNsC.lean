/- The iterator over a set's notes: the notes come, from below, to any loop whose body goes on. -/
import Derived.Test.YtibdnfcbgcbdeaaDoorNsB
namespace Go.Proofs.YtibdnfcbgcbdeaaDoor
open Go Go.RowKit Go.Shelf
attribute [local go_sem] Oper.semAt_some

theorem Gl.low {w w' : World} (h : Gl w) {B : Nat} (h3 : 3 ≤ B) (hb : Below B w w') : Gl w' where
  size := Nat.le_trans h.size hb.size
  tz := fun j hj => (hb.cell (p := ⟨1, j, none⟩) (by simp; omega)).trans (h.tz j hj)
  names := fun j v hv => (hb.cell (p := ⟨0, j, none⟩) (by simp; omega)).trans (h.names j v hv)
  p10 := by
    have e : w'.var? Tryd.prog "internal/strconv.uint64pow10" = w.var? Tryd.prog "internal/strconv.uint64pow10" := by
      unfold World.var?
      rw [show Tryd.prog.globalNamed "internal/strconv.uint64pow10" = some 2 by kernel_rfl]
      simp [hb.block 2 (by omega)]
    exact e.trans h.p10

/-- A call in the wide fence. -/
theorem wide_call {P : Program} {n : Nat} {f : FuncId} {args : Array Value} {w : World} {R : Ending → World → Prop} (h : Calls P f args w R) :
    Fence.wide.fn f ∧ (Fence.wide.depth.isSome = true → 1 ≤ n) ∧ CallsIn Fence.wide (n - 1) P f args w R :=
  ⟨trivial, (fun h => by simp [Fence.wide] at h), callsIn_wide.2 h⟩

theorem wide_fn (f : FuncId) : Fence.wide.fn f = True := by simp [Fence.wide]
theorem wide_depth : Fence.wide.depth = none := rfl
attribute [local go_sem] wide_fn wide_depth

/-- A number in a cell of 64 bits. -/
def natAt (w : World) (b o : Nat) : Nat := match w.cell? ⟨b, o, none⟩ with
  | some (.int _ x) => x.toNat
  | _ => 0
/-- How many notes are left, of the set that a pointer leads to. -/
def leftOf (p : Value) (w : World) : Nat := match p with
  | .pointer (some a) => (Ns.notes (natAt w a.block 0) (natAt w a.block 1)).length
  | _ => 0
theorem leftOf_eq {w : World} {b lo hi : Nat} (h0 : w.cell? ⟨b, 0, none⟩ = some (.int .u64 lo)) (h1 : w.cell? ⟨b, 1, none⟩ = some (.int .u64 hi)) : leftOf (.pointer (some ⟨b, 0, none⟩)) w = (Ns.notes lo hi).length := by
  simp [leftOf, natAt, h0, h1]

/-- A set lies in a block of its own. -/
def SetAt (w : World) (b lo hi : Nat) : Prop := w.heap[b]? = some (.cells #[.int .u64 lo, .int .u64 hi] 34)
theorem SetAt.fst {w : World} {b lo hi : Nat} (h : SetAt w b lo hi) : w.cell? ⟨b, 0, none⟩ = some (.int .u64 lo) := by simp [World.cell?, show w.heap[b]? = _ from h]
theorem SetAt.snd {w : World} {b lo hi : Nat} (h : SetAt w b lo hi) : w.cell? ⟨b, 1, none⟩ = some (.int .u64 hi) := by simp [World.cell?, show w.heap[b]? = _ from h]
theorem SetAt.f0 {w : World} {b lo hi : Nat} (h : SetAt w b lo hi) : w.frozen? ⟨b, 0, none⟩ = false := by simp [World.frozen?, show w.heap[b]? = _ from h]
theorem SetAt.f1 {w : World} {b lo hi : Nat} (h : SetAt w b lo hi) : w.frozen? ⟨b, 1, none⟩ = false := by simp [World.frozen?, show w.heap[b]? = _ from h]
theorem SetAt.lt {w : World} {b lo hi : Nat} (h : SetAt w b lo hi) : b < w.heap.size := (Array.getElem?_eq_some_iff.1 h).1
theorem SetAt.new (w : World) (lo hi : Nat) : SetAt (w.alloc (.cells #[.int .u64 lo, .int .u64 hi] 34)) w.heap.size lo hi := World.alloc_heap_new w _
theorem SetAt.below {w w' : World} {b lo hi B : Nat} (h : SetAt w b lo hi) (hB : b < B) (hb : Below B w w') : SetAt w' b lo hi := (hb.block b hB).trans h
theorem SetAt.round {w w' : World} {b lo hi : Nat} (h : SetAt w b lo hi) (hr : Round 34 w w') : SetAt w' b lo hi := hr.same b _ h (.inr ⟨_, rfl⟩)

theorem SetAt.step {w : World} {b lo hi B : Nat} (h : SetAt w b lo hi) (hB : B ≤ b) (v0 v1 : Value) : Step B 34 w ((w.setCell ⟨b, 0, none⟩ v0).setCell ⟨b, 1, none⟩ v1) :=
  ⟨((Below.refl _ _).setCell (p := ⟨b, 0, none⟩) hB _).setCell (p := ⟨b, 1, none⟩) hB _, fun k c u f hk hu => by
    by_cases e : k = b
    · subst e
      rw [show w.heap[k]? = _ from h] at hk
      cases hk
      exact absurd rfl hu
    · exact (Below.heap_setCell _ _ _ _ (by simpa using e)).trans ((Below.heap_setCell _ _ _ _ (by simpa using e)).trans hk)⟩
theorem SetAt.behind {w X : World} (hX : X.heap.size = w.heap.size) (lo hi : Nat) : SetAt (X.alloc (.cells #[.int .u64 lo, .int .u64 hi] 34)) w.heap.size lo hi := by
  rw [← hX]; exact SetAt.new X lo hi

set_option maxHeartbeats 1000000 in
theorem members_gives (lo hi : Nat) (hl : lo < 18446744073709551616) (hh : hi < 18446744073709551616) (n Bs n₀ : Nat) (w : World) (G : Gl w) (h3 : 3 ≤ n₀) (hn0 : n₀ ≤ w.heap.size)
    (hS : SetAt w Bs lo hi) :
    Gives Fence.wide n Tryd.prog 60 #[.pointer (some ⟨Bs, 0, none⟩)] (fun x => .int .i64 (x : Nat)) 34 (Ns.notes lo hi) n₀ w := by
  intro l J W hbW hJ hY h0
  have GW : Gl W := G.below hbW
  have hS' := hS.below hS.lt hbW
  have c0 := hS'.fst
  have c1 := hS'.snd
  have hz := hbW.size
  show CallsIn Fence.wide n Tryd.prog 60 #[.func (.yield l) #[] #[], .pointer (some ⟨Bs, 0, none⟩)] W _
  refine callsIn_of_wp Tryd.func60 rfl trivial ?_ rfl
  simp only [Tryd.ntmps60, List.size_toArray, List.length_cons, List.length_nil, Nat.reduceAdd, Nat.reduceSub, Array.replicate_succ, Array.replicate_zero, List.push_toArray, List.append_toArray, List.nil_append, List.cons_append]
  gi_wp2
  gi_loopw [3] (fun p wr => ∃ (pre : List Nat) (b lo' hi' : Nat), p = .pointer (some ⟨b, 0, none⟩) ∧ W.heap.size ≤ b ∧ SetAt wr b lo' hi' ∧ lo' < 18446744073709551616 ∧ hi' < 18446744073709551616 ∧ Ns.notes lo hi = pre ++ Ns.notes lo' hi' ∧ J pre wr ∧ Below n₀ W wr)
    (fun p wr => leftOf p wr)
  case atStart =>
    exact ⟨[], W.heap.size, lo, hi, rfl, Nat.le_refl _, SetAt.new _ _ _, hl, hh, rfl, hJ [] W _ h0 (Step.of_below (Nat.le_refl _) ((Below.refl _ _).alloc (Nat.le_refl _) _)), (Below.refl _ _).alloc (by omega) _⟩
  case round =>
    obtain ⟨pre, b, lo', hi', rfl, hb, hs, hl', hh', hx, hJs, hB⟩ := hrel
    have Gr : Gl wr := GW.low h3 hB
    have d0 := hs.fst
    have d1 := hs.snd
    have hsz := hB.size
    by_cases hz0 : lo' = 0 ∧ hi' = 0
    · obtain ⟨rfl, rfl⟩ := hz0
      have HX := Lib.hid hx
      clear hx
      gi_wp2_with fail
      refine (callsIn_wide.2 (least_none _)).mono ?_
      rintro e w1 ⟨rfl, hb1⟩
      gi_wp2
      refine bodyPost_ret (results_none rfl _ _ _) rfl ?_
      exact ⟨⟨_, rfl⟩, by rw [HX.out, Ns.notes_nil, List.append_nil]; exact hJ pre wr _ hJs (Step.of_below (by omega) hb1)⟩
    · have hn : leftOf (.pointer (some ⟨b, 0, none⟩)) wr = (Ns.notes lo' hi').length := leftOf_eq d0 d1
      have HC := Lib.hid (Ns.notes_cons lo' hi' hl' hh' hz0)
      have HX := Lib.hid hx
      have HM := Lib.hid hn
      obtain ⟨x, hxe⟩ : ∃ x, x = Ns.least lo' hi' := ⟨_, rfl⟩
      have L := Lib.hid (show ∀ W', Gl W' → _ from fun W' g => least_some lo' hi' hl' hh' hz0 W' g)
      rw [← hxe] at L HC
      have hx128 : x < 128 := by rw [hxe]; exact (Ns.least_spec lo' hi' hl' hh' hz0).1
      have hmem : ∃ post, Ns.notes lo hi = pre ++ x :: post := ⟨_, by rw [HX.out, HC.out]⟩
      clear hx hn hxe
      gi_wp2_with fail
      refine (callsIn_wide.2 (L.out _ Gr)).mono ?_
      rintro e w1 ⟨rfl, hb1⟩
      have hJ1 := hJ pre wr w1 hJs (Step.of_below (by omega) hb1)
      obtain ⟨fn, tmps, assign, body, hy, hR⟩ := hY pre x w1 hJ1 hmem
      gi_wp2_with fail
      refine hR.mono ?_
      rintro e W3 ⟨rfl, hJ3, hr3, hb3⟩
      have hs3 : SetAt W3 b lo' hi' := (hs.below hs.lt hb1).round hr3
      have k0 := hs3.fst
      have k1 := hs3.snd
      have k2 := hs3.f0
      have k3 := hs3.f1
      have k4 := hs3.lt
      gi_wp2_with fail
      refine wpIn_wide.2 ?_
      go_region_with (first
        | (go_at_call 48; refine (single_any x hx128 _).mono ?_; rintro e w4 ⟨rfl, hb4⟩; have m0 := (bcell hb4).1 b 0 k4; have m1 := (bcell hb4).1 b 1 k4; have m2 := (bcell hb4).2 b 0 k4; have m3 := (bcell hb4).2 b 1 k4; have m4 : b < w4.heap.size := Nat.lt_of_lt_of_le k4 hb4.size)
        | (go_at_call 34; refine (without_any _ _ _ _ hl' hh' (Ns.sLo_lt x) (Ns.sHi_lt x hx128) _).mono ?_; rintro e w5 ⟨rfl, hb5⟩; have q0 := (bcell hb5).1 b 0 m4; have q1 := (bcell hb5).1 b 1 m4; have q2 := (bcell hb5).2 b 0 m4; have q3 := (bcell hb5).2 b 1 m4; have q4 : b < w5.heap.size := Nat.lt_of_lt_of_le m4 hb5.size))
      all_goals
        gi_wp2
        have e4 : Below W3.heap.size W3 w4 := ((Below.refl _ _).drew).trans hb4
        have z4 := e4.size
        have z5 := hb5.size
        have z3 := hr3.size
        have z1 := hb1.size
        have hs5 : SetAt w5 b lo' hi' := (hs3.below k4 e4).below m4 hb5
        have st : Step W.heap.size 34 W3 w5 := (Step.of_below (by omega) e4).trans (Step.of_below (by omega) hb5)
        have hX : (((w5.setCell ⟨b, 0, none⟩ (.int .u64 (Ns.wo lo' (Ns.sLo x) : Nat))).setCell ⟨b, 1, none⟩ (.int .u64 (Ns.wo hi' (Ns.sHi x) : Nat)))).heap.size = w5.heap.size := by simp [World.setCell]
        have hn := SetAt.behind hX (Ns.wo lo' (Ns.sLo x)) (Ns.wo hi' (Ns.sHi x))
        have st2 := (st.trans (hs5.step hb (.int .u64 (Ns.wo lo' (Ns.sLo x) : Nat)) (.int .u64 (Ns.wo hi' (Ns.sHi x) : Nat)))).trans (Step.of_below (by omega) ((Below.refl _ _).alloc (Nat.le_refl _) (.cells #[.int .u64 (Ns.wo lo' (Ns.sLo x) : Nat), .int .u64 (Ns.wo hi' (Ns.sHi x) : Nat)] 34)))
        go_roundw
        case rel =>
          exact ⟨pre ++ [x], w5.heap.size, _, _, rfl, by omega, hn, Ns.wo_lt _ _ hl', Ns.wo_lt _ _ hh', by rw [HX.out, HC.out]; simp, hJ _ _ _ hJ3 st2, ((hB.trans (hb1.mono (by omega))).trans hb3).trans (st2.below.mono (by omega))⟩
        case measure =>
          rw [leftOf_eq hn.fst hn.snd, HM.out, HC.out]
          simp
end Go.Proofs.YtibdnfcbgcbdeaaDoor
