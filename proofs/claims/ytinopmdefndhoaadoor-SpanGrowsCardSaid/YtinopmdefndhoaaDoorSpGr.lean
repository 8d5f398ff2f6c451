/- The walk of SpanGrows. -/
import Derived.Test.YtinopmdefndhoaaDoorSpGm
import Derived.Test.YtinopmdefndhoaaDoorNsSh
namespace Go.Proofs.YtinopmdefndhoaaDoor
open Go Go.RowKit Go.Shelf

def PnAt (w : World) (k : Nat) (pb pq : Nat) : Prop := w.heap[k]? = some (.cells #[.int .u8 pb, .int .u16 pq] 61)
theorem PnAt.lt {w : World} {k pb pq : Nat} (h : PnAt w k pb pq) : k < w.heap.size := (Array.getElem?_eq_some_iff.1 h).1
theorem PnAt.below {w w' : World} {k B pb pq : Nat} (h : PnAt w k pb pq) (hB : k < B) (hb : Below B w w') : PnAt w' k pb pq := (hb.block k hB).trans h
/-- What the walk keeps: the player, the set. -/
structure GrS (w : World) (D E : Nat) (a b c d : Int) (lo hi : Nat) (W : World) : Prop where
  bel : Below D w W
  pl : PlAt W D a b c d
  st : SetAt W E lo hi
theorem GrS.below {w W W' : World} {D E : Nat} {a b c d : Int} {lo hi : Nat} (h : GrS w D E a b c d lo hi W) (hD : w.heap.size = D) (hb : Below W.heap.size W W') : GrS w D E a b c d lo hi W' :=
  ⟨h.bel.trans (hb.mono (by rw [← hD]; exact h.bel.size)), h.pl.below h.pl.lt hb, h.st.below h.st.lt hb⟩
theorem GrS.alloc {w W : World} {D E : Nat} {a b c d : Int} {lo hi : Nat} (h : GrS w D E a b c d lo hi W) (hD : w.heap.size = D) (o : Obj) : GrS w D E a b c d lo hi (W.alloc o) := h.below hD ((Below.refl _ _).alloc (Nat.le_refl _) _)

def gbx (a b c d : Int) : Nat → Option (Nat × Array Value)
  | 2 => some (4, #[.int .i64 a, .int .i64 b, .int .i64 c, .int .i64 d])
  | 3 => some (5, #[.int .i64 a, .int .i64 b, .int .i64 c, .int .i64 d])
  | _ => none
theorem gbx_at (a b c d : Int) (j s : Nat) (k : Array Value) (h : gbx a b c d j = some (s, k)) : (j = 2 ∧ s = 4) ∨ (j = 3 ∧ s = 5) := by
  unfold gbx at h
  split at h
  · cases h; exact .inl ⟨rfl, rfl⟩
  · cases h; exact .inr ⟨rfl, rfl⟩
  · cases h
def GrR (w : World) (D E B : Nat) (a b c d : Int) (lo hi : Nat) (A : World) : Prop := B ≤ A.heap.size ∧ GrS w D E a b c d lo hi A
theorem GrR_up (w : World) (D E B : Nat) (a b c d : Int) (lo hi : Nat) (hD : w.heap.size = D) (X Y : World) (hb : Below X.heap.size X Y) (h : GrR w D E B a b c d lo hi X) : GrR w D E B a b c d lo hi Y := ⟨Nat.le_trans h.1 hb.size, h.2.below hD hb⟩
theorem GrR_st (w : World) (D E B : Nat) (a b c d : Int) (lo hi : Nat) (h1 : D < B) (h2 : E < B) (X Y : World) (hb : Below B X Y) (h : GrR w D E B a b c d lo hi X) : GrR w D E B a b c d lo hi Y :=
  ⟨Nat.le_trans h.1 hb.size, h.2.bel.trans (hb.mono (by omega)), h.2.pl.below h1 hb, h.2.st.below h2 hb⟩
/-- The greater players beside it, and the list of the two notes. -/
structure GrT (w : World) (D E bm bw Bl : Nat) (a b c d : Int) (lo hi low high : Nat) (W : World) : Prop where
  gs : GrS w D E a b c d lo hi W
  mo : PlAt W bm (a + 1) b c d
  wi : PlAt W bw a (b + 1) c d
  li : W.heap[Bl]? = some (.cells #[.int .i64 (low : Nat), .int .i64 (high : Nat)] 3)
theorem GrT.below {w W W' : World} {D E bm bw Bl : Nat} {a b c d : Int} {lo hi low high : Nat} (h : GrT w D E bm bw Bl a b c d lo hi low high W) (hD : w.heap.size = D) (hb : Below W.heap.size W W') : GrT w D E bm bw Bl a b c d lo hi low high W' :=
  ⟨h.gs.below hD hb, h.mo.below h.mo.lt hb, h.wi.below h.wi.lt hb, (hb.block Bl (Array.getElem?_eq_some_iff.1 h.li).1).trans h.li⟩
theorem GrT.alloc {w W : World} {D E bm bw Bl : Nat} {a b c d : Int} {lo hi low high : Nat} (h : GrT w D E bm bw Bl a b c d lo hi low high W) (hD : w.heap.size = D) (o : Obj) : GrT w D E bm bw Bl a b c d lo hi low high (W.alloc o) := h.below hD ((Below.refl _ _).alloc (Nat.le_refl _) _)
theorem pl_set0 {W : World} {k : Nat} {a b c d : Int} (h : PlAt W k a b c d) (x : Int) : PlAt (W.setCell ⟨k, 0, none⟩ (.int .i64 x)) k x b c d := set4_0 h
theorem pl_set1 {W : World} {k : Nat} {a b c d : Int} (h : PlAt W k a b c d) (x : Int) : PlAt (W.setCell ⟨k, 1, none⟩ (.int .i64 x)) k a x c d := set4_1 h
theorem pl_set' {W : World} {k j o : Nat} {a b c d : Int} {v : Value} (h : PlAt W k a b c d) (hk : k ≠ j) : PlAt (W.setCell ⟨j, o, none⟩ v) k a b c d := (heap_set hk).trans h

def hbx (x1 x2 x3 x4 : Nat) : Nat → Option (Nat × Array Value)
  | 10 => some (12, #[.int .u64 x1, .int .u64 x2])
  | 11 => some (13, #[.int .u64 x3, .int .u64 x4])
  | _ => none
theorem hbx_at (x1 x2 x3 x4 : Nat) (j s : Nat) (k : Array Value) (h : hbx x1 x2 x3 x4 j = some (s, k)) : (j = 10 ∧ s = 12) ∨ (j = 11 ∧ s = 13) := by
  unfold hbx at h
  split at h
  · cases h; exact .inl ⟨rfl, rfl⟩
  · cases h; exact .inr ⟨rfl, rfl⟩
  · cases h
def GrU (w : World) (D E bm bw Bl : Nat) (a b c d : Int) (lo hi low high B O n1 n2 : Nat) (A : World) : Prop := B ≤ A.heap.size ∧ GrT w D E bm bw Bl a b c d lo hi low high A ∧ SetAt A O n1 n2
theorem GrU_up (w : World) (D E bm bw Bl : Nat) (a b c d : Int) (lo hi low high B O n1 n2 : Nat) (hD : w.heap.size = D) (X Y : World) (hb : Below X.heap.size X Y) (h : GrU w D E bm bw Bl a b c d lo hi low high B O n1 n2 X) : GrU w D E bm bw Bl a b c d lo hi low high B O n1 n2 Y := ⟨Nat.le_trans h.1 hb.size, h.2.1.below hD hb, h.2.2.below h.2.2.lt hb⟩
theorem GrU_st (w : World) (D E bm bw Bl : Nat) (a b c d : Int) (lo hi low high B O n1 n2 : Nat) (h1 : D < B) (h2 : E < B) (h3 : bm < B) (h4 : bw < B) (h5 : Bl < B) (h6 : O < B) (X Y : World) (hb : Below B X Y) (h : GrU w D E bm bw Bl a b c d lo hi low high B O n1 n2 X) : GrU w D E bm bw Bl a b c d lo hi low high B O n1 n2 Y :=
  ⟨Nat.le_trans h.1 hb.size, ⟨⟨h.2.1.gs.bel.trans (hb.mono (by omega)), h.2.1.gs.pl.below h1 hb, h.2.1.gs.st.below h2 hb⟩, h.2.1.mo.below h3 hb, h.2.1.wi.below h4 hb, (hb.block Bl h5).trans h.2.1.li⟩, h.2.2.below h6 hb⟩
def all2 (g f4 f5 : Bool) : Nat → Bool
  | 0 => g
  | 1 => g && f4
  | _ => g && f4 && f5
theorem cell8 {W : World} {b i : Nat} {l : List Value} {t : TypeId} {v : Value} (h : W.heap[b]? = some (.cells l.toArray t)) (hi : l[i]? = some v) : W.cell? ⟨b, i, none⟩ = some v := by simp [World.cell?, h, hi]
def all1 (f2 f3 : Bool) : Nat → Bool
  | 0 => true
  | 1 => f2
  | _ => f2 && f3
def gr17 (a b c d : Int) (lo hi n1 n2 m1 m2 x1 x2 x3 x4 : Nat) (f : Bool) : Nat → Value → Prop
  | 0, v => v = .agg #[.int .i64 a, .int .i64 b, .int .i64 c, .int .i64 d]
  | 1, v => v = .agg #[.int .u64 lo, .int .u64 hi]
  | 2, v => v = .agg #[.int .u64 n1, .int .u64 n2]
  | 3, v => v = .agg #[.int .u64 m1, .int .u64 m2]
  | 4, v => v = .tuple #[.agg #[.int .u64 x1, .int .u64 x2], .agg #[.int .u64 x3, .int .u64 x4], .bool f, .int .i64 0]
  | 5, v => v = .tuple #[.agg #[.int .u64 x1, .int .u64 x2], .agg #[.int .u64 x3, .int .u64 x4], .bool f, .int .i64 0]
  | 6, v => v = .agg #[.int .u64 x1, .int .u64 x2]
  | 7, v => v = .agg #[.int .u64 x3, .int .u64 x4]
  | 8, v => v = .bool f
  | 9, v => v = .int .i64 0
  | 14, v => v = .bool f
  | 15, v => v = .int .i64 0
  | _, _ => True

def gr9 (a b c d : Int) : Nat → Value → Prop
  | 0, v => v = .agg #[.int .i64 a, .int .i64 b, .int .i64 c, .int .i64 d]
  | 1, v => v = .agg #[.int .i64 a, .int .i64 b, .int .i64 c, .int .i64 d]
  | _, _ => True

set_option maxRecDepth 100000 in
set_option maxHeartbeats 8000000 in
theorem grows_law (a b c d : Int) (pb pq : Nat) (hpb : pb < 256) (hpq : pq < 65536) (w : World) (G : Gl w) :
    Calls Tryd.prog 11 #[.agg #[.int .i64 a, .int .i64 b, .int .i64 c, .int .i64 d], .agg #[.int .u8 pb, .int .u16 pq]] w fun e w' => e = .returned (.bool true) ∧ Below w.heap.size w w' := by
  have h128 : ∀ x, x ∈ mkL pb pq 16 → x < 128 := fun x hx => by
    unfold mkL at hx
    obtain ⟨i, hi, rfl⟩ := List.mem_map.1 hx
    have := (List.mem_filter.1 hi).2
    simp at this
    omega
  obtain ⟨hl, hh⟩ := ofN_lt _ h128
  have mk := fun W => make_any pb pq hpb hpq W
  generalize (ofN (mkL pb pq 16)).1 = lo at *
  generalize (ofN (mkL pb pq 16)).2 = hi at *
  have MK := Lib.hid mk
  have KN := Lib.hid (fun W g => known_all W g)
  have CH := Lib.hid (fun W => chkp_any a b c d W)
  clear mk h128 hpb hpq
  obtain ⟨D, hD⟩ : ∃ D, w.heap.size = D := ⟨_, rfl⟩
  have hw0 : Below D w ((w.alloc (.cells #[.int .i64 a, .int .i64 b, .int .i64 c, .int .i64 d] 23)).alloc (.cells #[.int .u8 pb, .int .u16 pq] 61)) := ((Below.refl _ w).alloc (by omega) _).alloc (by simp; omega) _
  have hp0 : PlAt ((w.alloc (.cells #[.int .i64 a, .int .i64 b, .int .i64 c, .int .i64 d] 23)).alloc (.cells #[.int .u8 pb, .int .u16 pq] 61)) D a b c d := heap_old (heap_new hD.symm)
  have hn0 : PnAt ((w.alloc (.cells #[.int .i64 a, .int .i64 b, .int .i64 c, .int .i64 d] 23)).alloc (.cells #[.int .u8 pb, .int .u16 pq] 61)) (D + 1) pb pq := heap_new (by simp [hD])
  have G0 : Gl ((w.alloc (.cells #[.int .i64 a, .int .i64 b, .int .i64 c, .int .i64 d] 23)).alloc (.cells #[.int .u8 pb, .int .u16 pq] 61)) := G.below (by rw [hD]; exact hw0)
  have HH0 := Lib.hid (And.intro hw0 (And.intro hp0 hn0))
  clear hw0 hp0 hn0
  have FINK := Lib.hid (fun (V : World) (hV : Below D w V) (g : Gl V) => (KN.out V g))
  go_enter Tryd.func11, Tryd.ntmps11
  go_wp2_with fail
  refine (KN.out _ G0).mono ?_
  rintro e v1 ⟨rfl, hb1⟩
  obtain ⟨q1, q2, q3⟩ := HH0.out
  have hw1 : Below D w v1 := q1.trans (hb1.mono (by simp; omega))
  have hp1 := q2.below q2.lt hb1
  have hn1 := q3.below q3.lt hb1
  clear q1 q2 q3 hb1 HH0 G0
  have c0 := cell4_0 hp1
  have c1 := cell4_1 hp1
  have c2 := cell4_2 hp1
  have c3 := cell4_3 hp1
  go_wp2_with fail
  refine (CH.out _).mono ?_
  rintro e v2 ⟨rfl, hb2⟩
  have hz1 : D ≤ v1.heap.size := by rw [← hD]; exact hw1.size
  have hw2 : Below D w v2 := hw1.trans (hb2.mono hz1)
  have hp2 := hp1.below hp1.lt hb2
  have hn2 := hn1.below hn1.lt hb2
  have hz2 : D ≤ v2.heap.size := by rw [← hD]; exact hw2.size
  have G2 : Gl v2 := G.below (by rw [hD]; exact hw2)
  clear c0 c1 c2 c3 hb2 hw1 hp1 hn1 hz1
  by_cases hx : chk a b c d = 0
  · rw [hx]
    have c0 := cell4_0 hp2
    have c1 := cell4_1 hp2
    by_cases ha : a = 10
    · go_wp2_with fail
      refine (KN.out _ G2).mono ?_
      rintro e v3 ⟨rfl, hb3⟩
      go_wp2
      go_ret
      exact ⟨rfl, by rw [hD]; exact hw2.trans (hb3.mono hz2)⟩
    by_cases hb : b = 127
    · go_wp2_with fail
      refine (KN.out _ G2).mono ?_
      rintro e v3 ⟨rfl, hb3⟩
      go_wp2
      go_ret
      exact ⟨rfl, by rw [hD]; exact hw2.trans (hb3.mono hz2)⟩
    have d0 := cell2_0 hn2
    have d1 := cell2_1 hn2
    have ha1 : (a == (10 : Int)) = false := by simp [ha]
    have hb1 : (b == (127 : Int)) = false := by simp [hb]
    go_wp2_with fail
    refine (MK.out _).mono ?_
    rintro e v3 ⟨rfl, hb3⟩
    clear c0 c1 d0 d1
    have hw3 : Below D w v3 := hw2.trans (hb3.mono hz2)
    have hp3 := hp2.below hp2.lt hb3
    have hz3 : D ≤ v3.heap.size := by rw [← hD]; exact hw3.size
    obtain ⟨E, hE⟩ : ∃ E, v3.heap.size = E := ⟨_, rfl⟩
    have S4 : GrS w D E a b c d lo hi (v3.alloc (.cells #[.int .u64 lo, .int .u64 hi] 26)) := ⟨hw3.alloc hz3 _, heap_old hp3, by rw [← hE]; exact SetAt.new v3 lo hi⟩
    clear hw2 hp2 hn2 hz2 G2 hb3 hw3 hp3
    have G4 : Gl (v3.alloc (.cells #[.int .u64 lo, .int .u64 hi] 26)) := G.below (by rw [hD]; exact S4.bel)
    by_cases h0 : lo = 0 ∧ hi = 0
    · obtain ⟨rfl, rfl⟩ := h0
      have e0 := S4.st.fst
      have e1 := S4.st.snd
      go_wp2_with fail
      refine (least_none _).mono ?_
      rintro e v5 ⟨rfl, hb5⟩
      have S5 := S4.below hD hb5
      clear e0 e1
      have e0 := S5.st.fst
      have e1 := S5.st.snd
      go_wp2_with fail
      refine (greatest_none _).mono ?_
      rintro e v6 ⟨rfl, hb6⟩
      have S6 := S5.below hD hb6
      clear e0 e1
      go_wp2
      go_ret
      exact ⟨rfl, by rw [hD]; exact S6.bel⟩
    obtain ⟨l1, l2, l3⟩ := Ns.least_spec lo hi hl hh h0
    obtain ⟨g1, g2, g3⟩ := Ns.greatest_spec lo hi hl hh h0
    have LE := Lib.hid (fun W g => least_some lo hi hl hh h0 W g)
    have GE := Lib.hid (fun W => greatest_some lo hi hl hh h0 W)
    have M1 := Lib.hid (grow_tail lo hi a b hl hh h0)
    have M2 := Lib.hid (grow_init lo hi a b hl hh h0)
    have M3 := Lib.hid (grow_more lo hi a b (a + 1) b (by omega) (by omega))
    have M4 := Lib.hid (grow_more lo hi a b a (b + 1) (by omega) (by omega))
    have M5 := Lib.hid (grow_up lo hi a b hl hh h0)
    have hch := hx
    unfold chk at hch
    split at hch
    rotate_left
    · cases hch
    rename_i hr
    have hx1 : chk (a + 1) b c d = 0 := by unfold chk; rw [if_pos (by omega)]
    have hx2 : chk a (b + 1) c d = 0 := by unfold chk; rw [if_pos (by omega)]
    obtain ⟨x1, x2, x3, x4, t1⟩ := two_s a b c d lo hi hl hh hx
    obtain ⟨y1, y2, y3, y4, t2⟩ := two_s a b c d _ _ (Ns.wo_lt lo (Ns.sLo (Ns.least lo hi)) hl) (Ns.wo_lt hi (Ns.sHi (Ns.least lo hi)) hh) hx
    obtain ⟨z1, z2, z3, z4, t3⟩ := two_s a b c d _ _ (Ns.wo_lt lo (Ns.sLo (Ns.greatest lo hi)) hl) (Ns.wo_lt hi (Ns.sHi (Ns.greatest lo hi)) hh) hx
    obtain ⟨u1, u2, u3, u4, t4⟩ := two_s (a + 1) b c d lo hi hl hh hx1
    obtain ⟨s1, s2, s3, s4, t5⟩ := two_s a (b + 1) c d lo hi hl hh hx2
    obtain ⟨r1, r2, r3, r4, t6⟩ := two_s a b c d _ _ (Ns.sh_lt lo hi 1 hl hh).1 (Ns.sh_lt lo hi 1 hl hh).2 hx
    have WL := Lib.hid (fun W => without_any lo hi (Ns.sLo (Ns.least lo hi)) (Ns.sHi (Ns.least lo hi)) hl hh (Ns.sLo_lt _) (Ns.sHi_lt _ l1) W)
    have WG := Lib.hid (fun W => without_any lo hi (Ns.sLo (Ns.greatest lo hi)) (Ns.sHi (Ns.greatest lo hi)) hl hh (Ns.sLo_lt _) (Ns.sHi_lt _ g1) W)
    have SH := Lib.hid (fun W => shift_any lo hi 1 hl W)
    have slo := fun q => Ns.sLo_lt q
    have shi := fun q h => Ns.sHi_lt q h
    generalize Ns.wo lo (Ns.sLo (Ns.least lo hi)) = la1 at *
    generalize Ns.wo hi (Ns.sHi (Ns.least lo hi)) = la2 at *
    generalize Ns.wo lo (Ns.sLo (Ns.greatest lo hi)) = ga1 at *
    generalize Ns.wo hi (Ns.sHi (Ns.greatest lo hi)) = ga2 at *
    generalize Ns.shLo lo hi 1 = ua1 at *
    generalize Ns.shHi lo hi 1 = ua2 at *
    generalize Ns.least lo hi = low at *
    generalize Ns.greatest lo hi = high at *
    generalize fnS lo hi a b = f1 at *
    generalize fnS la1 la2 a b = f2 at *
    generalize fnS ga1 ga2 a b = f3 at *
    generalize fnS lo hi (a + 1) b = f4 at *
    generalize fnS lo hi a (b + 1) = f5 at *
    generalize fnS ua1 ua2 a b = f6 at *
    have T1 := Lib.hid t1
    have T2 := Lib.hid t2
    have T3 := Lib.hid t3
    have T4 := Lib.hid t4
    have T5 := Lib.hid t5
    have T6 := Lib.hid t6
    clear t1 t2 t3 t4 t5 t6 l2 l3 g2 g3 hch h0 CH MK
    have e0 := S4.st.fst
    have e1 := S4.st.snd
    go_wp2_with fail
    refine (LE.out _ G4).mono ?_
    rintro e v5 ⟨rfl, hb5⟩
    have S5 := S4.below hD hb5
    clear e0 e1 hb5 S4 G4
    have e0 := S5.st.fst
    have e1 := S5.st.snd
    go_wp2_with fail
    refine (GE.out _).mono ?_
    rintro e v6 ⟨rfl, hb6⟩
    have S6 := S5.below hD hb6
    clear e0 e1 hb6 S5
    have e0 := S6.st.fst
    have e1 := S6.st.snd
    have c0 := cell4_0 S6.pl
    have c1 := cell4_1 S6.pl
    have c2 := cell4_2 S6.pl
    have c3 := cell4_3 S6.pl
    have G6 : Gl v6 := G.below (by rw [hD]; exact S6.bel)
    go_wp2_with fail
    refine (T1.out _ G6).mono ?_
    rintro e v7 ⟨rfl, hb7⟩
    have S7 := S6.below hD hb7
    clear e0 e1 c0 c1 c2 c3 hb7 S6 G6
    obtain ⟨V, hV⟩ : ∃ V, (v7.alloc (.cells #[.int .u64 x1, .int .u64 x2] 26)).alloc (.cells #[.int .u64 x3, .int .u64 x4] 26) = V := ⟨_, rfl⟩
    have S8 : GrS w D E a b c d lo hi V := by rw [← hV]; exact (S7.alloc hD _).alloc hD _
    have HV := Lib.hid hV
    clear S7 hV
    go_wp2_with fail
    rw [HV.out]
    obtain ⟨B, hB⟩ : ∃ B, V.heap.size = B := ⟨_, rfl⟩
    have hDB : D < B := by rw [← hB]; exact S8.pl.lt
    have hEB : E < B := by rw [← hB]; exact S8.st.lt
    clear HV

    refine wp_region_slots_at rfl rfl (fun base ys => (((base.set 76 (ys 0)).set 77 (ys 1)).set 14 (ys 2)).set 15 (ys 3)) (BxI _ B (GrR w D E B a b c d lo hi) (gr9 a b c d) 23 #[.int .i64 0, .int .i64 0, .int .i64 0, .int .i64 0] (gbx a b c d)) (fun _ => undef) (by kernel_rfl) (BxI.start (fun j s k h => by rcases gbx_at a b c d j s k h with h | h <;> (rw [h.1]; decide)) ⟨by show B ≤ V.heap.size; omega, S8.bel.drew, S8.pl, S8.st⟩) ?h9
    case h9 =>
      intro FF hFF
      simp only [List.set_cons_succ, List.set_cons_zero] at hFF
      subst hFF
      refine ⟨rfl, ?_, ?_⟩
      refine ⟨?_, ?_⟩
      · refine SlotStep.boxV (GrR_up w D E B a b c d lo hi hD) rfl rfl (fun j s k h => by rcases gbx_at a b c d j s k h with h | h <;> omega) ?_
        intro ys W hR hd K hK
        have c0 := cell4_0 hR.2.pl
        have c1 := cell4_1 hR.2.pl
        have c2 := cell4_2 hR.2.pl
        have c3 := cell4_3 hR.2.pl
        go_simp
        have hK2 := hK (.agg #[.int .i64 a, .int .i64 b, .int .i64 c, .int .i64 d]) _ (Below.refl _ _) rfl
        simp (config := { decide := true }) only [upd, if_true, if_false] at hK2
        exact hK2
      refine ⟨?_, ?_⟩
      · refine SlotStep.boxV (GrR_up w D E B a b c d lo hi hD) rfl rfl (fun j s k h => by rcases gbx_at a b c d j s k h with h | h <;> omega) ?_
        intro ys W hR hd K hK
        have c0 := cell4_0 hR.2.pl
        have c1 := cell4_1 hR.2.pl
        have c2 := cell4_2 hR.2.pl
        have c3 := cell4_3 hR.2.pl
        go_simp
        have hK2 := hK (.agg #[.int .i64 a, .int .i64 b, .int .i64 c, .int .i64 d]) _ (Below.refl _ _) rfl
        simp (config := { decide := true }) only [upd, if_true, if_false] at hK2
        exact hK2
      refine ⟨?_, ?_⟩
      · refine SlotStep.boxA (GrR_up w D E B a b c d lo hi hD) (fun A h => h.1) rfl rfl rfl (by kernel_rfl) (fun j s k h => by rcases gbx_at a b c d j s k h with h | h <;> omega) (fun _ => trivial) ?_
        intro ys W hR K hK
        go_simp
        simp (config := { decide := true }) only [upd, if_true, if_false] at hK
        exact hK
      refine ⟨?_, ?_⟩
      · refine SlotStep.boxA (GrR_up w D E B a b c d lo hi hD) (fun A h => h.1) rfl rfl rfl (by kernel_rfl) (fun j s k h => by rcases gbx_at a b c d j s k h with h | h <;> omega) (fun _ => trivial) ?_
        intro ys W hR K hK
        go_simp
        simp (config := { decide := true }) only [upd, if_true, if_false] at hK
        exact hK
      refine ⟨?_, ?_⟩
      · refine SlotStep.boxS (GrR_st w D E B a b c d lo hi hDB hEB) rfl (j := 2) (c := #[.int .i64 a, .int .i64 b, .int .i64 c, .int .i64 d]) rfl rfl (fun m s k h e => by rcases gbx_at a b c d m s k h with h | h <;> omega) (by kernel_rfl) (fun _ => trivial) ?_
        intro ys W b0 hR hd dB hDb hb K hK
        have dd0 : ys 0 = (.agg #[.int .i64 a, .int .i64 b, .int .i64 c, .int .i64 d]) := hd 0 (by kernel_rfl) (by decide)
        have r0 := cell4_0 hb
        have r1 := cell4_1 hb
        have r2 := cell4_2 hb
        have r3 := cell4_3 hb
        have f0 := free4_0 hb
        have f1 := free4_1 hb
        have f2 := free4_2 hb
        have f3 := free4_3 hb
        go_simp
        have hK2 := hK undef _ (((((Below.refl B W).setCell (p := ⟨b0, 0, none⟩) hDb (.int .i64 a)).setCell (p := ⟨b0, 1, none⟩) hDb (.int .i64 b)).setCell (p := ⟨b0, 2, none⟩) hDb (.int .i64 c)).setCell (p := ⟨b0, 3, none⟩) hDb (.int .i64 d)) (set4_3 (x := .int .i64 d) (set4_2 (x := .int .i64 c) (set4_1 (x := .int .i64 b) (set4_0 (x := .int .i64 a) hb)))) (fun k hk => (set_other hk).trans ((set_other hk).trans ((set_other hk).trans (set_other hk))))
        simp (config := { decide := true }) only [upd, if_false, dd0, dB] at hK2
        exact hK2
      refine ⟨?_, ?_⟩
      · refine SlotStep.boxS (GrR_st w D E B a b c d lo hi hDB hEB) rfl (j := 3) (c := #[.int .i64 a, .int .i64 b, .int .i64 c, .int .i64 d]) rfl rfl (fun m s k h e => by rcases gbx_at a b c d m s k h with h | h <;> omega) (by kernel_rfl) (fun _ => trivial) ?_
        intro ys W b0 hR hd dB hDb hb K hK
        have dd1 : ys 1 = (.agg #[.int .i64 a, .int .i64 b, .int .i64 c, .int .i64 d]) := hd 1 (by kernel_rfl) (by decide)
        have r0 := cell4_0 hb
        have r1 := cell4_1 hb
        have r2 := cell4_2 hb
        have r3 := cell4_3 hb
        have f0 := free4_0 hb
        have f1 := free4_1 hb
        have f2 := free4_2 hb
        have f3 := free4_3 hb
        go_simp
        have hK2 := hK undef _ (((((Below.refl B W).setCell (p := ⟨b0, 0, none⟩) hDb (.int .i64 a)).setCell (p := ⟨b0, 1, none⟩) hDb (.int .i64 b)).setCell (p := ⟨b0, 2, none⟩) hDb (.int .i64 c)).setCell (p := ⟨b0, 3, none⟩) hDb (.int .i64 d)) (set4_3 (x := .int .i64 d) (set4_2 (x := .int .i64 c) (set4_1 (x := .int .i64 b) (set4_0 (x := .int .i64 a) hb)))) (fun k hk => (set_other hk).trans ((set_other hk).trans ((set_other hk).trans (set_other hk))))
        simp (config := { decide := true }) only [upd, if_false, dd1, dB] at hK2
        exact hK2
      trivial
      · intro L ys W hL hI
        obtain ⟨bm, y2, dm, hm⟩ := hI.box 2 _ _ rfl (hL 2 (by decide))
        obtain ⟨bw, y3, dw, hw⟩ := hI.box 3 _ _ rfl (hL 3 (by decide))
        have hap := hI.apart 2 3 _ _ rfl rfl (by decide) (hL 2 (by decide)) (hL 3 (by decide))
        rw [if_pos (hL 4 (by decide))] at hm
        rw [if_pos (hL 5 (by decide))] at hw
        have hne : bm ≠ bw := fun e => hap (by rw [y2, y3, e])
        have S9 := hI.rel.2
        clear hI hL hap S8
        simp only [y2, y3]
        clear y2 y3
        have k1 : IntKind.i64.wrap (a + 1) = a + 1 := by rw [IntKind.wrap_i64]; omega
        have k2 : IntKind.i64.wrap (b + 1) = b + 1 := by rw [IntKind.wrap_i64]; omega
        have c0 := cell4_0 hm
        have c1 := free4_0 hm
        have c2 := cell4_1 hw
        have c3 := free4_1 hw
        have hEm : E ≠ bm := by omega
        have hEw : E ≠ bw := by omega
        have hDm : D ≠ bm := by omega
        have hDw : D ≠ bw := by omega
        obtain ⟨U, hU⟩ : ∃ U, (W.setCell ⟨bm, 0, none⟩ (.int .i64 (a + 1))).setCell ⟨bw, 1, none⟩ (.int .i64 (b + 1)) = U := ⟨_, rfl⟩
        have S10 : GrS w D E a b c d lo hi U := by
          rw [← hU]
          exact ⟨(S9.bel.setCell (p := ⟨bm, 0, none⟩) (by show D ≤ bm; omega) _).setCell (p := ⟨bw, 1, none⟩) (by show D ≤ bw; omega) _, pl_set' (pl_set' S9.pl hDm) hDw, (S9.st.set' hEm).set' hEw⟩
        have hm1 : PlAt U bm (a + 1) b c d := by rw [← hU]; exact pl_set' (pl_set0 hm (a + 1)) hne
        have hw1 : PlAt U bw a (b + 1) c d := by rw [← hU]; exact pl_set1 (pl_set' hw (Ne.symm hne)) (b + 1)
        obtain ⟨Bl, hBl0⟩ : ∃ Bl, W.heap.size = Bl := ⟨_, rfl⟩
        have hBl : U.heap.size = Bl := by rw [← hU, ← hBl0]; simp [World.setCell]
        have S11 : GrT w D E bm bw Bl a b c d lo hi low high (U.alloc (.cells #[.int .i64 (low : Nat), .int .i64 (high : Nat)] 3)) :=
          ⟨S10.alloc hD _, heap_old hm1, heap_old hw1, by rw [← hBl]; exact World.alloc_heap_new U _⟩
        have HU := Lib.hid hU
        clear hU S10 hm1 hw1 S9
        go_wp2_with fail
        rw [HU.out]
        clear c0 c1 c2 c3 HU
        obtain ⟨X, hX⟩ : ∃ X, U.alloc (.cells #[.int .i64 (low : Nat), .int .i64 (high : Nat)] 3) = X := ⟨_, rfl⟩
        rw [hX] at S11
        try rw [hX]
        clear hX
        go_loopw [90, 16] (fun i v wr => ∃ k : Nat, k ≤ 2 ∧ i = .int .i64 (k : Nat) ∧ v = .bool (all1 f2 f3 k) ∧ GrT w D E bm bw Bl a b c d lo hi low high wr) (fun i _ _ => 2 - (intOf i).toNat)
        case atStart => exact ⟨0, by omega, rfl, rfl, S11⟩
        case round =>
          obtain ⟨k, hk, rfl, rfl, hT⟩ := hrel
          match k, hk with
          | 0, _ =>
            have hlt : (0 : Int) < 2 := by omega
            have e0 : wr.cell? ⟨Bl, 0, none⟩ = some (.int .i64 (low : Nat)) := cell2_0 hT.li
            have hTW := T2
            have hWO := WL
            obtain ⟨Bo, hBo⟩ : ∃ Bo, wr.heap.size = Bo := ⟨_, rfl⟩
            have hT2 := hT.alloc hD (.cells #[.int .i64 (low : Nat)] 3)
            have hOne : (wr.alloc (.cells #[.int .i64 (low : Nat)] 3)).heap[Bo]? = some (.cells #[.int .i64 (low : Nat)] 3) := by rw [← hBo]; exact World.alloc_heap_new wr _
            go_wp2_with fail
            refine (of_one low Bo _ l1 hOne).mono ?_
            rintro e w3 ⟨rfl, hb3⟩
            have hT3 := hT2.below hD hb3
            obtain ⟨O, hO⟩ : ∃ O, w3.heap.size = O := ⟨_, rfl⟩
            obtain ⟨V4, hV4⟩ : ∃ V4, w3.alloc (.cells #[.int .u64 (Ns.sLo low : Nat), .int .u64 (Ns.sHi low : Nat)] 26) = V4 := ⟨_, rfl⟩
            have hT4 : GrT w D E bm bw Bl a b c d lo hi low high V4 := by rw [← hV4]; exact hT3.alloc hD _
            have hO4 : SetAt V4 O (Ns.sLo low) (Ns.sHi low) := by rw [← hV4, ← hO]; exact SetAt.new w3 _ _
            have HV4 := Lib.hid hV4
            clear hV4 hT3 hT2 hOne hb3 e0
            go_wp2_with fail
            rw [HV4.out]
            clear HV4
            obtain ⟨B2, hB2⟩ : ∃ B2, V4.heap.size = B2 := ⟨_, rfl⟩
            have k1 : D < B2 := by rw [← hB2]; exact hT4.gs.pl.lt
            have k2 : E < B2 := by rw [← hB2]; exact hT4.gs.st.lt
            have k3 : bm < B2 := by rw [← hB2]; exact hT4.mo.lt
            have k4 : bw < B2 := by rw [← hB2]; exact hT4.wi.lt
            have k5 : Bl < B2 := by rw [← hB2]; exact (Array.getElem?_eq_some_iff.1 hT4.li).1
            have k6 : O < B2 := by rw [← hB2]; exact hO4.lt
            refine wp_region_slots_at rfl rfl (fun base ys => (((((((((((((base.set 101 (ys 0)).set 102 (ys 1)).set 103 (ys 2)).set 104 (ys 3)).set 105 (ys 4)).set 100 (ys 5)).set 106 (ys 6)).set 107 (ys 7)).set 108 (ys 8)).set 109 (ys 9)).set 21 (ys 10)).set 22 (ys 11)).set 23 (ys 14)).set 24 (ys 15)) (BxI _ B2 (GrU w D E bm bw Bl a b c d lo hi low high B2 O (Ns.sLo low) (Ns.sHi low)) (gr17 a b c d lo hi (Ns.sLo low) (Ns.sHi low) la1 la2 y1 y2 y3 y4 f2) 26 #[.int .u64 0, .int .u64 0] (hbx y1 y2 y3 y4)) (fun | 0 => u101 | 1 => u102 | 2 => u103 | 3 => u104 | 4 => u105 | 5 => u100 | 6 => u106 | 7 => u107 | 8 => u108 | 9 => u109 | 10 => u21 | 11 => u22 | 14 => u23 | 15 => u24 | _ => undef) (by kernel_rfl) (BxI.start (fun j s k h => by rcases hbx_at y1 y2 y3 y4 j s k h with h | h <;> (rw [h.1]; decide)) ⟨by show B2 ≤ V4.heap.size; omega, ⟨⟨hT4.gs.bel.drew, hT4.gs.pl, hT4.gs.st⟩, hT4.mo, hT4.wi, hT4.li⟩, hO4⟩) ?h17
            case h17 =>
              intro FF hFF
              simp only [List.set_cons_succ, List.set_cons_zero] at hFF
              subst hFF
              refine ⟨rfl, ?_, ?_⟩
              refine ⟨?_, ?_⟩
              · refine SlotStep.boxV (GrU_up w D E bm bw Bl a b c d lo hi low high B2 O (Ns.sLo low) (Ns.sHi low) hD) rfl rfl (fun j s k h => by rcases hbx_at y1 y2 y3 y4 j s k h with h | h <;> omega) ?_
                intro ys W hR hd K hK
                have c0 := cell4_0 hR.2.1.gs.pl
                have c1 := cell4_1 hR.2.1.gs.pl
                have c2 := cell4_2 hR.2.1.gs.pl
                have c3 := cell4_3 hR.2.1.gs.pl
                go_simp
                have hK2 := hK (.agg #[.int .i64 a, .int .i64 b, .int .i64 c, .int .i64 d]) _ (Below.refl _ _) rfl
                simp (config := { decide := true }) only [upd, if_true, if_false] at hK2
                exact hK2
              refine ⟨?_, ?_⟩
              · refine SlotStep.boxV (GrU_up w D E bm bw Bl a b c d lo hi low high B2 O (Ns.sLo low) (Ns.sHi low) hD) rfl rfl (fun j s k h => by rcases hbx_at y1 y2 y3 y4 j s k h with h | h <;> omega) ?_
                intro ys W hR hd K hK
                have c0 := hR.2.1.gs.st.fst
                have c1 := hR.2.1.gs.st.snd
                go_simp
                have hK2 := hK (.agg #[.int .u64 lo, .int .u64 hi]) _ (Below.refl _ _) rfl
                simp (config := { decide := true }) only [upd, if_true, if_false] at hK2
                exact hK2
              refine ⟨?_, ?_⟩
              · refine SlotStep.boxV (GrU_up w D E bm bw Bl a b c d lo hi low high B2 O (Ns.sLo low) (Ns.sHi low) hD) rfl rfl (fun j s k h => by rcases hbx_at y1 y2 y3 y4 j s k h with h | h <;> omega) ?_
                intro ys W hR hd K hK
                have c0 := hR.2.2.fst
                have c1 := hR.2.2.snd
                go_simp
                have hK2 := hK (.agg #[.int .u64 (Ns.sLo low), .int .u64 (Ns.sHi low)]) _ (Below.refl _ _) rfl
                simp (config := { decide := true }) only [upd, if_true, if_false] at hK2
                exact hK2
              refine ⟨?_, ?_⟩
              · refine SlotStep.boxV (GrU_up w D E bm bw Bl a b c d lo hi low high B2 O (Ns.sLo low) (Ns.sHi low) hD) rfl rfl (fun j s k h => by rcases hbx_at y1 y2 y3 y4 j s k h with h | h <;> omega) ?_
                intro ys W hR hd K hK
                have dd1 : ys 1 = (.agg #[.int .u64 lo, .int .u64 hi]) := hd 1 (by kernel_rfl) (by decide)
                have dd2 : ys 2 = (.agg #[.int .u64 (Ns.sLo low), .int .u64 (Ns.sHi low)]) := hd 2 (by kernel_rfl) (by decide)
                go_simp
                refine (hWO.out W).mono ?_
                rintro e w5 ⟨rfl, hb5⟩
                have hK2 := hK (.agg #[.int .u64 la1, .int .u64 la2]) _ hb5 rfl
                simp (config := { decide := true }) only [upd, if_true, if_false, dd1, dd2] at hK2
                exact hK2
              refine ⟨?_, ?_⟩
              · refine SlotStep.boxV (GrU_up w D E bm bw Bl a b c d lo hi low high B2 O (Ns.sLo low) (Ns.sHi low) hD) rfl rfl (fun j s k h => by rcases hbx_at y1 y2 y3 y4 j s k h with h | h <;> omega) ?_
                intro ys W hR hd K hK
                have dd0 : ys 0 = (.agg #[.int .i64 a, .int .i64 b, .int .i64 c, .int .i64 d]) := hd 0 (by kernel_rfl) (by decide)
                have dd3 : ys 3 = (.agg #[.int .u64 la1, .int .u64 la2]) := hd 3 (by kernel_rfl) (by decide)
                go_simp
                refine (hTW.out W (G.below (by rw [hD]; exact hR.2.1.gs.bel))).mono ?_
                rintro e w5 ⟨rfl, hb5⟩
                have hK2 := hK (.tuple #[.agg #[.int .u64 y1, .int .u64 y2], .agg #[.int .u64 y3, .int .u64 y4], .bool f2, .int .i64 0]) _ hb5 rfl
                simp (config := { decide := true }) only [upd, if_true, if_false, dd0, dd3] at hK2
                exact hK2
              refine ⟨?_, ?_⟩
              · refine SlotStep.boxV (GrU_up w D E bm bw Bl a b c d lo hi low high B2 O (Ns.sLo low) (Ns.sHi low) hD) rfl rfl (fun j s k h => by rcases hbx_at y1 y2 y3 y4 j s k h with h | h <;> omega) ?_
                intro ys W hR hd K hK
                have dd4 : ys 4 = (.tuple #[.agg #[.int .u64 y1, .int .u64 y2], .agg #[.int .u64 y3, .int .u64 y4], .bool f2, .int .i64 0]) := hd 4 (by kernel_rfl) (by decide)
                go_simp
                have hK2 := hK (.tuple #[.agg #[.int .u64 y1, .int .u64 y2], .agg #[.int .u64 y3, .int .u64 y4], .bool f2, .int .i64 0]) _ (Below.refl _ _) rfl
                simp (config := { decide := true }) only [upd, if_true, if_false, dd4] at hK2
                exact hK2
              refine ⟨?_, ?_⟩
              · refine SlotStep.boxV (GrU_up w D E bm bw Bl a b c d lo hi low high B2 O (Ns.sLo low) (Ns.sHi low) hD) rfl rfl (fun j s k h => by rcases hbx_at y1 y2 y3 y4 j s k h with h | h <;> omega) ?_
                intro ys W hR hd K hK
                have dd5 : ys 5 = (.tuple #[.agg #[.int .u64 y1, .int .u64 y2], .agg #[.int .u64 y3, .int .u64 y4], .bool f2, .int .i64 0]) := hd 5 (by kernel_rfl) (by decide)
                go_simp
                have hK2 := hK (.agg #[.int .u64 y1, .int .u64 y2]) _ (Below.refl _ _) rfl
                simp (config := { decide := true }) only [upd, if_true, if_false, dd5] at hK2
                exact hK2
              refine ⟨?_, ?_⟩
              · refine SlotStep.boxV (GrU_up w D E bm bw Bl a b c d lo hi low high B2 O (Ns.sLo low) (Ns.sHi low) hD) rfl rfl (fun j s k h => by rcases hbx_at y1 y2 y3 y4 j s k h with h | h <;> omega) ?_
                intro ys W hR hd K hK
                have dd5 : ys 5 = (.tuple #[.agg #[.int .u64 y1, .int .u64 y2], .agg #[.int .u64 y3, .int .u64 y4], .bool f2, .int .i64 0]) := hd 5 (by kernel_rfl) (by decide)
                go_simp
                have hK2 := hK (.agg #[.int .u64 y3, .int .u64 y4]) _ (Below.refl _ _) rfl
                simp (config := { decide := true }) only [upd, if_true, if_false, dd5] at hK2
                exact hK2
              refine ⟨?_, ?_⟩
              · refine SlotStep.boxV (GrU_up w D E bm bw Bl a b c d lo hi low high B2 O (Ns.sLo low) (Ns.sHi low) hD) rfl rfl (fun j s k h => by rcases hbx_at y1 y2 y3 y4 j s k h with h | h <;> omega) ?_
                intro ys W hR hd K hK
                have dd5 : ys 5 = (.tuple #[.agg #[.int .u64 y1, .int .u64 y2], .agg #[.int .u64 y3, .int .u64 y4], .bool f2, .int .i64 0]) := hd 5 (by kernel_rfl) (by decide)
                go_simp
                have hK2 := hK (.bool f2) _ (Below.refl _ _) rfl
                simp (config := { decide := true }) only [upd, if_true, if_false, dd5] at hK2
                exact hK2
              refine ⟨?_, ?_⟩
              · refine SlotStep.boxV (GrU_up w D E bm bw Bl a b c d lo hi low high B2 O (Ns.sLo low) (Ns.sHi low) hD) rfl rfl (fun j s k h => by rcases hbx_at y1 y2 y3 y4 j s k h with h | h <;> omega) ?_
                intro ys W hR hd K hK
                have dd5 : ys 5 = (.tuple #[.agg #[.int .u64 y1, .int .u64 y2], .agg #[.int .u64 y3, .int .u64 y4], .bool f2, .int .i64 0]) := hd 5 (by kernel_rfl) (by decide)
                go_simp
                have hK2 := hK (.int .i64 0) _ (Below.refl _ _) rfl
                simp (config := { decide := true }) only [upd, if_true, if_false, dd5] at hK2
                exact hK2
              refine ⟨?_, ?_⟩
              · refine SlotStep.boxA (GrU_up w D E bm bw Bl a b c d lo hi low high B2 O (Ns.sLo low) (Ns.sHi low) hD) (fun A h => h.1) rfl rfl rfl (by kernel_rfl) (fun j s k h => by rcases hbx_at y1 y2 y3 y4 j s k h with h | h <;> omega) (fun _ => trivial) ?_
                intro ys W hR K hK
                go_simp
                simp (config := { decide := true }) only [upd, if_true, if_false] at hK
                exact hK
              refine ⟨?_, ?_⟩
              · refine SlotStep.boxA (GrU_up w D E bm bw Bl a b c d lo hi low high B2 O (Ns.sLo low) (Ns.sHi low) hD) (fun A h => h.1) rfl rfl rfl (by kernel_rfl) (fun j s k h => by rcases hbx_at y1 y2 y3 y4 j s k h with h | h <;> omega) (fun _ => trivial) ?_
                intro ys W hR K hK
                go_simp
                simp (config := { decide := true }) only [upd, if_true, if_false] at hK
                exact hK
              refine ⟨?_, ?_⟩
              · refine SlotStep.boxS (GrU_st w D E bm bw Bl a b c d lo hi low high B2 O (Ns.sLo low) (Ns.sHi low) k1 k2 k3 k4 k5 k6) rfl (j := 10) (c := #[.int .u64 y1, .int .u64 y2]) rfl rfl (fun m s k h e => by rcases hbx_at y1 y2 y3 y4 m s k h with h | h <;> omega) (by kernel_rfl) (fun _ => trivial) ?_
                intro ys W b0 hR hd dB hDb hb K hK
                have dd6 : ys 6 = (.agg #[.int .u64 y1, .int .u64 y2]) := hd 6 (by kernel_rfl) (by decide)
                have r0 := cell2_0 hb
                have r1 := cell2_1 hb
                have f0 := free2_0 hb
                have f1 := free2_1 hb
                go_simp
                have hK2 := hK undef _ (((Below.refl B2 W).setCell (p := ⟨b0, 0, none⟩) hDb (.int .u64 y1)).setCell (p := ⟨b0, 1, none⟩) hDb (.int .u64 y2)) (set2_1 (x := .int .u64 y2) (set2_0 (x := .int .u64 y1) hb)) (fun k hk => (set_other hk).trans (set_other hk))
                simp (config := { decide := true }) only [upd, if_false, dd6, dB] at hK2
                exact hK2
              refine ⟨?_, ?_⟩
              · refine SlotStep.boxS (GrU_st w D E bm bw Bl a b c d lo hi low high B2 O (Ns.sLo low) (Ns.sHi low) k1 k2 k3 k4 k5 k6) rfl (j := 11) (c := #[.int .u64 y3, .int .u64 y4]) rfl rfl (fun m s k h e => by rcases hbx_at y1 y2 y3 y4 m s k h with h | h <;> omega) (by kernel_rfl) (fun _ => trivial) ?_
                intro ys W b0 hR hd dB hDb hb K hK
                have dd7 : ys 7 = (.agg #[.int .u64 y3, .int .u64 y4]) := hd 7 (by kernel_rfl) (by decide)
                have r0 := cell2_0 hb
                have r1 := cell2_1 hb
                have f0 := free2_0 hb
                have f1 := free2_1 hb
                go_simp
                have hK2 := hK undef _ (((Below.refl B2 W).setCell (p := ⟨b0, 0, none⟩) hDb (.int .u64 y3)).setCell (p := ⟨b0, 1, none⟩) hDb (.int .u64 y4)) (set2_1 (x := .int .u64 y4) (set2_0 (x := .int .u64 y3) hb)) (fun k hk => (set_other hk).trans (set_other hk))
                simp (config := { decide := true }) only [upd, if_false, dd7, dB] at hK2
                exact hK2
              refine ⟨?_, ?_⟩
              · refine SlotStep.boxV (GrU_up w D E bm bw Bl a b c d lo hi low high B2 O (Ns.sLo low) (Ns.sHi low) hD) rfl rfl (fun j s k h => by rcases hbx_at y1 y2 y3 y4 j s k h with h | h <;> omega) ?_
                intro ys W hR hd K hK
                have dd8 : ys 8 = (.bool f2) := hd 8 (by kernel_rfl) (by decide)
                go_simp
                have hK2 := hK (.bool f2) _ (Below.refl _ _) rfl
                simp (config := { decide := true }) only [upd, if_true, if_false, dd8] at hK2
                exact hK2
              refine ⟨?_, ?_⟩
              · refine SlotStep.boxV (GrU_up w D E bm bw Bl a b c d lo hi low high B2 O (Ns.sLo low) (Ns.sHi low) hD) rfl rfl (fun j s k h => by rcases hbx_at y1 y2 y3 y4 j s k h with h | h <;> omega) ?_
                intro ys W hR hd K hK
                have dd9 : ys 9 = (.int .i64 0) := hd 9 (by kernel_rfl) (by decide)
                go_simp
                have hK2 := hK (.int .i64 0) _ (Below.refl _ _) rfl
                simp (config := { decide := true }) only [upd, if_true, if_false, dd9] at hK2
                exact hK2
              trivial
              · intro L ys W hL hI
                have y14 : ys 14 = .bool f2 := hI.vals 14 (by decide) (hL 14 (by decide))
                have y15 : ys 15 = .int .i64 0 := hI.vals 15 (by decide) (hL 15 (by decide))
                have hT5 := hI.rel.2.1
                clear hI hL hT4 hO4
                simp only [y14, y15]
                clear y14 y15
                cases f2 <;> simp only [all1] at *
                all_goals
                  go_wp2_with fail
                  go_roundw
                  case rel => exact ⟨1, by omega, rfl, rfl, hT5⟩
                  case measure => simp [intOf]
          | 1, _ =>
            have hlt : (1 : Int) < 2 := by omega
            have e0 : wr.cell? ⟨Bl, 1, none⟩ = some (.int .i64 (high : Nat)) := cell2_1 hT.li
            have hTW := T3
            have hWO := WG
            obtain ⟨Bo, hBo⟩ : ∃ Bo, wr.heap.size = Bo := ⟨_, rfl⟩
            have hT2 := hT.alloc hD (.cells #[.int .i64 (high : Nat)] 3)
            have hOne : (wr.alloc (.cells #[.int .i64 (high : Nat)] 3)).heap[Bo]? = some (.cells #[.int .i64 (high : Nat)] 3) := by rw [← hBo]; exact World.alloc_heap_new wr _
            go_wp2_with fail
            refine (of_one high Bo _ g1 hOne).mono ?_
            rintro e w3 ⟨rfl, hb3⟩
            have hT3 := hT2.below hD hb3
            obtain ⟨O, hO⟩ : ∃ O, w3.heap.size = O := ⟨_, rfl⟩
            obtain ⟨V4, hV4⟩ : ∃ V4, w3.alloc (.cells #[.int .u64 (Ns.sLo high : Nat), .int .u64 (Ns.sHi high : Nat)] 26) = V4 := ⟨_, rfl⟩
            have hT4 : GrT w D E bm bw Bl a b c d lo hi low high V4 := by rw [← hV4]; exact hT3.alloc hD _
            have hO4 : SetAt V4 O (Ns.sLo high) (Ns.sHi high) := by rw [← hV4, ← hO]; exact SetAt.new w3 _ _
            have HV4 := Lib.hid hV4
            clear hV4 hT3 hT2 hOne hb3 e0
            go_wp2_with fail
            rw [HV4.out]
            clear HV4
            obtain ⟨B2, hB2⟩ : ∃ B2, V4.heap.size = B2 := ⟨_, rfl⟩
            have k1 : D < B2 := by rw [← hB2]; exact hT4.gs.pl.lt
            have k2 : E < B2 := by rw [← hB2]; exact hT4.gs.st.lt
            have k3 : bm < B2 := by rw [← hB2]; exact hT4.mo.lt
            have k4 : bw < B2 := by rw [← hB2]; exact hT4.wi.lt
            have k5 : Bl < B2 := by rw [← hB2]; exact (Array.getElem?_eq_some_iff.1 hT4.li).1
            have k6 : O < B2 := by rw [← hB2]; exact hO4.lt
            refine wp_region_slots_at rfl rfl (fun base ys => (((((((((((((base.set 101 (ys 0)).set 102 (ys 1)).set 103 (ys 2)).set 104 (ys 3)).set 105 (ys 4)).set 100 (ys 5)).set 106 (ys 6)).set 107 (ys 7)).set 108 (ys 8)).set 109 (ys 9)).set 21 (ys 10)).set 22 (ys 11)).set 23 (ys 14)).set 24 (ys 15)) (BxI _ B2 (GrU w D E bm bw Bl a b c d lo hi low high B2 O (Ns.sLo high) (Ns.sHi high)) (gr17 a b c d lo hi (Ns.sLo high) (Ns.sHi high) ga1 ga2 z1 z2 z3 z4 f3) 26 #[.int .u64 0, .int .u64 0] (hbx z1 z2 z3 z4)) (fun | 0 => u101 | 1 => u102 | 2 => u103 | 3 => u104 | 4 => u105 | 5 => u100 | 6 => u106 | 7 => u107 | 8 => u108 | 9 => u109 | 10 => u21 | 11 => u22 | 14 => u23 | 15 => u24 | _ => undef) (by kernel_rfl) (BxI.start (fun j s k h => by rcases hbx_at z1 z2 z3 z4 j s k h with h | h <;> (rw [h.1]; decide)) ⟨by show B2 ≤ V4.heap.size; omega, ⟨⟨hT4.gs.bel.drew, hT4.gs.pl, hT4.gs.st⟩, hT4.mo, hT4.wi, hT4.li⟩, hO4⟩) ?h17
            case h17 =>
              intro FF hFF
              simp only [List.set_cons_succ, List.set_cons_zero] at hFF
              subst hFF
              refine ⟨rfl, ?_, ?_⟩
              refine ⟨?_, ?_⟩
              · refine SlotStep.boxV (GrU_up w D E bm bw Bl a b c d lo hi low high B2 O (Ns.sLo high) (Ns.sHi high) hD) rfl rfl (fun j s k h => by rcases hbx_at z1 z2 z3 z4 j s k h with h | h <;> omega) ?_
                intro ys W hR hd K hK
                have c0 := cell4_0 hR.2.1.gs.pl
                have c1 := cell4_1 hR.2.1.gs.pl
                have c2 := cell4_2 hR.2.1.gs.pl
                have c3 := cell4_3 hR.2.1.gs.pl
                go_simp
                have hK2 := hK (.agg #[.int .i64 a, .int .i64 b, .int .i64 c, .int .i64 d]) _ (Below.refl _ _) rfl
                simp (config := { decide := true }) only [upd, if_true, if_false] at hK2
                exact hK2
              refine ⟨?_, ?_⟩
              · refine SlotStep.boxV (GrU_up w D E bm bw Bl a b c d lo hi low high B2 O (Ns.sLo high) (Ns.sHi high) hD) rfl rfl (fun j s k h => by rcases hbx_at z1 z2 z3 z4 j s k h with h | h <;> omega) ?_
                intro ys W hR hd K hK
                have c0 := hR.2.1.gs.st.fst
                have c1 := hR.2.1.gs.st.snd
                go_simp
                have hK2 := hK (.agg #[.int .u64 lo, .int .u64 hi]) _ (Below.refl _ _) rfl
                simp (config := { decide := true }) only [upd, if_true, if_false] at hK2
                exact hK2
              refine ⟨?_, ?_⟩
              · refine SlotStep.boxV (GrU_up w D E bm bw Bl a b c d lo hi low high B2 O (Ns.sLo high) (Ns.sHi high) hD) rfl rfl (fun j s k h => by rcases hbx_at z1 z2 z3 z4 j s k h with h | h <;> omega) ?_
                intro ys W hR hd K hK
                have c0 := hR.2.2.fst
                have c1 := hR.2.2.snd
                go_simp
                have hK2 := hK (.agg #[.int .u64 (Ns.sLo high), .int .u64 (Ns.sHi high)]) _ (Below.refl _ _) rfl
                simp (config := { decide := true }) only [upd, if_true, if_false] at hK2
                exact hK2
              refine ⟨?_, ?_⟩
              · refine SlotStep.boxV (GrU_up w D E bm bw Bl a b c d lo hi low high B2 O (Ns.sLo high) (Ns.sHi high) hD) rfl rfl (fun j s k h => by rcases hbx_at z1 z2 z3 z4 j s k h with h | h <;> omega) ?_
                intro ys W hR hd K hK
                have dd1 : ys 1 = (.agg #[.int .u64 lo, .int .u64 hi]) := hd 1 (by kernel_rfl) (by decide)
                have dd2 : ys 2 = (.agg #[.int .u64 (Ns.sLo high), .int .u64 (Ns.sHi high)]) := hd 2 (by kernel_rfl) (by decide)
                go_simp
                refine (hWO.out W).mono ?_
                rintro e w5 ⟨rfl, hb5⟩
                have hK2 := hK (.agg #[.int .u64 ga1, .int .u64 ga2]) _ hb5 rfl
                simp (config := { decide := true }) only [upd, if_true, if_false, dd1, dd2] at hK2
                exact hK2
              refine ⟨?_, ?_⟩
              · refine SlotStep.boxV (GrU_up w D E bm bw Bl a b c d lo hi low high B2 O (Ns.sLo high) (Ns.sHi high) hD) rfl rfl (fun j s k h => by rcases hbx_at z1 z2 z3 z4 j s k h with h | h <;> omega) ?_
                intro ys W hR hd K hK
                have dd0 : ys 0 = (.agg #[.int .i64 a, .int .i64 b, .int .i64 c, .int .i64 d]) := hd 0 (by kernel_rfl) (by decide)
                have dd3 : ys 3 = (.agg #[.int .u64 ga1, .int .u64 ga2]) := hd 3 (by kernel_rfl) (by decide)
                go_simp
                refine (hTW.out W (G.below (by rw [hD]; exact hR.2.1.gs.bel))).mono ?_
                rintro e w5 ⟨rfl, hb5⟩
                have hK2 := hK (.tuple #[.agg #[.int .u64 z1, .int .u64 z2], .agg #[.int .u64 z3, .int .u64 z4], .bool f3, .int .i64 0]) _ hb5 rfl
                simp (config := { decide := true }) only [upd, if_true, if_false, dd0, dd3] at hK2
                exact hK2
              refine ⟨?_, ?_⟩
              · refine SlotStep.boxV (GrU_up w D E bm bw Bl a b c d lo hi low high B2 O (Ns.sLo high) (Ns.sHi high) hD) rfl rfl (fun j s k h => by rcases hbx_at z1 z2 z3 z4 j s k h with h | h <;> omega) ?_
                intro ys W hR hd K hK
                have dd4 : ys 4 = (.tuple #[.agg #[.int .u64 z1, .int .u64 z2], .agg #[.int .u64 z3, .int .u64 z4], .bool f3, .int .i64 0]) := hd 4 (by kernel_rfl) (by decide)
                go_simp
                have hK2 := hK (.tuple #[.agg #[.int .u64 z1, .int .u64 z2], .agg #[.int .u64 z3, .int .u64 z4], .bool f3, .int .i64 0]) _ (Below.refl _ _) rfl
                simp (config := { decide := true }) only [upd, if_true, if_false, dd4] at hK2
                exact hK2
              refine ⟨?_, ?_⟩
              · refine SlotStep.boxV (GrU_up w D E bm bw Bl a b c d lo hi low high B2 O (Ns.sLo high) (Ns.sHi high) hD) rfl rfl (fun j s k h => by rcases hbx_at z1 z2 z3 z4 j s k h with h | h <;> omega) ?_
                intro ys W hR hd K hK
                have dd5 : ys 5 = (.tuple #[.agg #[.int .u64 z1, .int .u64 z2], .agg #[.int .u64 z3, .int .u64 z4], .bool f3, .int .i64 0]) := hd 5 (by kernel_rfl) (by decide)
                go_simp
                have hK2 := hK (.agg #[.int .u64 z1, .int .u64 z2]) _ (Below.refl _ _) rfl
                simp (config := { decide := true }) only [upd, if_true, if_false, dd5] at hK2
                exact hK2
              refine ⟨?_, ?_⟩
              · refine SlotStep.boxV (GrU_up w D E bm bw Bl a b c d lo hi low high B2 O (Ns.sLo high) (Ns.sHi high) hD) rfl rfl (fun j s k h => by rcases hbx_at z1 z2 z3 z4 j s k h with h | h <;> omega) ?_
                intro ys W hR hd K hK
                have dd5 : ys 5 = (.tuple #[.agg #[.int .u64 z1, .int .u64 z2], .agg #[.int .u64 z3, .int .u64 z4], .bool f3, .int .i64 0]) := hd 5 (by kernel_rfl) (by decide)
                go_simp
                have hK2 := hK (.agg #[.int .u64 z3, .int .u64 z4]) _ (Below.refl _ _) rfl
                simp (config := { decide := true }) only [upd, if_true, if_false, dd5] at hK2
                exact hK2
              refine ⟨?_, ?_⟩
              · refine SlotStep.boxV (GrU_up w D E bm bw Bl a b c d lo hi low high B2 O (Ns.sLo high) (Ns.sHi high) hD) rfl rfl (fun j s k h => by rcases hbx_at z1 z2 z3 z4 j s k h with h | h <;> omega) ?_
                intro ys W hR hd K hK
                have dd5 : ys 5 = (.tuple #[.agg #[.int .u64 z1, .int .u64 z2], .agg #[.int .u64 z3, .int .u64 z4], .bool f3, .int .i64 0]) := hd 5 (by kernel_rfl) (by decide)
                go_simp
                have hK2 := hK (.bool f3) _ (Below.refl _ _) rfl
                simp (config := { decide := true }) only [upd, if_true, if_false, dd5] at hK2
                exact hK2
              refine ⟨?_, ?_⟩
              · refine SlotStep.boxV (GrU_up w D E bm bw Bl a b c d lo hi low high B2 O (Ns.sLo high) (Ns.sHi high) hD) rfl rfl (fun j s k h => by rcases hbx_at z1 z2 z3 z4 j s k h with h | h <;> omega) ?_
                intro ys W hR hd K hK
                have dd5 : ys 5 = (.tuple #[.agg #[.int .u64 z1, .int .u64 z2], .agg #[.int .u64 z3, .int .u64 z4], .bool f3, .int .i64 0]) := hd 5 (by kernel_rfl) (by decide)
                go_simp
                have hK2 := hK (.int .i64 0) _ (Below.refl _ _) rfl
                simp (config := { decide := true }) only [upd, if_true, if_false, dd5] at hK2
                exact hK2
              refine ⟨?_, ?_⟩
              · refine SlotStep.boxA (GrU_up w D E bm bw Bl a b c d lo hi low high B2 O (Ns.sLo high) (Ns.sHi high) hD) (fun A h => h.1) rfl rfl rfl (by kernel_rfl) (fun j s k h => by rcases hbx_at z1 z2 z3 z4 j s k h with h | h <;> omega) (fun _ => trivial) ?_
                intro ys W hR K hK
                go_simp
                simp (config := { decide := true }) only [upd, if_true, if_false] at hK
                exact hK
              refine ⟨?_, ?_⟩
              · refine SlotStep.boxA (GrU_up w D E bm bw Bl a b c d lo hi low high B2 O (Ns.sLo high) (Ns.sHi high) hD) (fun A h => h.1) rfl rfl rfl (by kernel_rfl) (fun j s k h => by rcases hbx_at z1 z2 z3 z4 j s k h with h | h <;> omega) (fun _ => trivial) ?_
                intro ys W hR K hK
                go_simp
                simp (config := { decide := true }) only [upd, if_true, if_false] at hK
                exact hK
              refine ⟨?_, ?_⟩
              · refine SlotStep.boxS (GrU_st w D E bm bw Bl a b c d lo hi low high B2 O (Ns.sLo high) (Ns.sHi high) k1 k2 k3 k4 k5 k6) rfl (j := 10) (c := #[.int .u64 z1, .int .u64 z2]) rfl rfl (fun m s k h e => by rcases hbx_at z1 z2 z3 z4 m s k h with h | h <;> omega) (by kernel_rfl) (fun _ => trivial) ?_
                intro ys W b0 hR hd dB hDb hb K hK
                have dd6 : ys 6 = (.agg #[.int .u64 z1, .int .u64 z2]) := hd 6 (by kernel_rfl) (by decide)
                have r0 := cell2_0 hb
                have r1 := cell2_1 hb
                have f0 := free2_0 hb
                have f1 := free2_1 hb
                go_simp
                have hK2 := hK undef _ (((Below.refl B2 W).setCell (p := ⟨b0, 0, none⟩) hDb (.int .u64 z1)).setCell (p := ⟨b0, 1, none⟩) hDb (.int .u64 z2)) (set2_1 (x := .int .u64 z2) (set2_0 (x := .int .u64 z1) hb)) (fun k hk => (set_other hk).trans (set_other hk))
                simp (config := { decide := true }) only [upd, if_false, dd6, dB] at hK2
                exact hK2
              refine ⟨?_, ?_⟩
              · refine SlotStep.boxS (GrU_st w D E bm bw Bl a b c d lo hi low high B2 O (Ns.sLo high) (Ns.sHi high) k1 k2 k3 k4 k5 k6) rfl (j := 11) (c := #[.int .u64 z3, .int .u64 z4]) rfl rfl (fun m s k h e => by rcases hbx_at z1 z2 z3 z4 m s k h with h | h <;> omega) (by kernel_rfl) (fun _ => trivial) ?_
                intro ys W b0 hR hd dB hDb hb K hK
                have dd7 : ys 7 = (.agg #[.int .u64 z3, .int .u64 z4]) := hd 7 (by kernel_rfl) (by decide)
                have r0 := cell2_0 hb
                have r1 := cell2_1 hb
                have f0 := free2_0 hb
                have f1 := free2_1 hb
                go_simp
                have hK2 := hK undef _ (((Below.refl B2 W).setCell (p := ⟨b0, 0, none⟩) hDb (.int .u64 z3)).setCell (p := ⟨b0, 1, none⟩) hDb (.int .u64 z4)) (set2_1 (x := .int .u64 z4) (set2_0 (x := .int .u64 z3) hb)) (fun k hk => (set_other hk).trans (set_other hk))
                simp (config := { decide := true }) only [upd, if_false, dd7, dB] at hK2
                exact hK2
              refine ⟨?_, ?_⟩
              · refine SlotStep.boxV (GrU_up w D E bm bw Bl a b c d lo hi low high B2 O (Ns.sLo high) (Ns.sHi high) hD) rfl rfl (fun j s k h => by rcases hbx_at z1 z2 z3 z4 j s k h with h | h <;> omega) ?_
                intro ys W hR hd K hK
                have dd8 : ys 8 = (.bool f3) := hd 8 (by kernel_rfl) (by decide)
                go_simp
                have hK2 := hK (.bool f3) _ (Below.refl _ _) rfl
                simp (config := { decide := true }) only [upd, if_true, if_false, dd8] at hK2
                exact hK2
              refine ⟨?_, ?_⟩
              · refine SlotStep.boxV (GrU_up w D E bm bw Bl a b c d lo hi low high B2 O (Ns.sLo high) (Ns.sHi high) hD) rfl rfl (fun j s k h => by rcases hbx_at z1 z2 z3 z4 j s k h with h | h <;> omega) ?_
                intro ys W hR hd K hK
                have dd9 : ys 9 = (.int .i64 0) := hd 9 (by kernel_rfl) (by decide)
                go_simp
                have hK2 := hK (.int .i64 0) _ (Below.refl _ _) rfl
                simp (config := { decide := true }) only [upd, if_true, if_false, dd9] at hK2
                exact hK2
              trivial
              · intro L ys W hL hI
                have y14 : ys 14 = .bool f3 := hI.vals 14 (by decide) (hL 14 (by decide))
                have y15 : ys 15 = .int .i64 0 := hI.vals 15 (by decide) (hL 15 (by decide))
                have hT5 := hI.rel.2.1
                clear hI hL hT4 hO4
                simp only [y14, y15]
                clear y14 y15
                cases f2 <;> cases f3 <;> simp only [all1] at *
                all_goals
                  go_wp2_with fail
                  go_roundw
                  case rel => exact ⟨2, by omega, rfl, rfl, hT5⟩
                  case measure => simp [intOf]
          | 2, _ =>
            have hlt : ¬ (2 : Int) < 2 := by omega
            have m0 := cell4_0 hT.mo
            have m1 := cell4_1 hT.mo
            have m2 := cell4_2 hT.mo
            have m3 := cell4_3 hT.mo
            have n0 := cell4_0 hT.wi
            have n1 := cell4_1 hT.wi
            have n2 := cell4_2 hT.wi
            have n3 := cell4_3 hT.wi
            obtain ⟨Bp, hBp⟩ : ∃ Bp, wr.heap.size = Bp := ⟨_, rfl⟩
            have hT6 := hT.alloc hD (.cells #[.int .i64 (a + 1), .int .i64 b, .int .i64 c, .int .i64 d, .int .i64 a, .int .i64 (b + 1), .int .i64 c, .int .i64 d] 23)
            have hPp : (wr.alloc (.cells #[.int .i64 (a + 1), .int .i64 b, .int .i64 c, .int .i64 d, .int .i64 a, .int .i64 (b + 1), .int .i64 c, .int .i64 d] 23)).heap[Bp]? = some (.cells #[.int .i64 (a + 1), .int .i64 b, .int .i64 c, .int .i64 d, .int .i64 a, .int .i64 (b + 1), .int .i64 c, .int .i64 d] 23) := by rw [← hBp]; exact World.alloc_heap_new wr _
            go_wp2_with fail
            obtain ⟨Y, hY⟩ : ∃ Y, wr.alloc (.cells #[.int .i64 (a + 1), .int .i64 b, .int .i64 c, .int .i64 d, .int .i64 a, .int .i64 (b + 1), .int .i64 c, .int .i64 d] 23) = Y := ⟨_, rfl⟩
            rw [hY] at hT6 hPp
            try rw [hY]
            clear hY hT m0 m1 m2 m3 n0 n1 n2 n3
            go_loopw [127, 16] (fun i v wq => ∃ k : Nat, k ≤ 2 ∧ i = .int .i64 (k : Nat) ∧ v = .bool (all2 (f2 && f3) f4 f5 k) ∧ GrT w D E bm bw Bl a b c d lo hi low high wq ∧ wq.heap[Bp]? = some (.cells #[.int .i64 (a + 1), .int .i64 b, .int .i64 c, .int .i64 d, .int .i64 a, .int .i64 (b + 1), .int .i64 c, .int .i64 d] 23)) (fun i _ _ => 2 - (intOf i).toNat)
            case atStart => exact ⟨0, by omega, rfl, rfl, hT6, hPp⟩
            case round =>
              obtain ⟨k, hk, rfl, rfl, hQ, hPq⟩ := hrel
              match k, hk with
              | 0, _ =>
                have hlt : (0 : Int) < 2 := by omega
                have i0 : wr.cell? ⟨Bp, 0, none⟩ = some (.int .i64 (a + 1)) := cell8 hPq rfl
                have i1 : wr.cell? ⟨Bp, 1, none⟩ = some (.int .i64 b) := cell8 hPq rfl
                have i2 : wr.cell? ⟨Bp, 2, none⟩ = some (.int .i64 c) := cell8 hPq rfl
                have i3 : wr.cell? ⟨Bp, 3, none⟩ = some (.int .i64 d) := cell8 hPq rfl
                obtain ⟨V, hV⟩ : ∃ V, wr.alloc (.cells #[.int .i64 (a + 1), .int .i64 b, .int .i64 c, .int .i64 d] 23) = V := ⟨_, rfl⟩
                have hQ2 : GrT w D E bm bw Bl a b c d lo hi low high V := by rw [← hV]; exact hQ.alloc hD _
                have hP2 : V.heap[Bp]? = some (.cells #[.int .i64 (a + 1), .int .i64 b, .int .i64 c, .int .i64 d, .int .i64 a, .int .i64 (b + 1), .int .i64 c, .int .i64 d] 23) := by rw [← hV]; exact heap_old hPq
                have e0 : (wr.alloc (.cells #[.int .i64 (a + 1), .int .i64 b, .int .i64 c, .int .i64 d] 23)).cell? ⟨E, 0, none⟩ = some (.int .u64 lo) := by rw [hV]; exact hQ2.gs.st.fst
                have e1 : (wr.alloc (.cells #[.int .i64 (a + 1), .int .i64 b, .int .i64 c, .int .i64 d] 23)).cell? ⟨E, 1, none⟩ = some (.int .u64 hi) := by rw [hV]; exact hQ2.gs.st.snd
                have HV := Lib.hid hV
                clear hV
                go_wp2_with fail
                refine (T4.out _ (HV.out ▸ G.below (by rw [hD]; exact hQ2.gs.bel))).mono ?_
                rw [HV.out]
                rintro e w3 ⟨rfl, hb3⟩
                have hQ3 := hQ2.below hD hb3
                have hP3 := heap_kept hb3 hP2
                clear i0 i1 i2 i3 e0 e1 HV hb3 hQ2 hP2
                have HG1 := Lib.hid (show all2 (f2 && f3) f4 f5 1 = (all2 (f2 && f3) f4 f5 0 && f4) from rfl)
                generalize all2 (f2 && f3) f4 f5 0 = g0 at *
                cases g0 <;> cases f4
                all_goals
                  go_wp2_with fail
                  go_roundw
                  case rel => exact ⟨1, by omega, rfl, by rw [HG1.out]; rfl, (hQ3.alloc hD _).alloc hD _, heap_old (heap_old hP3)⟩
                  case measure => simp [intOf]
              | 1, _ =>
                have hlt : (1 : Int) < 2 := by omega
                have i0 : wr.cell? ⟨Bp, 4, none⟩ = some (.int .i64 a) := cell8 hPq rfl
                have i1 : wr.cell? ⟨Bp, 5, none⟩ = some (.int .i64 (b + 1)) := cell8 hPq rfl
                have i2 : wr.cell? ⟨Bp, 6, none⟩ = some (.int .i64 c) := cell8 hPq rfl
                have i3 : wr.cell? ⟨Bp, 7, none⟩ = some (.int .i64 d) := cell8 hPq rfl
                obtain ⟨V, hV⟩ : ∃ V, wr.alloc (.cells #[.int .i64 a, .int .i64 (b + 1), .int .i64 c, .int .i64 d] 23) = V := ⟨_, rfl⟩
                have hQ2 : GrT w D E bm bw Bl a b c d lo hi low high V := by rw [← hV]; exact hQ.alloc hD _
                have hP2 : V.heap[Bp]? = some (.cells #[.int .i64 (a + 1), .int .i64 b, .int .i64 c, .int .i64 d, .int .i64 a, .int .i64 (b + 1), .int .i64 c, .int .i64 d] 23) := by rw [← hV]; exact heap_old hPq
                have e0 : (wr.alloc (.cells #[.int .i64 a, .int .i64 (b + 1), .int .i64 c, .int .i64 d] 23)).cell? ⟨E, 0, none⟩ = some (.int .u64 lo) := by rw [hV]; exact hQ2.gs.st.fst
                have e1 : (wr.alloc (.cells #[.int .i64 a, .int .i64 (b + 1), .int .i64 c, .int .i64 d] 23)).cell? ⟨E, 1, none⟩ = some (.int .u64 hi) := by rw [hV]; exact hQ2.gs.st.snd
                have HV := Lib.hid hV
                clear hV
                go_wp2_with fail
                refine (T5.out _ (HV.out ▸ G.below (by rw [hD]; exact hQ2.gs.bel))).mono ?_
                rw [HV.out]
                rintro e w3 ⟨rfl, hb3⟩
                have hQ3 := hQ2.below hD hb3
                have hP3 := heap_kept hb3 hP2
                clear i0 i1 i2 i3 e0 e1 HV hb3 hQ2 hP2
                have HG1 := Lib.hid (show all2 (f2 && f3) f4 f5 2 = (all2 (f2 && f3) f4 f5 1 && f5) from rfl)
                generalize all2 (f2 && f3) f4 f5 1 = g0 at *
                cases g0 <;> cases f5
                all_goals
                  go_wp2_with fail
                  go_roundw
                  case rel => exact ⟨2, by omega, rfl, by rw [HG1.out]; rfl, (hQ3.alloc hD _).alloc hD _, heap_old (heap_old hP3)⟩
                  case measure => simp [intOf]
              | 2, _ =>
                have hlt : ¬ (2 : Int) < 2 := by omega
                have e0 := hQ.gs.st.fst
                have e1 := hQ.gs.st.snd
                go_wp2_with fail
                refine (SH.out _).mono ?_
                rintro e w4 ⟨rfl, hb4⟩
                have hQ4 := (hQ.below hD hb4).gs
                have hQ5 := hQ4.alloc hD (.cells #[.int .u64 ua1, .int .u64 ua2] 26)
                clear e0 e1 hb4 hQ hPq hQ4
                have c0 := cell4_0 hQ5.pl
                have c1 := cell4_1 hQ5.pl
                have c2 := cell4_2 hQ5.pl
                have c3 := cell4_3 hQ5.pl
                have G5 : Gl (w4.alloc (.cells #[.int .u64 ua1, .int .u64 ua2] 26)) := G.below (by rw [hD]; exact hQ5.bel)
                go_wp2_with fail
                refine (T6.out _ G5).mono ?_
                rintro e w6 ⟨rfl, hb6⟩
                have hQ7 := ((hQ5.below hD hb6).alloc hD (.cells #[.int .u64 r1, .int .u64 r2] 26)).alloc hD (.cells #[.int .u64 r3, .int .u64 r4] 26)
                have HB := Lib.hid hQ7.bel
                clear c0 c1 c2 c3 hb6 hQ5 G5 hQ7
                have HALL := Lib.hid (show f1 = true → all2 (f2 && f3) f4 f5 2 = true from fun h => by rw [M1.out h, M2.out h, M3.out h, M4.out h]; rfl)
                generalize all2 (f2 && f3) f4 f5 2 = g at *
                by_cases h7 : high = 127
                · have hi7 : ((high : Nat) : Int) = 127 := by omega
                  have hi8 : (((high : Nat) : Int) == 127) = true := by simp [hi7]
                  cases f1 with
                  | true =>
                    obtain rfl : g = true := HALL.out rfl
                    go_wp2_with fail
                    go_ret
                    exact ⟨rfl, by rw [hD]; exact HB.out⟩
                  | false =>
                    go_wp2_with fail
                    go_ret
                    exact ⟨rfl, by rw [hD]; exact HB.out⟩
                · have hi7 : ¬ ((high : Nat) : Int) = 127 := by omega
                  have hi8 : (((high : Nat) : Int) == 127) = false := by simp [hi7]
                  obtain rfl : f6 = f1 := M5.out h7
                  cases f6 with
                  | true =>
                    obtain rfl : g = true := HALL.out rfl
                    go_wp2_with fail
                    go_ret
                    exact ⟨rfl, by rw [hD]; exact HB.out⟩
                  | false =>
                    go_wp2_with fail
                    go_ret
                    exact ⟨rfl, by rw [hD]; exact HB.out⟩

  · rw [show chk a b c d = 3 from chk_three hx]
    go_wp2_with fail
    refine (KN.out _ G2).mono ?_
    rintro e v3 ⟨rfl, hb3⟩
    go_wp2
    go_ret
    exact ⟨rfl, by rw [hD]; exact hw2.trans (hb3.mono hz2)⟩
end Go.Proofs.YtinopmdefndhoaaDoor
