/- The contract of size. -/
import Derived.Test.YthdoadkdofgenaaGreatDoorIvB
namespace Go.Proofs.YthdoadkdofgenaaGreatDoor
open Go Go.RowKit Go.Shelf

theorem set2_at6_0 {W : World} {b : Nat} {c0 c1 c2 c3 c4 c5 x y : Value} {T : TypeId} (h : W.heap[b]? = some (.cells #[c0, c1, c2, c3, c4, c5] T)) : ((W.setCell ⟨b, 0, none⟩ x).setCell ⟨b, 1, none⟩ y).heap[b]? = some (.cells #[x, y, c2, c3, c4, c5] T) := set6_1 (set6_0 h)
theorem set2_at6_2 {W : World} {b : Nat} {c0 c1 c2 c3 c4 c5 x y : Value} {T : TypeId} (h : W.heap[b]? = some (.cells #[c0, c1, c2, c3, c4, c5] T)) : ((W.setCell ⟨b, 2, none⟩ x).setCell ⟨b, 3, none⟩ y).heap[b]? = some (.cells #[c0, c1, x, y, c4, c5] T) := set6_3 (set6_2 h)
theorem set2_at6_4 {W : World} {b : Nat} {c0 c1 c2 c3 c4 c5 x y : Value} {T : TypeId} (h : W.heap[b]? = some (.cells #[c0, c1, c2, c3, c4, c5] T)) : ((W.setCell ⟨b, 4, none⟩ x).setCell ⟨b, 5, none⟩ y).heap[b]? = some (.cells #[c0, c1, c2, c3, x, y] T) := set6_5 (set6_4 h)
theorem set2_other {W : World} {b k o o' : Nat} {x y : Value} (h : k ≠ b) : ((W.setCell ⟨b, o, none⟩ x).setCell ⟨b, o', none⟩ y).heap[k]? = W.heap[k]? := (set_other h).trans (set_other h)

set_option maxRecDepth 10000 in
set_option maxHeartbeats 4000000 in
theorem ivsize_no (a b c d : Int) (w : World) (ha1 : -9223372036854775807 ≤ a) (ha2 : a ≤ 9223372036854775807) (hb1 : -9223372036854775807 ≤ b) (hb2 : b ≤ 9223372036854775807) (hc1 : -9223372036854775807 ≤ c) (hc2 : c ≤ 9223372036854775807) (hd1 : 0 < d) (hd2 : d ≤ 9223372036854775807) (hok : Iv.okB a b c d = false) :
    Calls Tryz.prog 45 #[.agg #[.int .i64 a, .int .i64 b, .int .i64 c, .int .i64 d]] w fun e w' => e = .returned (.tuple #[.agg #[.int .i64 0, .int .i64 0, .int .i64 0, .int .i64 0, .int .i64 0, .int .i64 0], .int .i64 4]) ∧ Below w.heap.size w w' := by
  have LO := Lib.hid (fun W => ivlowest_any a b c d W ha1 ha2 hb1 hb2 hc1 hc2 hd1 hd2)
  have hok' : Iv.inB (a.tdiv (Iv.g4 a b c d)) (b.tdiv (Iv.g4 a b c d)) (c.tdiv (Iv.g4 a b c d)) (d.tdiv (Iv.g4 a b c d)) = false := hok
  have RI := Lib.hid (fun W => ivright_any (a.tdiv (Iv.g4 a b c d)) (b.tdiv (Iv.g4 a b c d)) (c.tdiv (Iv.g4 a b c d)) (d.tdiv (Iv.g4 a b c d)) W)
  rw [hok'] at RI
  clear hok hok'
  generalize a.tdiv (Iv.g4 a b c d) = qa at *
  generalize b.tdiv (Iv.g4 a b c d) = qb at *
  generalize c.tdiv (Iv.g4 a b c d) = qc at *
  generalize d.tdiv (Iv.g4 a b c d) = qd at *
  obtain ⟨D, hD⟩ : ∃ D, w.heap.size = D := ⟨_, rfl⟩
  go_enter Tryz.func45, Tryz.ntmps45
  go_wp2_with fail
  refine (LO.out _).mono ?_
  rintro e w1 ⟨rfl, hb1'⟩
  have h0 : w1.heap[D]? = some (.cells #[.int .i64 a, .int .i64 b, .int .i64 c, .int .i64 d] 73) := (hb1'.block D (by simp [hD]; omega)).trans (heap_old (heap_new hD.symm))
  have h1 : w1.heap[D + 1]? = some (.cells #[.int .i64 0, .int .i64 0, .int .i64 0, .int .i64 0, .int .i64 0, .int .i64 0] 25) := (hb1'.block (D + 1) (by simp [hD])).trans (heap_new (by simp [hD]))
  have hw1 : Below D w w1 := (((Below.refl _ w).alloc (by omega) _).alloc (by simp; omega) _).trans (hb1'.mono (by simp; omega))
  have f0 := free4_0 h0
  have f1 := free4_1 h0
  have f2 := free4_2 h0
  have f3 := free4_3 h0
  have c0 := cell4_0 h0
  have c1 := cell4_1 h0
  have c2 := cell4_2 h0
  have c3 := cell4_3 h0
  go_wp2_with fail
  obtain ⟨U, hU⟩ : ∃ U, ((((w1.setCell ⟨D, 0, none⟩ (.int .i64 qa)).setCell ⟨D, 1, none⟩ (.int .i64 qb)).setCell ⟨D, 2, none⟩ (.int .i64 qc)).setCell ⟨D, 3, none⟩ (.int .i64 qd)) = U := ⟨_, rfl⟩
  have hwU : Below D w U := by rw [← hU]; exact (((hw1.setCell (by simp) _).setCell (by simp) _).setCell (by simp) _).setCell (by simp) _
  have h0U : U.heap[D]? = some (.cells #[.int .i64 qa, .int .i64 qb, .int .i64 qc, .int .i64 qd] 73) := by rw [← hU]; exact set4_3 (set4_2 (set4_1 (set4_0 h0)))
  have h1U : U.heap[D + 1]? = some (.cells #[.int .i64 0, .int .i64 0, .int .i64 0, .int .i64 0, .int .i64 0, .int .i64 0] 25) := by rw [← hU]; exact (set_other (by omega)).trans ((set_other (by omega)).trans ((set_other (by omega)).trans ((set_other (by omega)).trans h1)))
  rw [hU]
  clear hU h0 h1 hw1 hb1' f0 f1 f2 f3 c0 c1 c2 c3 LO
  refine (RI.out _).mono ?_
  rintro e w2 ⟨rfl, hb2'⟩
  have hs2 := hb2'.size
  have hDU : D + 1 < U.heap.size := (Array.getElem?_eq_some_iff.1 h1U).1
  have hw2 : Below D w w2 := hwU.trans (hb2'.mono (by omega))
  have h0 := (hb2'.block D (by omega)).trans h0U
  have h1 := (hb2'.block (D + 1) (by omega)).trans h1U
  clear hb2' hwU h0U h1U RI
  have r0 := cell6_0 h1
  have r1 := cell6_1 h1
  have r2 := cell6_2 h1
  have r3 := cell6_3 h1
  have r4 := cell6_4 h1
  have r5 := cell6_5 h1
  have g0 := free6_0 h1
  have g1 := free6_1 h1
  have g2 := free6_2 h1
  have g3 := free6_3 h1
  have g4 := free6_4 h1
  have g5 := free6_5 h1
  have HW := Lib.hid ((((((hw2.setCell (p := ⟨D + 1, 0, none⟩) (by simp) (.int .i64 0)).setCell (p := ⟨D + 1, 1, none⟩) (by simp) (.int .i64 0)).setCell (p := ⟨D + 1, 2, none⟩) (by simp) (.int .i64 0)).setCell (p := ⟨D + 1, 3, none⟩) (by simp) (.int .i64 0)).setCell (p := ⟨D + 1, 4, none⟩) (by simp) (.int .i64 0)).setCell (p := ⟨D + 1, 5, none⟩) (by simp) (.int .i64 0))
  have hE := (set6_5 (x := .int .i64 0) (set6_4 (x := .int .i64 0) (set6_3 (x := .int .i64 0) (set6_2 (x := .int .i64 0) (set6_1 (x := .int .i64 0) (set6_0 (x := .int .i64 0) h1))))))
  have z0 := cell6_0 hE
  have z1 := cell6_1 hE
  have z2 := cell6_2 hE
  have z3 := cell6_3 hE
  have z4 := cell6_4 hE
  have z5 := cell6_5 hE
  clear h0 h1 hw2 hE
  go_wp2
  refine bodyPost_ret (v := .tuple #[.agg #[.int .i64 0, .int .i64 0, .int .i64 0, .int .i64 0, .int .i64 0, .int .i64 0], .int .i64 4]) (by simp [results, Tryz.results45, go_sem, z0, z1, z2, z3, z4, z5]) rfl ⟨rfl, by rw [hD]; exact HW.out⟩

set_option maxRecDepth 10000 in
set_option maxHeartbeats 8000000 in
theorem ivsize_yes0 (a b c d : Int) (w : World) (ha1 : -9223372036854775807 ≤ a) (ha2 : a ≤ 9223372036854775807) (hb1 : -9223372036854775807 ≤ b) (hb2 : b ≤ 9223372036854775807) (hc1 : -9223372036854775807 ≤ c) (hc2 : c ≤ 9223372036854775807) (hd1 : 0 < d) (hd2 : d ≤ 9223372036854775807) (hok : Iv.okB a b c d = true) (na da nb db nc dc : Int)
    (MA : ∀ W : World, Calls Tryz.prog 69 #[.int .i64 (a.tdiv (Iv.g4 a b c d)), .int .i64 (d.tdiv (Iv.g4 a b c d))] W fun e w' => e = .returned (.tuple #[.agg #[.int .i64 na, .int .i64 da], .int .i64 0]) ∧ Below W.heap.size W w')
    (MB : ∀ W : World, Calls Tryz.prog 69 #[.int .i64 (b.tdiv (Iv.g4 a b c d)), .int .i64 (d.tdiv (Iv.g4 a b c d))] W fun e w' => e = .returned (.tuple #[.agg #[.int .i64 nb, .int .i64 db], .int .i64 0]) ∧ Below W.heap.size W w')
    (MC : ∀ W : World, Calls Tryz.prog 69 #[.int .i64 (c.tdiv (Iv.g4 a b c d)), .int .i64 (d.tdiv (Iv.g4 a b c d))] W fun e w' => e = .returned (.tuple #[.agg #[.int .i64 nc, .int .i64 dc], .int .i64 0]) ∧ Below W.heap.size W w') :
    Calls Tryz.prog 45 #[.agg #[.int .i64 a, .int .i64 b, .int .i64 c, .int .i64 d]] w fun e w' => e = .returned (.tuple #[.agg #[.int .i64 na, .int .i64 da, .int .i64 nb, .int .i64 db, .int .i64 nc, .int .i64 dc], .int .i64 0]) ∧ Below w.heap.size w w' := by
  have LO := Lib.hid (fun W => ivlowest_any a b c d W ha1 ha2 hb1 hb2 hc1 hc2 hd1 hd2)
  have hok' : Iv.inB (a.tdiv (Iv.g4 a b c d)) (b.tdiv (Iv.g4 a b c d)) (c.tdiv (Iv.g4 a b c d)) (d.tdiv (Iv.g4 a b c d)) = true := hok
  have RI := Lib.hid (fun W => ivright_any (a.tdiv (Iv.g4 a b c d)) (b.tdiv (Iv.g4 a b c d)) (c.tdiv (Iv.g4 a b c d)) (d.tdiv (Iv.g4 a b c d)) W)
  rw [hok'] at RI
  have MA' := Lib.hid MA
  have MB' := Lib.hid MB
  have MC' := Lib.hid MC
  clear MA MB MC
  clear hok hok'
  generalize a.tdiv (Iv.g4 a b c d) = qa at *
  generalize b.tdiv (Iv.g4 a b c d) = qb at *
  generalize c.tdiv (Iv.g4 a b c d) = qc at *
  generalize d.tdiv (Iv.g4 a b c d) = qd at *
  have X0 := fun W => ix_int0 qa qb qc W
  have X1 := fun W => ix_int1 qa qb qc W
  have X2 := fun W => ix_int2 qa qb qc W
  obtain ⟨D, hD⟩ : ∃ D, w.heap.size = D := ⟨_, rfl⟩
  go_enter Tryz.func45, Tryz.ntmps45
  go_wp2_with fail
  refine (LO.out _).mono ?_
  rintro e w1 ⟨rfl, hb1'⟩
  have h0 : w1.heap[D]? = some (.cells #[.int .i64 a, .int .i64 b, .int .i64 c, .int .i64 d] 73) := (hb1'.block D (by simp [hD]; omega)).trans (heap_old (heap_new hD.symm))
  have h1 : w1.heap[D + 1]? = some (.cells #[.int .i64 0, .int .i64 0, .int .i64 0, .int .i64 0, .int .i64 0, .int .i64 0] 25) := (hb1'.block (D + 1) (by simp [hD])).trans (heap_new (by simp [hD]))
  have hw1 : Below D w w1 := (((Below.refl _ w).alloc (by omega) _).alloc (by simp; omega) _).trans (hb1'.mono (by simp; omega))
  have f0 := free4_0 h0
  have f1 := free4_1 h0
  have f2 := free4_2 h0
  have f3 := free4_3 h0
  have c0 := cell4_0 h0
  have c1 := cell4_1 h0
  have c2 := cell4_2 h0
  have c3 := cell4_3 h0
  go_wp2_with fail
  obtain ⟨U, hU⟩ : ∃ U, ((((w1.setCell ⟨D, 0, none⟩ (.int .i64 qa)).setCell ⟨D, 1, none⟩ (.int .i64 qb)).setCell ⟨D, 2, none⟩ (.int .i64 qc)).setCell ⟨D, 3, none⟩ (.int .i64 qd)) = U := ⟨_, rfl⟩
  have hwU : Below D w U := by rw [← hU]; exact (((hw1.setCell (by simp) _).setCell (by simp) _).setCell (by simp) _).setCell (by simp) _
  have h0U : U.heap[D]? = some (.cells #[.int .i64 qa, .int .i64 qb, .int .i64 qc, .int .i64 qd] 73) := by rw [← hU]; exact set4_3 (set4_2 (set4_1 (set4_0 h0)))
  have h1U : U.heap[D + 1]? = some (.cells #[.int .i64 0, .int .i64 0, .int .i64 0, .int .i64 0, .int .i64 0, .int .i64 0] 25) := by rw [← hU]; exact (set_other (by omega)).trans ((set_other (by omega)).trans ((set_other (by omega)).trans ((set_other (by omega)).trans h1)))
  rw [hU]
  clear hU h0 h1 hw1 hb1' f0 f1 f2 f3 c0 c1 c2 c3 LO
  refine (RI.out _).mono ?_
  rintro e w2 ⟨rfl, hb2'⟩
  have hs2 := hb2'.size
  have hDU : D + 1 < U.heap.size := (Array.getElem?_eq_some_iff.1 h1U).1
  have hw2 : Below D w w2 := hwU.trans (hb2'.mono (by omega))
  have h0 := (hb2'.block D (by omega)).trans h0U
  have h1 := (hb2'.block (D + 1) (by omega)).trans h1U
  clear hb2' hwU h0U h1U RI
  have h0o := heap_old (o := .cells #[.int .i64 0, .int .i64 0, .int .i64 0, .int .i64 0, .int .i64 0, .int .i64 0] 56) h0
  have c0 := cell4_0 h0o
  have c1 := cell4_1 h0o
  have c2 := cell4_2 h0o
  have c3 := cell4_3 h0o
  go_wp2_with fail
  obtain ⟨E, hE⟩ : ∃ E, w2.heap.size = E := ⟨_, rfl⟩
  rw [hE]
  have hED : D + 1 < E := by omega
  obtain ⟨V, hV⟩ : ∃ V, (w2.alloc (.cells #[.int .i64 0, .int .i64 0, .int .i64 0, .int .i64 0, .int .i64 0, .int .i64 0] 56)) = V := ⟨_, rfl⟩
  have hwV : Below D w V := by rw [← hV]; exact hw2.alloc (by have := hw2.size; omega) _
  have h0V : V.heap[D]? = some (.cells #[.int .i64 qa, .int .i64 qb, .int .i64 qc, .int .i64 qd] 73) := by rw [← hV]; exact heap_old h0
  have h1V : V.heap[D + 1]? = some (.cells #[.int .i64 0, .int .i64 0, .int .i64 0, .int .i64 0, .int .i64 0, .int .i64 0] 25) := by rw [← hV]; exact heap_old h1
  have h2V : V.heap[E]? = some (.cells #[.int .i64 0, .int .i64 0, .int .i64 0, .int .i64 0, .int .i64 0, .int .i64 0] 56) := by rw [← hV]; exact heap_new hE.symm
  rw [hV]
  clear hV h0 h1 hw2 c0 c1 c2 c3 hE h0o
  go_loopw [15] (fun i wr => ((i = .int .i64 0 ∧ wr.heap[E]? = some (.cells #[.int .i64 0, .int .i64 0, .int .i64 0, .int .i64 0, .int .i64 0, .int .i64 0] 56)) ∨ (i = .int .i64 1 ∧ wr.heap[E]? = some (.cells #[.int .i64 na, .int .i64 da, .int .i64 0, .int .i64 0, .int .i64 0, .int .i64 0] 56)) ∨ (i = .int .i64 2 ∧ wr.heap[E]? = some (.cells #[.int .i64 na, .int .i64 da, .int .i64 nb, .int .i64 db, .int .i64 0, .int .i64 0] 56)) ∨ (i = .int .i64 3 ∧ wr.heap[E]? = some (.cells #[.int .i64 na, .int .i64 da, .int .i64 nb, .int .i64 db, .int .i64 nc, .int .i64 dc] 56))) ∧ Below D w wr ∧ wr.heap[D]? = some (.cells #[.int .i64 qa, .int .i64 qb, .int .i64 qc, .int .i64 qd] 73) ∧ wr.heap[D + 1]? = some (.cells #[.int .i64 0, .int .i64 0, .int .i64 0, .int .i64 0, .int .i64 0, .int .i64 0] 25)) (fun i _ => 3 - (intOf i).toNat)
  case atStart => exact ⟨.inl ⟨rfl, h2V⟩, hwV, h0V, h1V⟩
  case round =>
    obtain ⟨hk, hw, h0, h1⟩ := hrel
    have hs : E < wr.heap.size ∧ D < wr.heap.size := by
      refine ⟨?_, (Array.getElem?_eq_some_iff.1 h0).1⟩
      rcases hk with ⟨_, h⟩ | ⟨_, h⟩ | ⟨_, h⟩ | ⟨_, h⟩ <;> exact (Array.getElem?_eq_some_iff.1 h).1
    obtain ⟨hs1, hs2'⟩ := hs
    rcases hk with ⟨rfl, h2⟩ | ⟨rfl, h2⟩ | ⟨rfl, h2⟩ | ⟨rfl, h2⟩
    · have c3 := cell4_3 h0
      go_wp2_with fail
      refine (MA'.out _).mono ?_
      rintro e w5 ⟨rfl, hb5⟩
      have g2 := (hb5.block E hs1).trans h2
      have e0 := cell6_0 g2
      have e1 := cell6_1 g2
      have e2 := free6_0 g2
      have e3 := free6_1 g2
      have H2 := Lib.hid (set2_at6_0 (x := .int .i64 na) (y := .int .i64 da) g2)
      have H0 := Lib.hid ((set2_other (b := E) (o := 0) (o' := 1) (x := .int .i64 na) (y := .int .i64 da) (show D ≠ E by omega)).trans ((hb5.block D hs2').trans h0))
      have H1 := Lib.hid ((set2_other (b := E) (o := 0) (o' := 1) (x := .int .i64 na) (y := .int .i64 da) (show D + 1 ≠ E by omega)).trans ((hb5.block (D + 1) (by omega)).trans h1))
      have HW := Lib.hid (((hw.trans (hb5.mono (by have := hw.size; omega))).setCell (p := ⟨E, 0, none⟩) (by simp; omega) (.int .i64 na)).setCell (p := ⟨E, 1, none⟩) (by simp; omega) (.int .i64 da))
      clear g2 h0 h1 h2 hw hb5 c3
      go_wp2
      exact ⟨⟨.inr (.inl ⟨rfl, H2.out⟩), HW.out, H0.out, H1.out⟩, by decide⟩
    · have c3 := cell4_3 h0
      go_wp2_with fail
      refine (MB'.out _).mono ?_
      rintro e w5 ⟨rfl, hb5⟩
      have g2 := (hb5.block E hs1).trans h2
      have e0 := cell6_2 g2
      have e1 := cell6_3 g2
      have e2 := free6_2 g2
      have e3 := free6_3 g2
      have H2 := Lib.hid (set2_at6_2 (x := .int .i64 nb) (y := .int .i64 db) g2)
      have H0 := Lib.hid ((set2_other (b := E) (o := 2) (o' := 3) (x := .int .i64 nb) (y := .int .i64 db) (show D ≠ E by omega)).trans ((hb5.block D hs2').trans h0))
      have H1 := Lib.hid ((set2_other (b := E) (o := 2) (o' := 3) (x := .int .i64 nb) (y := .int .i64 db) (show D + 1 ≠ E by omega)).trans ((hb5.block (D + 1) (by omega)).trans h1))
      have HW := Lib.hid (((hw.trans (hb5.mono (by have := hw.size; omega))).setCell (p := ⟨E, 2, none⟩) (by simp; omega) (.int .i64 nb)).setCell (p := ⟨E, 3, none⟩) (by simp; omega) (.int .i64 db))
      clear g2 h0 h1 h2 hw hb5 c3
      go_wp2
      exact ⟨⟨.inr (.inr (.inl ⟨rfl, H2.out⟩)), HW.out, H0.out, H1.out⟩, by decide⟩
    · have c3 := cell4_3 h0
      go_wp2_with fail
      refine (MC'.out _).mono ?_
      rintro e w5 ⟨rfl, hb5⟩
      have g2 := (hb5.block E hs1).trans h2
      have e0 := cell6_4 g2
      have e1 := cell6_5 g2
      have e2 := free6_4 g2
      have e3 := free6_5 g2
      have H2 := Lib.hid (set2_at6_4 (x := .int .i64 nc) (y := .int .i64 dc) g2)
      have H0 := Lib.hid ((set2_other (b := E) (o := 4) (o' := 5) (x := .int .i64 nc) (y := .int .i64 dc) (show D ≠ E by omega)).trans ((hb5.block D hs2').trans h0))
      have H1 := Lib.hid ((set2_other (b := E) (o := 4) (o' := 5) (x := .int .i64 nc) (y := .int .i64 dc) (show D + 1 ≠ E by omega)).trans ((hb5.block (D + 1) (by omega)).trans h1))
      have HW := Lib.hid (((hw.trans (hb5.mono (by have := hw.size; omega))).setCell (p := ⟨E, 4, none⟩) (by simp; omega) (.int .i64 nc)).setCell (p := ⟨E, 5, none⟩) (by simp; omega) (.int .i64 dc))
      clear g2 h0 h1 h2 hw hb5 c3
      go_wp2
      exact ⟨⟨.inr (.inr (.inr ⟨rfl, H2.out⟩)), HW.out, H0.out, H1.out⟩, by decide⟩
    · have hEE := h2
      have y0 := cell6_0 hEE
      have y1 := cell6_1 hEE
      have y2 := cell6_2 hEE
      have y3 := cell6_3 hEE
      have y4 := cell6_4 hEE
      have y5 := cell6_5 hEE
      have r0 := cell6_0 h1
      have r1 := cell6_1 h1
      have r2 := cell6_2 h1
      have r3 := cell6_3 h1
      have r4 := cell6_4 h1
      have r5 := cell6_5 h1
      have g0 := free6_0 h1
      have g1 := free6_1 h1
      have g2 := free6_2 h1
      have g3 := free6_3 h1
      have g4 := free6_4 h1
      have g5 := free6_5 h1
      have HW := Lib.hid ((((((hw.setCell (p := ⟨D + 1, 0, none⟩) (by simp) (.int .i64 na)).setCell (p := ⟨D + 1, 1, none⟩) (by simp) (.int .i64 da)).setCell (p := ⟨D + 1, 2, none⟩) (by simp) (.int .i64 nb)).setCell (p := ⟨D + 1, 3, none⟩) (by simp) (.int .i64 db)).setCell (p := ⟨D + 1, 4, none⟩) (by simp) (.int .i64 nc)).setCell (p := ⟨D + 1, 5, none⟩) (by simp) (.int .i64 dc))
      have hE := (set6_5 (x := .int .i64 dc) (set6_4 (x := .int .i64 nc) (set6_3 (x := .int .i64 db) (set6_2 (x := .int .i64 nb) (set6_1 (x := .int .i64 da) (set6_0 (x := .int .i64 na) h1))))))
      have z0 := cell6_0 hE
      have z1 := cell6_1 hE
      have z2 := cell6_2 hE
      have z3 := cell6_3 hE
      have z4 := cell6_4 hE
      have z5 := cell6_5 hE
      clear h0 h1 h2 hw hE hEE
      go_wp2
      refine bodyPost_ret (v := .tuple #[.agg #[.int .i64 na, .int .i64 da, .int .i64 nb, .int .i64 db, .int .i64 nc, .int .i64 dc], .int .i64 0]) (by simp [results, Tryz.results45, go_sem, z0, z1, z2, z3, z4, z5]) rfl ⟨rfl, by rw [hD]; exact HW.out⟩
theorem ivsize_yes (a b c : Int) (D : Nat) (w : World) (ha1 : -9223372036854775807 ≤ a) (ha2 : a ≤ 9223372036854775807) (hb1 : -9223372036854775807 ≤ b) (hb2 : b ≤ 9223372036854775807) (hc1 : -9223372036854775807 ≤ c) (hc2 : c ≤ 9223372036854775807) (hD1 : 0 < D) (hD2 : D ≤ 9223372036854775807) (hok : Iv.okB a b c D = true) :
    Calls Tryz.prog 45 #[.agg #[.int .i64 a, .int .i64 b, .int .i64 c, .int .i64 (D : Int)]] w fun e w' => e = .returned (.tuple #[.agg #[.int .i64 (FracMath.qn a D), .int .i64 (FracMath.qd a D), .int .i64 (FracMath.qn b D), .int .i64 (FracMath.qd b D), .int .i64 (FracMath.qn c D), .int .i64 (FracMath.qd c D)], .int .i64 0]) ∧ Below w.heap.size w w' := by
  have h0 := Iv.g4_pos (a := a) (b := b) (c := c) (d := (D : Int)) (by omega)
  have hd : Iv.g4 a b c D ∣ D := Int.ofNat_dvd.1 (Iv.g4_d a b c (D : Int))
  have hok' : Iv.inB (a.tdiv (Iv.g4 a b c D)) (b.tdiv (Iv.g4 a b c D)) (c.tdiv (Iv.g4 a b c D)) ((D : Int).tdiv (Iv.g4 a b c D)) = true := hok
  have hp := Iv.low_pos (a := a) (b := b) (c := c) hD1
  rw [Iv.tdiv_nat] at hok'
  have hin := hok'
  unfold Iv.inB at hin
  simp only [decide_eq_true_eq] at hin
  have mk : ∀ x : Int, -6000 ≤ x → x ≤ 6000 → ∀ W : World, Calls Tryz.prog 69 #[.int .i64 x, .int .i64 ((D / Iv.g4 a b c D : Nat) : Int)] W fun e w' => e = .returned (.tuple #[.agg #[.int .i64 (FracMath.qn x ((D / Iv.g4 a b c D : Nat) : Int)), .int .i64 (FracMath.qd x ((D / Iv.g4 a b c D : Nat) : Int))], .int .i64 0]) ∧ Below W.heap.size W w' := fun x h1 h2 W => by
    have m := make_any x ((D / Iv.g4 a b c D : Nat) : Int) W (by omega) (by omega) (by omega) (by omega)
    have ho : FracMath.overB x ((D / Iv.g4 a b c D : Nat) : Int) = false := by
      have h3 := Iv.right_in_ hp h1 h2 (by omega)
      rw [FracMath.right_quot (by omega)] at h3
      simpa using h3
    rw [FracMath.mk_ok (by omega) ho] at m
    exact m
  rw [(Iv.qn_low h0 (Iv.g4_a a b c D) hd).1, (Iv.qn_low h0 (Iv.g4_a a b c D) hd).2, (Iv.qn_low h0 (Iv.g4_b a b c D) hd).1, (Iv.qn_low h0 (Iv.g4_b a b c D) hd).2, (Iv.qn_low h0 (Iv.g4_c a b c D) hd).1, (Iv.qn_low h0 (Iv.g4_c a b c D) hd).2]
  refine ivsize_yes0 a b c D w ha1 ha2 hb1 hb2 hc1 hc2 (by omega) (by omega) hok _ _ _ _ _ _ ?_ ?_ ?_ <;> rw [Iv.tdiv_nat]
  · exact mk _ (by omega) (by omega)
  · exact mk _ (by omega) (by omega)
  · exact mk _ (by omega) (by omega)
end Go.Proofs.YthdoadkdofgenaaGreatDoor
/- The contract of Check over fractions. -/
namespace Go.Proofs.YthdoadkdofgenaaGreatDoor
open Go.RowKit

/-- Check's answer. -/
def chk (n d : Int) : Int := if FracMath.rightB n d then 0 else 2
theorem chk_yes {n d : Int} (h : FracMath.rightB n d = true) : chk n d = 0 := by unfold chk; rw [h, if_pos rfl]
theorem chk_no {n d : Int} (h : FracMath.rightB n d = false) : chk n d = 2 := by unfold chk; rw [h, if_neg (by decide)]

theorem check_in (n d : Int) (w : World) (h1 : -1000000 ≤ n) (h2 : n ≤ 1000000) (h3 : 1 ≤ d) (h4 : d ≤ 1000000) :
    Calls Tryz.prog 44 #[.agg #[.int .i64 n, .int .i64 d]] w fun e w' => e = .returned (.int .i64 (chk n d)) ∧ Below w.heap.size w w' := by
  have hr : FracMath.rightB n d = decide ((FracMath.gg n d : Int) = 1) := FracMath.right_in h1 h2 h3 h4
  have c := fun W => divisor_any n.natAbs d.natAbs W (by omega) (by omega)
  rw [show Nat.gcd n.natAbs d.natAbs = FracMath.gg n d from rfl] at c
  generalize FracMath.gg n d = g at hr c
  have C := Lib.hid c
  clear c
  by_cases ht : g = 1
  · subst ht
    rw [chk_yes (by rw [hr]; rfl)]
    clear hr
    go_enter Tryz.func44, Tryz.ntmps44
    go_wp2_with (go_quiet (first | (go_at_call 67; exact still_here (magnitude_any _ _ (by omega) (by omega))) | (go_at_call 66; exact Calls.quiet_of (C.out _))))
    go_wp2
    go_ret
    exact ⟨rfl, below_drewN (by go_grown) _⟩
  · have ht' : ((g : Int) != 1) = true := by simp; omega
    have hd : decide ((g : Int) = 1) = false := by simp; omega
    rw [hd] at hr
    rw [chk_no hr]
    clear ht hd hr
    go_enter Tryz.func44, Tryz.ntmps44
    go_wp2_with (go_quiet (first | (go_at_call 67; exact still_here (magnitude_any _ _ (by omega) (by omega))) | (go_at_call 66; exact Calls.quiet_of (C.out _))))
    go_wp2
    go_ret
    exact ⟨rfl, below_drewN (by go_grown) _⟩

theorem check_out (n d : Int) (w : World) (h : ¬ (-1000000 ≤ n ∧ n ≤ 1000000 ∧ 1 ≤ d ∧ d ≤ 1000000)) :
    Calls Tryz.prog 44 #[.agg #[.int .i64 n, .int .i64 d]] w fun e w' => e = .returned (.int .i64 (chk n d)) ∧ Below w.heap.size w w' := by
  rw [chk_no (FracMath.right_out h)]
  by_cases h1 : d < 1
  · clear h
    go_enter Tryz.func44, Tryz.ntmps44
    go_wp2
    go_ret
    exact ⟨rfl, by go_grown⟩
  by_cases h2 : 1000000 < d
  · clear h
    go_enter Tryz.func44, Tryz.ntmps44
    go_wp2
    go_ret
    exact ⟨rfl, by go_grown⟩
  by_cases h3 : n < -1000000
  · clear h
    go_enter Tryz.func44, Tryz.ntmps44
    go_wp2
    go_ret
    exact ⟨rfl, by go_grown⟩
  have h4 : 1000000 < n := by omega
  clear h
  go_enter Tryz.func44, Tryz.ntmps44
  go_wp2
  go_ret
  exact ⟨rfl, by go_grown⟩

theorem check_any (n d : Int) (w : World) :
    Calls Tryz.prog 44 #[.agg #[.int .i64 n, .int .i64 d]] w fun e w' => e = .returned (.int .i64 (chk n d)) ∧ Below w.heap.size w w' := by
  by_cases h : -1000000 ≤ n ∧ n ≤ 1000000 ∧ 1 ≤ d ∧ d ≤ 1000000
  · exact check_in n d w h.1 h.2.1 h.2.2.1 h.2.2.2
  · exact check_out n d w h

end Go.Proofs.YthdoadkdofgenaaGreatDoor
