/- Contracts of the law's read and right. -/
import Derived.Test.YthdoadkdofgenaaGreatDoorIvN
import Derived.Test.YthdoadkdofgenaaGreatDoorImB
import Derived.Test.YthdoadkdofgenaaGreatDoorIvF
namespace Go.Proofs.YthdoadkdofgenaaGreatDoor
open Go Go.RowKit Go.Shelf

set_option maxRecDepth 10000 in
set_option maxHeartbeats 2000000 in
theorem lread_any (n2 d2 n3 d3 n5 d5 : Int) (w : World) :
    Calls Tryz.prog 13 #[.agg #[.int .i64 n2, .int .i64 d2, .int .i64 n3, .int .i64 d3, .int .i64 n5, .int .i64 d5]] w fun e w' => e = .returned (.tuple #[.agg #[.int .i64 (rdA n2 d2 n3 d3 n5 d5), .int .i64 (rdB n2 d2 n3 d3 n5 d5), .int .i64 (rdC n2 d2 n3 d3 n5 d5), .int .i64 (rdD n2 d2 n3 d3 n5 d5)], .int .i64 (Iv.rdE n2 d2 n3 d3 n5 d5)]) ∧ Below w.heap.size w w' := by
  have PA := Lib.hid (fun W => lparts_any n2 d2 n3 d3 n5 d5 W)
  have RE := Lib.hid (fun W => rread_any n2 d2 n3 d3 n5 d5 W)
  generalize rdA n2 d2 n3 d3 n5 d5 = ra at *
  generalize rdB n2 d2 n3 d3 n5 d5 = rb at *
  generalize rdC n2 d2 n3 d3 n5 d5 = rc at *
  generalize rdD n2 d2 n3 d3 n5 d5 = rdd at *
  generalize Iv.rdE n2 d2 n3 d3 n5 d5 = re at *
  obtain ⟨D, hD⟩ : ∃ D, w.heap.size = D := ⟨_, rfl⟩
  go_enter Tryz.func13, Tryz.ntmps13
  go_wp2_with fail
  refine (PA.out _).mono ?_
  rintro e w1 ⟨rfl, hb1⟩
  have hs1 := hb1.size
  go_wp2_with fail
  refine (RE.out _).mono ?_
  rintro e w2 ⟨rfl, hb2⟩
  have h1a : w1.heap[D + 1]? = some (.cells #[.int .i64 0, .int .i64 0, .int .i64 0, .int .i64 0] 29) := (hb1.block (D + 1) (by simp [hD])).trans (heap_new (by simp [hD]))
  have hw1a : Below D w w1 := (((Below.refl _ w).alloc (by omega) _).alloc (by simp; omega) _).trans (hb1.mono (by simp; omega))
  have h1 := (hb2.block (D + 1) (Array.getElem?_eq_some_iff.1 h1a).1).trans h1a
  have hw1 := hw1a.trans (hb2.mono (by have := hw1a.size; omega))
  have r0 := cell4_0 h1
  have f0 := free4_0 h1
  have r1 := cell4_1 h1
  have f1 := free4_1 h1
  have r2 := cell4_2 h1
  have f2 := free4_2 h1
  have r3 := cell4_3 h1
  have f3 := free4_3 h1
  obtain ⟨U, hU⟩ : ∃ U, ((((w2.setCell ⟨D + 1, 0, none⟩ (.int .i64 ra)).setCell ⟨D + 1, 1, none⟩ (.int .i64 rb)).setCell ⟨D + 1, 2, none⟩ (.int .i64 rc)).setCell ⟨D + 1, 3, none⟩ (.int .i64 rdd)) = U := ⟨_, rfl⟩
  have HW := Lib.hid (show Below D w U by rw [← hU]; exact ((((hw1.setCell (p := ⟨D + 1, 0, none⟩) (show D ≤ D + 1 by omega) (.int .i64 ra)).setCell (p := ⟨D + 1, 1, none⟩) (show D ≤ D + 1 by omega) (.int .i64 rb)).setCell (p := ⟨D + 1, 2, none⟩) (show D ≤ D + 1 by omega) (.int .i64 rc)).setCell (p := ⟨D + 1, 3, none⟩) (show D ≤ D + 1 by omega) (.int .i64 rdd)))
  have hE : U.heap[D + 1]? = some (.cells #[.int .i64 ra, .int .i64 rb, .int .i64 rc, .int .i64 rdd] 29) := by rw [← hU]; exact (set4_3 (x := .int .i64 rdd) (set4_2 (x := .int .i64 rc) (set4_1 (x := .int .i64 rb) (set4_0 (x := .int .i64 ra) h1))))
  have HU := Lib.hid hU
  have z0 := cell4_0 hE
  have z1 := cell4_1 hE
  have z2 := cell4_2 hE
  have z3 := cell4_3 hE
  clear hE hU h1 h1a hw1 hw1a hb1 hb2 hs1
  go_wp2
  rw [HU.out]
  refine bodyPost_ret (v := .tuple #[.agg #[.int .i64 ra, .int .i64 rb, .int .i64 rc, .int .i64 rdd], .int .i64 re]) (by simp [results, Tryz.results13, go_sem, z0, z1, z2, z3]) rfl ⟨rfl, by first | exact HW.out | (rw [hD]; exact HW.out)⟩

set_option maxRecDepth 10000 in
set_option maxHeartbeats 4000000 in
theorem lright_any (a b c : Int) (d : Nat) (w : World) (ha1 : -9223372036854775807 ≤ a) (ha2 : a ≤ 9223372036854775807) (hb1 : -9223372036854775807 ≤ b) (hb2 : b ≤ 9223372036854775807) (hc1 : -9223372036854775807 ≤ c) (hc2 : c ≤ 9223372036854775807) (h3 : 0 < d) (h4 : d ≤ 9223372036854775807) :
    Calls Tryz.prog 23 #[.agg #[.int .i64 a, .int .i64 b, .int .i64 c, .int .i64 (d : Int)]] w fun e w' => e = .returned (.tuple #[.agg #[.int .i64 (szN a a b c d), .int .i64 (szD a a b c d), .int .i64 (szN b a b c d), .int .i64 (szD b a b c d), .int .i64 (szN c a b c d), .int .i64 (szD c a b c d)], .int .i64 (szE a b c d)]) ∧ Below w.heap.size w w' := by
  have SZ := Lib.hid (fun W => lsize_any a b c (d : Int) W ha1 ha2 hb1 hb2 hc1 hc2 (by omega) (by omega))
  have RD := Lib.hid (fun W => lread_any (FracMath.qn a d) (FracMath.qd a d) (FracMath.qn b d) (FracMath.qd b d) (FracMath.qn c d) (FracMath.qd c d) W)
  have hok := Iv.rd_write (a := a) (b := b) (c := c) h3
  unfold szN szD szE
  generalize FracMath.qn a d = pa at *
  generalize FracMath.qd a d = qa at *
  generalize FracMath.qn b d = pb at *
  generalize FracMath.qd b d = qb at *
  generalize FracMath.qn c d = pc at *
  generalize FracMath.qd c d = qc at *
  generalize rdA pa qa pb qb pc qc = ra at *
  generalize rdB pa qa pb qb pc qc = rb at *
  generalize rdC pa qa pb qb pc qc = rc at *
  generalize rdD pa qa pb qb pc qc = rdd at *
  generalize Iv.rdE pa qa pb qb pc qc = re at *
  obtain ⟨D, hD⟩ : ∃ D, w.heap.size = D := ⟨_, rfl⟩
  cases hk : Iv.okB a b c d with
  | true =>
    rw [hk] at hok
    have hre : re = 0 := hok.2 rfl
    subst hre
    simp only [if_true]
    clear hok hk ha1 ha2 hb1 hb2 hc1 hc2 h3 h4
    go_enter Tryz.func23, Tryz.ntmps23
    go_wp2_with fail
    refine (SZ.out _).mono ?_
    rintro e w1 ⟨rfl, hb1⟩
    have hs1 := hb1.size
    have h1a : w1.heap[D + 1]? = some (.cells #[.int .i64 0, .int .i64 0, .int .i64 0, .int .i64 0, .int .i64 0, .int .i64 0] 25) := (hb1.block (D + 1) (by simp [hD])).trans (heap_new (by simp [hD]))
    have hw1a : Below D w w1 := (((Below.refl _ w).alloc (by omega) _).alloc (by simp; omega) _).trans (hb1.mono (by simp; omega))
    obtain ⟨E, hE0⟩ : ∃ E, w1.heap.size = E := ⟨_, rfl⟩
    go_wp2_with fail
    refine (RD.out _).mono ?_
    rintro e w2 ⟨rfl, hb2⟩
    have hDn := (Array.getElem?_eq_some_iff.1 h1a).1
    have h1b := heap_old (o := .cells #[.int .i64 pa, .int .i64 qa, .int .i64 pb, .int .i64 qb, .int .i64 pc, .int .i64 qc] 25) h1a
    have hw1b := hw1a.alloc (by have := hw1a.size; omega) (.cells #[.int .i64 pa, .int .i64 qa, .int .i64 pb, .int .i64 qb, .int .i64 pc, .int .i64 qc] 25)
    have h1c := (hb2.block (D + 1) (Array.getElem?_eq_some_iff.1 h1b).1).trans h1b
    have hw1c := hw1b.trans (hb2.mono (by have := hw1b.size; omega))
    have hS : w2.heap[E]? = some (.cells #[.int .i64 pa, .int .i64 qa, .int .i64 pb, .int .i64 qb, .int .i64 pc, .int .i64 qc] 25) := (hb2.block E (by simp [hE0])).trans (heap_new hE0.symm)
    have h1 := heap_old (o := .cells #[.int .i64 ra, .int .i64 rb, .int .i64 rc, .int .i64 rdd] 29) h1c
    have hw1 := hw1c.alloc (by have := hw1c.size; omega) (.cells #[.int .i64 ra, .int .i64 rb, .int .i64 rc, .int .i64 rdd] 29)
    have hS1 := heap_old (o := .cells #[.int .i64 ra, .int .i64 rb, .int .i64 rc, .int .i64 rdd] 29) hS
    have y0 := cell6_0 hS1
    have y1 := cell6_1 hS1
    have y2 := cell6_2 hS1
    have y3 := cell6_3 hS1
    have y4 := cell6_4 hS1
    have y5 := cell6_5 hS1
    have r0 := cell6_0 h1
    have f0 := free6_0 h1
    have r1 := cell6_1 h1
    have f1 := free6_1 h1
    have r2 := cell6_2 h1
    have f2 := free6_2 h1
    have r3 := cell6_3 h1
    have f3 := free6_3 h1
    have r4 := cell6_4 h1
    have f4 := free6_4 h1
    have r5 := cell6_5 h1
    have f5 := free6_5 h1
    obtain ⟨U, hU⟩ : ∃ U, (((((((w2.alloc (.cells #[.int .i64 ra, .int .i64 rb, .int .i64 rc, .int .i64 rdd] 29)).setCell ⟨D + 1, 0, none⟩ (.int .i64 pa)).setCell ⟨D + 1, 1, none⟩ (.int .i64 qa)).setCell ⟨D + 1, 2, none⟩ (.int .i64 pb)).setCell ⟨D + 1, 3, none⟩ (.int .i64 qb)).setCell ⟨D + 1, 4, none⟩ (.int .i64 pc)).setCell ⟨D + 1, 5, none⟩ (.int .i64 qc)) = U := ⟨_, rfl⟩
    have HW := Lib.hid (show Below D w U by rw [← hU]; exact ((((((hw1.setCell (p := ⟨D + 1, 0, none⟩) (show D ≤ D + 1 by omega) (.int .i64 pa)).setCell (p := ⟨D + 1, 1, none⟩) (show D ≤ D + 1 by omega) (.int .i64 qa)).setCell (p := ⟨D + 1, 2, none⟩) (show D ≤ D + 1 by omega) (.int .i64 pb)).setCell (p := ⟨D + 1, 3, none⟩) (show D ≤ D + 1 by omega) (.int .i64 qb)).setCell (p := ⟨D + 1, 4, none⟩) (show D ≤ D + 1 by omega) (.int .i64 pc)).setCell (p := ⟨D + 1, 5, none⟩) (show D ≤ D + 1 by omega) (.int .i64 qc)))
    have hE : U.heap[D + 1]? = some (.cells #[.int .i64 pa, .int .i64 qa, .int .i64 pb, .int .i64 qb, .int .i64 pc, .int .i64 qc] 25) := by rw [← hU]; exact (set6_5 (x := .int .i64 qc) (set6_4 (x := .int .i64 pc) (set6_3 (x := .int .i64 qb) (set6_2 (x := .int .i64 pb) (set6_1 (x := .int .i64 qa) (set6_0 (x := .int .i64 pa) h1))))))
    have HU := Lib.hid hU
    have z0 := cell6_0 hE
    have z1 := cell6_1 hE
    have z2 := cell6_2 hE
    have z3 := cell6_3 hE
    have z4 := cell6_4 hE
    have z5 := cell6_5 hE
    clear hE hU h1 h1a h1b h1c hw1 hw1a hw1b hw1c hb1 hb2 hs1 hS hS1 hDn
    go_wp2
    rw [HU.out]
    refine bodyPost_ret (v := .tuple #[.agg #[.int .i64 pa, .int .i64 qa, .int .i64 pb, .int .i64 qb, .int .i64 pc, .int .i64 qc], .int .i64 0]) (by simp [results, Tryz.results23, go_sem, z0, z1, z2, z3, z4, z5]) rfl ⟨rfl, by first | exact HW.out | (rw [hD]; exact HW.out)⟩
  
  | false =>
    rw [hk] at hok
    have hne : ¬ re = 0 := fun h => by have := hok.1 h; cases this
    have hne2 : (re == 0) = false := by rw [beq_eq_false_iff_ne]; exact hne
    simp only [Bool.false_eq_true, if_false]
    clear hok hk ha1 ha2 hb1 hb2 hc1 hc2 h3 h4
    go_enter Tryz.func23, Tryz.ntmps23
    go_wp2_with fail
    refine (SZ.out _).mono ?_
    rintro e w1 ⟨rfl, hb1⟩
    have hs1 := hb1.size
    have h1a : w1.heap[D + 1]? = some (.cells #[.int .i64 0, .int .i64 0, .int .i64 0, .int .i64 0, .int .i64 0, .int .i64 0] 25) := (hb1.block (D + 1) (by simp [hD])).trans (heap_new (by simp [hD]))
    have hw1a : Below D w w1 := (((Below.refl _ w).alloc (by omega) _).alloc (by simp; omega) _).trans (hb1.mono (by simp; omega))
    obtain ⟨E, hE0⟩ : ∃ E, w1.heap.size = E := ⟨_, rfl⟩
    go_wp2_with fail
    refine (RD.out _).mono ?_
    rintro e w2 ⟨rfl, hb2⟩
    have hDn := (Array.getElem?_eq_some_iff.1 h1a).1
    have h1b := heap_old (o := .cells #[.int .i64 pa, .int .i64 qa, .int .i64 pb, .int .i64 qb, .int .i64 pc, .int .i64 qc] 25) h1a
    have hw1b := hw1a.alloc (by have := hw1a.size; omega) (.cells #[.int .i64 pa, .int .i64 qa, .int .i64 pb, .int .i64 qb, .int .i64 pc, .int .i64 qc] 25)
    have h1c := (hb2.block (D + 1) (Array.getElem?_eq_some_iff.1 h1b).1).trans h1b
    have hw1c := hw1b.trans (hb2.mono (by have := hw1b.size; omega))
    have hS : w2.heap[E]? = some (.cells #[.int .i64 pa, .int .i64 qa, .int .i64 pb, .int .i64 qb, .int .i64 pc, .int .i64 qc] 25) := (hb2.block E (by simp [hE0])).trans (heap_new hE0.symm)
    have h1 := heap_old (o := .cells #[.int .i64 ra, .int .i64 rb, .int .i64 rc, .int .i64 rdd] 29) h1c
    have hw1 := hw1c.alloc (by have := hw1c.size; omega) (.cells #[.int .i64 ra, .int .i64 rb, .int .i64 rc, .int .i64 rdd] 29)
    have hS1 := heap_old (o := .cells #[.int .i64 ra, .int .i64 rb, .int .i64 rc, .int .i64 rdd] 29) hS
    have y0 := cell6_0 hS1
    have y1 := cell6_1 hS1
    have y2 := cell6_2 hS1
    have y3 := cell6_3 hS1
    have y4 := cell6_4 hS1
    have y5 := cell6_5 hS1
    have r0 := cell6_0 h1
    have f0 := free6_0 h1
    have r1 := cell6_1 h1
    have f1 := free6_1 h1
    have r2 := cell6_2 h1
    have f2 := free6_2 h1
    have r3 := cell6_3 h1
    have f3 := free6_3 h1
    have r4 := cell6_4 h1
    have f4 := free6_4 h1
    have r5 := cell6_5 h1
    have f5 := free6_5 h1
    obtain ⟨U, hU⟩ : ∃ U, (((((((w2.alloc (.cells #[.int .i64 ra, .int .i64 rb, .int .i64 rc, .int .i64 rdd] 29)).setCell ⟨D + 1, 0, none⟩ (.int .i64 0)).setCell ⟨D + 1, 1, none⟩ (.int .i64 0)).setCell ⟨D + 1, 2, none⟩ (.int .i64 0)).setCell ⟨D + 1, 3, none⟩ (.int .i64 0)).setCell ⟨D + 1, 4, none⟩ (.int .i64 0)).setCell ⟨D + 1, 5, none⟩ (.int .i64 0)) = U := ⟨_, rfl⟩
    have HW := Lib.hid (show Below D w U by rw [← hU]; exact ((((((hw1.setCell (p := ⟨D + 1, 0, none⟩) (show D ≤ D + 1 by omega) (.int .i64 0)).setCell (p := ⟨D + 1, 1, none⟩) (show D ≤ D + 1 by omega) (.int .i64 0)).setCell (p := ⟨D + 1, 2, none⟩) (show D ≤ D + 1 by omega) (.int .i64 0)).setCell (p := ⟨D + 1, 3, none⟩) (show D ≤ D + 1 by omega) (.int .i64 0)).setCell (p := ⟨D + 1, 4, none⟩) (show D ≤ D + 1 by omega) (.int .i64 0)).setCell (p := ⟨D + 1, 5, none⟩) (show D ≤ D + 1 by omega) (.int .i64 0)))
    have hE : U.heap[D + 1]? = some (.cells #[.int .i64 0, .int .i64 0, .int .i64 0, .int .i64 0, .int .i64 0, .int .i64 0] 25) := by rw [← hU]; exact (set6_5 (x := .int .i64 0) (set6_4 (x := .int .i64 0) (set6_3 (x := .int .i64 0) (set6_2 (x := .int .i64 0) (set6_1 (x := .int .i64 0) (set6_0 (x := .int .i64 0) h1))))))
    have HU := Lib.hid hU
    have z0 := cell6_0 hE
    have z1 := cell6_1 hE
    have z2 := cell6_2 hE
    have z3 := cell6_3 hE
    have z4 := cell6_4 hE
    have z5 := cell6_5 hE
    clear hE hU h1 h1a h1b h1c hw1 hw1a hw1b hw1c hb1 hb2 hs1 hS hS1 hDn
    go_wp2
    rw [HU.out]
    refine bodyPost_ret (v := .tuple #[.agg #[.int .i64 0, .int .i64 0, .int .i64 0, .int .i64 0, .int .i64 0, .int .i64 0], .int .i64 4]) (by simp [results, Tryz.results23, go_sem, z0, z1, z2, z3, z4, z5]) rfl ⟨rfl, by first | exact HW.out | (rw [hD]; exact HW.out)⟩
end Go.Proofs.YthdoadkdofgenaaGreatDoor
/- Factors that are taken out of a number. -/
namespace Go.Proofs.YthdoadkdofgenaaGreatDoor.Iv

/-- What is left of a number without a factor, and how often the factor was in it. -/
def stripF (p : Nat) : Nat → Nat → Nat × Nat
  | 0, n => (n, 0)
  | f + 1, n => if n % p = 0 then ((stripF p f (n / p)).1, (stripF p f (n / p)).2 + 1) else (n, 0)
def rp (p n : Nat) : Nat := (stripF p n n).1
def vp (p n : Nat) : Nat := (stripF p n n).2
theorem strip_eq {p : Nat} (hp : 2 ≤ p) : ∀ {f n : Nat}, n ≤ f → 0 < n → (stripF p f n).1 * p ^ (stripF p f n).2 = n ∧ (stripF p f n).1 % p ≠ 0
  | 0, n, h, h0 => by omega
  | f + 1, n, h, h0 => by
    unfold stripF
    by_cases hd : n % p = 0
    · rw [if_pos hd]
      have hq : n / p < n := Nat.div_lt_self h0 hp
      have hm : n / p * p = n := Nat.div_mul_cancel (Nat.dvd_of_mod_eq_zero hd)
      have h1 : 0 < n / p := by
        rcases Nat.eq_zero_or_pos (n / p) with e | e
        · rw [e] at hm; omega
        · exact e
      obtain ⟨a, b⟩ := strip_eq hp (f := f) (n := n / p) (by omega) h1
      refine ⟨?_, b⟩
      rw [Nat.pow_succ, ← Nat.mul_assoc, a, hm]
    · rw [if_neg hd]
      exact ⟨by simp, hd⟩
theorem rp_eq {p n : Nat} (hp : 2 ≤ p) (h : 0 < n) : rp p n * p ^ vp p n = n := (strip_eq hp (Nat.le_refl n) h).1
theorem rp_mod {p n : Nat} (hp : 2 ≤ p) (h : 0 < n) : rp p n % p ≠ 0 := (strip_eq hp (Nat.le_refl n) h).2
theorem rp_pos {p n : Nat} (hp : 2 ≤ p) (h : 0 < n) : 0 < rp p n := by
  have := rp_mod hp h
  rcases Nat.eq_zero_or_pos (rp p n) with e | e
  · rw [e] at this; simp at this
  · exact e
theorem strip_one {p : Nat} (hp : 2 ≤ p) : ∀ {i j a b : Nat}, a * p ^ i = b * p ^ j → a % p ≠ 0 → b % p ≠ 0 → a = b ∧ i = j
  | 0, 0, a, b, h, _, _ => by simpa using h
  | 0, j + 1, a, b, h, ha, _ => by
    refine absurd ?_ ha
    rw [Nat.pow_zero, Nat.mul_one] at h
    rw [h, Nat.pow_succ, ← Nat.mul_assoc, Nat.mul_mod_left]
  | i + 1, 0, a, b, h, _, hb => by
    refine absurd ?_ hb
    rw [Nat.pow_zero, Nat.mul_one] at h
    rw [← h, Nat.pow_succ, ← Nat.mul_assoc, Nat.mul_mod_left]
  | i + 1, j + 1, a, b, h, ha, hb => by
    rw [Nat.pow_succ, Nat.pow_succ, ← Nat.mul_assoc, ← Nat.mul_assoc] at h
    obtain ⟨x, y⟩ := strip_one hp (Nat.eq_of_mul_eq_mul_right (by omega) h) ha hb
    exact ⟨x, by omega⟩
theorem strip_is {p n a k : Nat} (hp : 2 ≤ p) (h : a * p ^ k = n) (ha : a % p ≠ 0) : rp p n = a ∧ vp p n = k := by
  have h0 : 0 < n := by
    rcases Nat.eq_zero_or_pos a with e | e
    · rw [e] at ha; simp at ha
    · rw [← h]; exact Nat.mul_pos e (Nat.pow_pos (by omega))
  exact strip_one hp ((rp_eq hp h0).trans h.symm) (rp_mod hp h0) ha
theorem rp_le {p n : Nat} (hp : 2 ≤ p) (h : 0 < n) : rp p n ≤ n := by
  have e := rp_eq hp h
  have := Nat.le_mul_of_pos_right (rp p n) (Nat.pow_pos (n := vp p n) (show 0 < p by omega))
  omega
theorem cnt_lt {p n k r : Nat} (hp : 2 ≤ p) (h : r * p ^ k = n) (hr : 0 < r) : k < n := by
  have h1 : k < p ^ k := Nat.lt_of_lt_of_le (Nat.lt_two_pow_self) (Nat.pow_le_pow_left hp k)
  have := Nat.le_mul_of_pos_left (p ^ k) hr
  omega
theorem vp_lt {p n : Nat} (hp : 2 ≤ p) (h : 0 < n) : vp p n < n := cnt_lt hp (rp_eq hp h) (rp_pos hp h)
/-- One step of the loop. -/
theorem strip_step {p n a k : Nat} (h : a * p ^ k = n) (hd : a % p = 0) : a / p * p ^ (k + 1) = n := by
  rw [Nat.pow_succ, Nat.mul_comm (p ^ k), ← Nat.mul_assoc, Nat.div_mul_cancel (Nat.dvd_of_mod_eq_zero hd), h]
theorem step_pos {p a : Nat} (h : 0 < a) (hp : 0 < p) (hd : a % p = 0) : 0 < a / p := Nat.div_pos (Nat.le_of_dvd h (Nat.dvd_of_mod_eq_zero hd)) hp
def Pr (p : Nat) : Prop := 2 ≤ p ∧ ∀ x y : Nat, x % p ≠ 0 → y % p ≠ 0 → (x * y) % p ≠ 0
theorem pr2 : Pr 2 := ⟨by decide, fun x y hx hy => by
  rw [Nat.mul_mod]
  have h1 : x % 2 = 1 := by omega
  have h2 : y % 2 = 1 := by omega
  rw [h1, h2]
  decide⟩
theorem pr3 : Pr 3 := ⟨by decide, fun x y hx hy => by
  rw [Nat.mul_mod]
  have h1 : x % 3 = 1 ∨ x % 3 = 2 := by omega
  have h2 : y % 3 = 1 ∨ y % 3 = 2 := by omega
  rcases h1 with h1 | h1 <;> rcases h2 with h2 | h2 <;> rw [h1, h2] <;> decide⟩
theorem pr5 : Pr 5 := ⟨by decide, fun x y hx hy => by
  rw [Nat.mul_mod]
  have h1 : x % 5 = 1 ∨ x % 5 = 2 ∨ x % 5 = 3 ∨ x % 5 = 4 := by omega
  have h2 : y % 5 = 1 ∨ y % 5 = 2 ∨ y % 5 = 3 ∨ y % 5 = 4 := by omega
  rcases h1 with h1 | h1 | h1 | h1 <;> rcases h2 with h2 | h2 | h2 | h2 <;> rw [h1, h2] <;> decide⟩
theorem strip_mul {p x y : Nat} (hp : Pr p) (hx : 0 < x) (hy : 0 < y) : rp p (x * y) = rp p x * rp p y ∧ vp p (x * y) = vp p x + vp p y := by
  refine strip_is hp.1 ?_ (hp.2 _ _ (rp_mod hp.1 hx) (rp_mod hp.1 hy))
  have h1 := rp_eq hp.1 hx
  have h2 := rp_eq hp.1 hy
  generalize rp p x = a at *
  generalize vp p x = i at *
  generalize rp p y = b at *
  generalize vp p y = j at *
  rw [← h1, ← h2, Nat.pow_add]
  simp only [Nat.mul_assoc, Nat.mul_left_comm]
/-- The exponents of a quotient, and what is left of a number. -/
def e2 (n d : Nat) : Int := (vp 2 n : Int) - vp 2 d
def e3 (n d : Nat) : Int := (vp 3 (rp 2 n) : Int) - vp 3 (rp 2 d)
def e5 (n d : Nat) : Int := (vp 5 (rp 3 (rp 2 n)) : Int) - vp 5 (rp 3 (rp 2 d))
def rest (n : Nat) : Nat := rp 5 (rp 3 (rp 2 n))
theorem rest_pos {n : Nat} (h : 0 < n) : 0 < rest n := rp_pos (by decide) (rp_pos (by decide) (rp_pos (by decide) h))
theorem rp_dvd {p n : Nat} (hp : 2 ≤ p) (h : 0 < n) : rp p n ∣ n := ⟨p ^ vp p n, (rp_eq hp h).symm⟩
theorem rest_dvd {n : Nat} (h : 0 < n) : rest n ∣ n :=
  Nat.dvd_trans (rp_dvd (by decide) (rp_pos (by decide) (rp_pos (by decide) h))) (Nat.dvd_trans (rp_dvd (by decide) (rp_pos (by decide) h)) (rp_dvd (by decide) h))
theorem ratio_alike {n d n' d' : Nat} (hn : 0 < n) (hd : 0 < d) (hn' : 0 < n') (hd' : 0 < d') (h : n * d' = d * n') :
    e2 n d = e2 n' d' ∧ e3 n d = e3 n' d' ∧ e5 n d = e5 n' d' ∧ rest n * rest d' = rest d * rest n' := by
  have q1 : ∀ {x : Nat}, 0 < x → 0 < rp 2 x := fun h => rp_pos (by decide) h
  have q2 : ∀ {x : Nat}, 0 < x → 0 < rp 3 x := fun h => rp_pos (by decide) h
  have a1 := strip_mul pr2 hn hd'
  have b1 := strip_mul pr2 hd hn'
  rw [h] at a1
  have c1 : rp 2 n * rp 2 d' = rp 2 d * rp 2 n' := a1.1.symm.trans b1.1
  have a2 := strip_mul pr3 (q1 hn) (q1 hd')
  have b2 := strip_mul pr3 (q1 hd) (q1 hn')
  rw [c1] at a2
  have c2 : rp 3 (rp 2 n) * rp 3 (rp 2 d') = rp 3 (rp 2 d) * rp 3 (rp 2 n') := a2.1.symm.trans b2.1
  have a3 := strip_mul pr5 (q2 (q1 hn)) (q2 (q1 hd'))
  have b3 := strip_mul pr5 (q2 (q1 hd)) (q2 (q1 hn'))
  rw [c2] at a3
  have c3 := a3.1.symm.trans b3.1
  have d1 := a1.2.symm.trans b1.2
  have d2 := a2.2.symm.trans b2.2
  have d3 := a3.2.symm.trans b3.2
  refine ⟨?_, ?_, ?_, c3⟩
  · unfold e2; omega
  · unfold e3; omega
  · unfold e5; omega
/-- In lowest terms nothing is left exactly if the same was left before. -/
theorem ratio_low {n d : Nat} (hn : 0 < n) (hd : 0 < d) :
    e2 n d = e2 (n / Nat.gcd n d) (d / Nat.gcd n d) ∧ e3 n d = e3 (n / Nat.gcd n d) (d / Nat.gcd n d) ∧ e5 n d = e5 (n / Nat.gcd n d) (d / Nat.gcd n d) ∧
    (rest n = rest d ↔ rest (n / Nat.gcd n d) = 1 ∧ rest (d / Nat.gcd n d) = 1) := by
  have hg : 0 < Nat.gcd n d := Nat.gcd_pos_of_pos_left _ hn
  have h1 : Nat.gcd n d ∣ n := Nat.gcd_dvd_left n d
  have h2 : Nat.gcd n d ∣ d := Nat.gcd_dvd_right n d
  have hn' : 0 < n / Nat.gcd n d := Nat.div_pos (Nat.le_of_dvd hn h1) hg
  have hd' : 0 < d / Nat.gcd n d := Nat.div_pos (Nat.le_of_dvd hd h2) hg
  have hc : Nat.gcd (n / Nat.gcd n d) (d / Nat.gcd n d) = 1 := by
    rw [Nat.gcd_div h1 h2, Nat.div_self hg]
  have h : n * (d / Nat.gcd n d) = d * (n / Nat.gcd n d) := by
    apply Nat.eq_of_mul_eq_mul_right hg
    rw [Nat.mul_assoc, Nat.div_mul_cancel h2, Nat.mul_assoc, Nat.div_mul_cancel h1, Nat.mul_comm]
  obtain ⟨x, y, z, u⟩ := ratio_alike hn hd hn' hd' h
  refine ⟨x, y, z, ?_, ?_⟩
  · intro e
    rw [e] at u
    have e' := Nat.eq_of_mul_eq_mul_left (rest_pos hd) u
    have k1 := rest_dvd hn'
    have k2 := rest_dvd hd'
    rw [e'] at k2
    have k3 := Nat.dvd_gcd k1 k2
    rw [hc] at k3
    have k4 := Nat.dvd_one.1 k3
    exact ⟨k4, e'.trans k4⟩
  · rintro ⟨e, e'⟩
    rw [e, e'] at u
    simpa using u
end Go.Proofs.YthdoadkdofgenaaGreatDoor.Iv
/- Contract of Ratio: the exponents of a quotient of two ints. -/
namespace Go.Proofs.YthdoadkdofgenaaGreatDoor
open Go Go.RowKit Go.Shelf

theorem cell3_0 {W : World} {b : Nat} {c0 c1 c2 : Value} {T : TypeId} (h : W.heap[b]? = some (.cells #[c0, c1, c2] T)) : W.cell? ⟨b, 0, none⟩ = some c0 := by simp [World.cell?, h]
theorem free3_0 {W : World} {b : Nat} {c0 c1 c2 : Value} {T : TypeId} (h : W.heap[b]? = some (.cells #[c0, c1, c2] T)) : W.frozen? ⟨b, 0, none⟩ = false := by simp [World.frozen?, h]
theorem set3_0 {W : World} {b : Nat} {c0 c1 c2 x : Value} {T : TypeId} (h : W.heap[b]? = some (.cells #[c0, c1, c2] T)) : (W.setCell ⟨b, 0, none⟩ x).heap[b]? = some (.cells #[x, c1, c2] T) := by
  simp only [World.setCell, Array.getElem?_modify, if_true, h, Option.map_some]
  rfl
theorem cell3_1 {W : World} {b : Nat} {c0 c1 c2 : Value} {T : TypeId} (h : W.heap[b]? = some (.cells #[c0, c1, c2] T)) : W.cell? ⟨b, 1, none⟩ = some c1 := by simp [World.cell?, h]
theorem free3_1 {W : World} {b : Nat} {c0 c1 c2 : Value} {T : TypeId} (h : W.heap[b]? = some (.cells #[c0, c1, c2] T)) : W.frozen? ⟨b, 1, none⟩ = false := by simp [World.frozen?, h]
theorem set3_1 {W : World} {b : Nat} {c0 c1 c2 x : Value} {T : TypeId} (h : W.heap[b]? = some (.cells #[c0, c1, c2] T)) : (W.setCell ⟨b, 1, none⟩ x).heap[b]? = some (.cells #[c0, x, c2] T) := by
  simp only [World.setCell, Array.getElem?_modify, if_true, h, Option.map_some]
  rfl
theorem cell3_2 {W : World} {b : Nat} {c0 c1 c2 : Value} {T : TypeId} (h : W.heap[b]? = some (.cells #[c0, c1, c2] T)) : W.cell? ⟨b, 2, none⟩ = some c2 := by simp [World.cell?, h]
theorem free3_2 {W : World} {b : Nat} {c0 c1 c2 : Value} {T : TypeId} (h : W.heap[b]? = some (.cells #[c0, c1, c2] T)) : W.frozen? ⟨b, 2, none⟩ = false := by simp [World.frozen?, h]
theorem set3_2 {W : World} {b : Nat} {c0 c1 c2 x : Value} {T : TypeId} (h : W.heap[b]? = some (.cells #[c0, c1, c2] T)) : (W.setCell ⟨b, 2, none⟩ x).heap[b]? = some (.cells #[c0, c1, x] T) := by
  simp only [World.setCell, Array.getElem?_modify, if_true, h, Option.map_some]
  rfl

theorem tmod_nat (x p : Nat) : (x : Int).tmod (p : Int) = ((x % p : Nat) : Int) := (Int.ofNat_tmod x p).symm
theorem tdiv_nat' (x p : Nat) : (x : Int).tdiv (p : Int) = ((x / p : Nat) : Int) := (Int.ofNat_tdiv x p).symm

set_option maxHeartbeats 2000000 in
theorem ivratio_err (a b : Int) (w : World) (h : a < 1 ∨ b < 1) :
    Calls Tryz.prog 27 #[.int .i64 a, .int .i64 b] w fun e w' => e = .returned (.tuple #[.agg #[.int .i64 0, .int .i64 0, .int .i64 0, .int .i64 0, .int .i64 0, .int .i64 0], .int .i64 3]) ∧ Below w.heap.size w w' := by
  obtain ⟨D, hD⟩ : ∃ D, w.heap.size = D := ⟨_, rfl⟩
  have h1 : (w.alloc (.cells #[.int .i64 0, .int .i64 0, .int .i64 0, .int .i64 0, .int .i64 0, .int .i64 0] 25)).heap[D]? = some (.cells #[.int .i64 0, .int .i64 0, .int .i64 0, .int .i64 0, .int .i64 0, .int .i64 0] 25) := heap_new hD.symm
  have hw1 : Below D w (w.alloc (.cells #[.int .i64 0, .int .i64 0, .int .i64 0, .int .i64 0, .int .i64 0, .int .i64 0] 25)) := (Below.refl _ w).alloc (by omega) _
  by_cases ha : a < 1
  · go_enter Tryz.func27, Tryz.ntmps27
    have z0 := cell6_0 h1
    have z1 := cell6_1 h1
    have z2 := cell6_2 h1
    have z3 := cell6_3 h1
    have z4 := cell6_4 h1
    have z5 := cell6_5 h1
    go_wp2
    refine bodyPost_ret (v := .tuple #[.agg #[.int .i64 0, .int .i64 0, .int .i64 0, .int .i64 0, .int .i64 0, .int .i64 0], .int .i64 3]) (by simp [results, Tryz.results27, go_sem, z0, z1, z2, z3, z4, z5]) rfl ⟨rfl, by first | exact hw1 | (rw [hD]; exact hw1)⟩
  · have hb : b < 1 := by omega
    go_enter Tryz.func27, Tryz.ntmps27
    have z0 := cell6_0 h1
    have z1 := cell6_1 h1
    have z2 := cell6_2 h1
    have z3 := cell6_3 h1
    have z4 := cell6_4 h1
    have z5 := cell6_5 h1
    go_wp2
    refine bodyPost_ret (v := .tuple #[.agg #[.int .i64 0, .int .i64 0, .int .i64 0, .int .i64 0, .int .i64 0, .int .i64 0], .int .i64 3]) (by simp [results, Tryz.results27, go_sem, z0, z1, z2, z3, z4, z5]) rfl ⟨rfl, by first | exact hw1 | (rw [hD]; exact hw1)⟩
/-- What Ratio does with two numbers that are greater than 0. -/
def raN (x : Int) (a b : Nat) : Int := if Iv.rest a = Iv.rest b then szN x (Iv.e2 a b) (Iv.e3 a b) (Iv.e5 a b) 1 else 0
def raD (x : Int) (a b : Nat) : Int := if Iv.rest a = Iv.rest b then szD x (Iv.e2 a b) (Iv.e3 a b) (Iv.e5 a b) 1 else 0
def raE (a b : Nat) : Int := if Iv.rest a = Iv.rest b then szE (Iv.e2 a b) (Iv.e3 a b) (Iv.e5 a b) 1 else 7
set_option maxRecDepth 10000 in
set_option maxHeartbeats 8000000 in
theorem ivratio_any (a b : Nat) (w : World) (ha : 0 < a) (hb : 0 < b) (ha2 : a ≤ 9223372036854775807) (hb2 : b ≤ 9223372036854775807) :
    Calls Tryz.prog 27 #[.int .i64 (a : Int), .int .i64 (b : Int)] w fun e w' => e = .returned (.tuple #[.agg #[.int .i64 (raN (Iv.e2 a b) a b), .int .i64 (raD (Iv.e2 a b) a b), .int .i64 (raN (Iv.e3 a b) a b), .int .i64 (raD (Iv.e3 a b) a b), .int .i64 (raN (Iv.e5 a b) a b), .int .i64 (raD (Iv.e5 a b) a b)], .int .i64 (raE a b)]) ∧ Below w.heap.size w w' := by
  obtain ⟨a1, ea1⟩ : ∃ x, Iv.rp 2 a = x := ⟨_, rfl⟩
  obtain ⟨b1, eb1⟩ : ∃ x, Iv.rp 2 b = x := ⟨_, rfl⟩
  have ha1 : 0 < a1 := ea1 ▸ Iv.rp_pos (by decide) ha
  have hb1 : 0 < b1 := eb1 ▸ Iv.rp_pos (by decide) hb
  have la1 : a1 ≤ 9223372036854775807 := Nat.le_trans (ea1 ▸ Iv.rp_le (by decide) ha) ha2
  have lb1 : b1 ≤ 9223372036854775807 := Nat.le_trans (eb1 ▸ Iv.rp_le (by decide) hb) hb2
  obtain ⟨a2, ea2⟩ : ∃ x, Iv.rp 3 a1 = x := ⟨_, rfl⟩
  obtain ⟨b2, eb2⟩ : ∃ x, Iv.rp 3 b1 = x := ⟨_, rfl⟩
  have ha2' : 0 < a2 := ea2 ▸ Iv.rp_pos (by decide) ha1
  have hb2' : 0 < b2 := eb2 ▸ Iv.rp_pos (by decide) hb1
  have la2 : a2 ≤ 9223372036854775807 := Nat.le_trans (ea2 ▸ Iv.rp_le (by decide) ha1) la1
  have lb2 : b2 ≤ 9223372036854775807 := Nat.le_trans (eb2 ▸ Iv.rp_le (by decide) hb1) lb1
  obtain ⟨a3, ea3⟩ : ∃ x, Iv.rp 5 a2 = x := ⟨_, rfl⟩
  obtain ⟨b3, eb3⟩ : ∃ x, Iv.rp 5 b2 = x := ⟨_, rfl⟩
  have ha3 : 0 < a3 := ea3 ▸ Iv.rp_pos (by decide) ha2'
  have hb3 : 0 < b3 := eb3 ▸ Iv.rp_pos (by decide) hb2'
  have hx2 : Iv.e2 a b = (Iv.vp 2 a : Int) - (Iv.vp 2 b : Int) := rfl
  have hx3 : Iv.e3 a b = (Iv.vp 3 a1 : Int) - (Iv.vp 3 b1 : Int) := by rw [← ea1, ← eb1]; rfl
  have hx5 : Iv.e5 a b = (Iv.vp 5 a2 : Int) - (Iv.vp 5 b2 : Int) := by rw [← ea2, ← eb2, ← ea1, ← eb1]; rfl
  have hra : Iv.rest a = a3 := by rw [← ea3, ← ea2, ← ea1]; rfl
  have hrb : Iv.rest b = b3 := by rw [← eb3, ← eb2, ← eb1]; rfl
  unfold raN raD raE
  rw [hra, hrb]
  clear hra hrb
  generalize Iv.e2 a b = x2 at *
  generalize Iv.e3 a b = x3 at *
  generalize Iv.e5 a b = x5 at *
  obtain ⟨p0, ep0⟩ : ∃ p, (if a3 = b3 then szN x2 x2 x3 x5 1 else 0) = p := ⟨_, rfl⟩
  rw [ep0]
  have EP0 := Lib.hid ep0
  clear ep0
  obtain ⟨p1, ep1⟩ : ∃ p, (if a3 = b3 then szD x2 x2 x3 x5 1 else 0) = p := ⟨_, rfl⟩
  rw [ep1]
  have EP1 := Lib.hid ep1
  clear ep1
  obtain ⟨p2, ep2⟩ : ∃ p, (if a3 = b3 then szN x3 x2 x3 x5 1 else 0) = p := ⟨_, rfl⟩
  rw [ep2]
  have EP2 := Lib.hid ep2
  clear ep2
  obtain ⟨p3, ep3⟩ : ∃ p, (if a3 = b3 then szD x3 x2 x3 x5 1 else 0) = p := ⟨_, rfl⟩
  rw [ep3]
  have EP3 := Lib.hid ep3
  clear ep3
  obtain ⟨p4, ep4⟩ : ∃ p, (if a3 = b3 then szN x5 x2 x3 x5 1 else 0) = p := ⟨_, rfl⟩
  rw [ep4]
  have EP4 := Lib.hid ep4
  clear ep4
  obtain ⟨p5, ep5⟩ : ∃ p, (if a3 = b3 then szD x5 x2 x3 x5 1 else 0) = p := ⟨_, rfl⟩
  rw [ep5]
  have EP5 := Lib.hid ep5
  clear ep5
  obtain ⟨p6, ep6⟩ : ∃ p, (if a3 = b3 then szE x2 x3 x5 1 else 7) = p := ⟨_, rfl⟩
  rw [ep6]
  have EP6 := Lib.hid ep6
  clear ep6
  have vl0 := Iv.vp_lt (p := 2) (by decide) ha
  have wl0 := Iv.vp_lt (p := 2) (by decide) hb
  have vl1 := Iv.vp_lt (p := 3) (by decide) ha1
  have wl1 := Iv.vp_lt (p := 3) (by decide) hb1
  have vl2 := Iv.vp_lt (p := 5) (by decide) ha2'
  have wl2 := Iv.vp_lt (p := 5) (by decide) hb2'
  have WH := Lib.hid (fun W => ivwhole_any x2 x3 x5 W (by omega) (by omega) (by omega) (by omega) (by omega) (by omega))
  have A0 := Lib.hid (And.intro ha ha2)
  have A1 := Lib.hid (And.intro ha1 la1)
  have A2 := Lib.hid (And.intro ha2' la2)
  have B0 := Lib.hid (And.intro hb hb2)
  have B1 := Lib.hid (And.intro hb1 lb1)
  have B2 := Lib.hid (And.intro hb2' lb2)
  have V0 := Lib.hid (And.intro ea1 (And.intro eb1 hx2))
  have V1 := Lib.hid (And.intro ea2 (And.intro eb2 hx3))
  have V2 := Lib.hid (And.intro ea3 (And.intro eb3 hx5))
  have n1 : ¬ ((a : Int) < 1) := by omega
  have n2 : ¬ ((b : Int) < 1) := by omega
  clear ea1 eb1 ea2 eb2 ea3 eb3 hx2 hx3 hx5 vl0 wl0 vl1 wl1 vl2 wl2 la1 lb1 la2 lb2 ha1 hb1 ha2' hb2' ha3 hb3 ha hb ha2 hb2
  obtain ⟨D, hD⟩ : ∃ D, w.heap.size = D := ⟨_, rfl⟩
  go_enter Tryz.func27, Tryz.ntmps27
  go_wp2_with fail
  obtain ⟨V, hV⟩ : ∃ V, ((w.alloc (.cells #[.int .i64 0, .int .i64 0, .int .i64 0, .int .i64 0, .int .i64 0, .int .i64 0] 25)).alloc (.cells #[.int .i64 0, .int .i64 0, .int .i64 0] 27)) = V := ⟨_, rfl⟩
  have hwV : Below D w V := by rw [← hV]; exact ((Below.refl _ w).alloc (by omega) _).alloc (by simp; omega) _
  have h0V : V.heap[D]? = some (.cells #[.int .i64 0, .int .i64 0, .int .i64 0, .int .i64 0, .int .i64 0, .int .i64 0] 25) := by rw [← hV]; exact heap_old (heap_new hD.symm)
  have h1V : V.heap[D + 1]? = some (.cells #[.int .i64 0, .int .i64 0, .int .i64 0] 27) := by rw [← hV]; exact heap_new (by simp [hD])
  try rw [hV]
  clear hV n1 n2
  go_loopw [0, 1, 17] (fun n d i wr => ((i = .int .i64 0 ∧ n = .int .i64 (a : Nat) ∧ d = .int .i64 (b : Nat) ∧ wr.heap[D + 1]? = some (.cells #[.int .i64 0, .int .i64 0, .int .i64 0] 27)) ∨ (i = .int .i64 1 ∧ n = .int .i64 (a1 : Nat) ∧ d = .int .i64 (b1 : Nat) ∧ wr.heap[D + 1]? = some (.cells #[.int .i64 x2, .int .i64 0, .int .i64 0] 27)) ∨ (i = .int .i64 2 ∧ n = .int .i64 (a2 : Nat) ∧ d = .int .i64 (b2 : Nat) ∧ wr.heap[D + 1]? = some (.cells #[.int .i64 x2, .int .i64 x3, .int .i64 0] 27)) ∨ (i = .int .i64 3 ∧ n = .int .i64 (a3 : Nat) ∧ d = .int .i64 (b3 : Nat) ∧ wr.heap[D + 1]? = some (.cells #[.int .i64 x2, .int .i64 x3, .int .i64 x5] 27))) ∧ Below D w wr ∧ wr.heap[D]? = some (.cells #[.int .i64 0, .int .i64 0, .int .i64 0, .int .i64 0, .int .i64 0, .int .i64 0] 25)) (fun _ _ i _ => 3 - (intOf i).toNat)
  case atStart => exact ⟨.inl ⟨rfl, rfl, rfl, h1V⟩, hwV, h0V⟩
  case round =>
    obtain ⟨hk, hw, h0⟩ := hrel
    clear hwV h0V h1V
    obtain ⟨wo, hwo⟩ : ∃ wo, wo = wr := ⟨_, rfl⟩
    subst hwo
    rcases hk with ⟨rfl, rfl, rfl, h1⟩ | ⟨rfl, rfl, rfl, h1⟩ | ⟨rfl, rfl, rfl, h1⟩ | ⟨rfl, rfl, rfl, h1⟩
    · obtain ⟨pa, la⟩ := A0.out
      obtain ⟨pb, lb⟩ := B0.out
      have HW0 := Lib.hid hw
      have HZ0 := Lib.hid h0
      have HE0 := Lib.hid h1
      clear hw h0 h1
      have IX := ix_int0 2 3 5
      go_wp2_with fail
      go_loopw [0] (fun n wk => ∃ x k : Nat, 0 < x ∧ x * 2 ^ k = a ∧ n = .int .i64 (x : Int) ∧ Below D w wk ∧ wk.heap[D]? = some (.cells #[.int .i64 0, .int .i64 0, .int .i64 0, .int .i64 0, .int .i64 0, .int .i64 0] 25) ∧ wk.heap[D + 1]? = some (.cells #[.int .i64 (k : Int), .int .i64 0, .int .i64 0] 27)) (fun n _ => (intOf n).toNat)
      case atStart => exact ⟨a, 0, pa, by simp, rfl, HW0.out, HZ0.out, HE0.out⟩
      case round =>
        obtain ⟨x, k, hx, hxk, rfl, hw, h0, h1⟩ := hrel
        have hk := Iv.cnt_lt (p := 2) (by decide) hxk hx
        have hxa : x ≤ a := by rw [← hxk]; exact Nat.le_mul_of_pos_right _ (Nat.pow_pos (by decide))
        have m1 := tmod_nat x 2
        have q1 := tdiv_nat' x 2
        have hq := Nat.div_lt_self hx (show 1 < 2 by decide)
        have HW := Lib.hid hw
        have HZ := Lib.hid h0
        have HE := Lib.hid h1
        have hDn := (Array.getElem?_eq_some_iff.1 h1).1
        by_cases hd : x % 2 = 0
        · have hs := Iv.strip_step hxk hd
          have hp := Iv.step_pos hx (show 0 < 2 by decide) hd
          rw [hd] at m1
          obtain ⟨q, eq⟩ : ∃ q, x / 2 = q := ⟨_, rfl⟩
          rw [eq] at hs hp q1 hq
          have r0 := cell3_0 h1
          have f0 := free3_0 h1
          have HS := Lib.hid hs
          have m1 : (x : Int).tmod 2 = 0 := m1
          have q1 : (x : Int).tdiv 2 = (q : Int) := q1
          clear hs eq hd hxk h0 h1 hw
          go_wp2
          refine ⟨⟨q, k + 1, hp, HS.out, rfl, HW.out.setCell (p := ⟨D + 1, 0, none⟩) (show D ≤ D + 1 by omega) _, (set_other (by omega)).trans HZ.out, ?_⟩, ?_⟩
          · push_cast; exact set3_0 HE.out
          · simp [intOf]; omega
        · obtain ⟨e1, e2⟩ := Iv.strip_is (p := 2) (by decide) hxk hd
          rw [V0.out.1] at e1
          have hd' : ¬ (((x % 2 : Nat) : Int) = 0) := by omega
          obtain ⟨y0, hy0⟩ : ∃ y0, x % 2 = y0 := ⟨_, rfl⟩
          have m1 : (x : Int).tmod 2 = ((x % 2 : Nat) : Int) := m1
          rw [hy0] at m1 hd'
          subst e1
          have E2 := Lib.hid e2
          clear e2 hy0 hd hxk h0 h1 hw q1 hq
          go_wp2_with fail
          go_loopw [1] (fun n wk => ∃ x k : Nat, 0 < x ∧ x * 2 ^ k = b ∧ n = .int .i64 (x : Int) ∧ Below D w wk ∧ wk.heap[D]? = some (.cells #[.int .i64 0, .int .i64 0, .int .i64 0, .int .i64 0, .int .i64 0, .int .i64 0] 25) ∧ wk.heap[D + 1]? = some (.cells #[.int .i64 ((Iv.vp 2 a : Int) - (k : Int)), .int .i64 0, .int .i64 0] 27)) (fun n _ => (intOf n).toNat)
          case atStart => exact ⟨b, 0, pb, by simp, rfl, HW.out, HZ.out, by rw [E2.out]; simpa using HE.out⟩
          case round =>
            obtain ⟨x, k2, hx, hxk, rfl, hw, h0, h1⟩ := hrel
            have hk2 := Iv.cnt_lt (p := 2) (by decide) hxk hx
            have hxa2 : x ≤ b := by rw [← hxk]; exact Nat.le_mul_of_pos_right _ (Nat.pow_pos (by decide))
            have m1 := tmod_nat x 2
            have q1 := tdiv_nat' x 2
            have hq := Nat.div_lt_self hx (show 1 < 2 by decide)
            have HW := Lib.hid hw
            have HZ := Lib.hid h0
            have HE := Lib.hid h1
            have hDn := (Array.getElem?_eq_some_iff.1 h1).1
            rw [E2.out] at h1
            by_cases hd : x % 2 = 0
            · have hs := Iv.strip_step hxk hd
              have hp := Iv.step_pos hx (show 0 < 2 by decide) hd
              rw [hd] at m1
              obtain ⟨q, eq⟩ : ∃ q, x / 2 = q := ⟨_, rfl⟩
              rw [eq] at hs hp q1 hq
              have r0 := cell3_0 h1
              have f0 := free3_0 h1
              have HS := Lib.hid hs
              have m1 : (x : Int).tmod 2 = 0 := m1
              have q1 : (x : Int).tdiv 2 = (q : Int) := q1
              clear hs eq hd hxk h0 h1 hw
              go_wp2
              refine ⟨⟨q, k2 + 1, hp, HS.out, rfl, HW.out.setCell (p := ⟨D + 1, 0, none⟩) (show D ≤ D + 1 by omega) _, (set_other (by omega)).trans HZ.out, ?_⟩, ?_⟩
              · rw [show ((Iv.vp 2 a : Int) - ((k2 + 1 : Nat) : Int)) = (k : Int) - (k2 : Int) - 1 by rw [E2.out]; push_cast; omega]
                exact set3_0 HE.out
              · simp [intOf]; omega
            · obtain ⟨e1, e3⟩ := Iv.strip_is (p := 2) (by decide) hxk hd
              rw [V0.out.2.1] at e1
              have hd' : ¬ (((x % 2 : Nat) : Int) = 0) := by omega
              obtain ⟨y0, hy0⟩ : ∃ y0, x % 2 = y0 := ⟨_, rfl⟩
              have m1 : (x : Int).tmod 2 = ((x % 2 : Nat) : Int) := m1
              rw [hy0] at m1 hd'
              subst e1
              have EX : x2 = (Iv.vp 2 a : Int) - (k2 : Int) := by rw [V0.out.2.2, e3]
              have EXH := Lib.hid EX
              clear e3 EX hy0 hd hxk h0 h1 hw q1 hq
              go_wp2_with fail
              go_roundw
              case rel => exact ⟨.inr (.inl ⟨rfl, rfl, rfl, by rw [EXH.out]; exact HE.out⟩), HW.out, HZ.out⟩
              case measure => simp [intOf]
    · obtain ⟨pa, la⟩ := A1.out
      obtain ⟨pb, lb⟩ := B1.out
      have HW0 := Lib.hid hw
      have HZ0 := Lib.hid h0
      have HE0 := Lib.hid h1
      clear hw h0 h1
      have IX := ix_int1 2 3 5
      go_wp2_with fail
      go_loopw [0] (fun n wk => ∃ x k : Nat, 0 < x ∧ x * 3 ^ k = a1 ∧ n = .int .i64 (x : Int) ∧ Below D w wk ∧ wk.heap[D]? = some (.cells #[.int .i64 0, .int .i64 0, .int .i64 0, .int .i64 0, .int .i64 0, .int .i64 0] 25) ∧ wk.heap[D + 1]? = some (.cells #[.int .i64 x2, .int .i64 (k : Int), .int .i64 0] 27)) (fun n _ => (intOf n).toNat)
      case atStart => exact ⟨a1, 0, pa, by simp, rfl, HW0.out, HZ0.out, HE0.out⟩
      case round =>
        obtain ⟨x, k, hx, hxk, rfl, hw, h0, h1⟩ := hrel
        have hk := Iv.cnt_lt (p := 3) (by decide) hxk hx
        have hxa : x ≤ a1 := by rw [← hxk]; exact Nat.le_mul_of_pos_right _ (Nat.pow_pos (by decide))
        have m1 := tmod_nat x 3
        have q1 := tdiv_nat' x 3
        have hq := Nat.div_lt_self hx (show 1 < 3 by decide)
        have HW := Lib.hid hw
        have HZ := Lib.hid h0
        have HE := Lib.hid h1
        have hDn := (Array.getElem?_eq_some_iff.1 h1).1
        by_cases hd : x % 3 = 0
        · have hs := Iv.strip_step hxk hd
          have hp := Iv.step_pos hx (show 0 < 3 by decide) hd
          rw [hd] at m1
          obtain ⟨q, eq⟩ : ∃ q, x / 3 = q := ⟨_, rfl⟩
          rw [eq] at hs hp q1 hq
          have r0 := cell3_1 h1
          have f0 := free3_1 h1
          have HS := Lib.hid hs
          have m1 : (x : Int).tmod 3 = 0 := m1
          have q1 : (x : Int).tdiv 3 = (q : Int) := q1
          clear hs eq hd hxk h0 h1 hw
          go_wp2
          refine ⟨⟨q, k + 1, hp, HS.out, rfl, HW.out.setCell (p := ⟨D + 1, 1, none⟩) (show D ≤ D + 1 by omega) _, (set_other (by omega)).trans HZ.out, ?_⟩, ?_⟩
          · push_cast; exact set3_1 HE.out
          · simp [intOf]; omega
        · obtain ⟨e1, e2⟩ := Iv.strip_is (p := 3) (by decide) hxk hd
          rw [V1.out.1] at e1
          have hd' : ¬ (((x % 3 : Nat) : Int) = 0) := by omega
          obtain ⟨y0, hy0⟩ : ∃ y0, x % 3 = y0 := ⟨_, rfl⟩
          have m1 : (x : Int).tmod 3 = ((x % 3 : Nat) : Int) := m1
          rw [hy0] at m1 hd'
          subst e1
          have E2 := Lib.hid e2
          clear e2 hy0 hd hxk h0 h1 hw q1 hq
          go_wp2_with fail
          go_loopw [1] (fun n wk => ∃ x k : Nat, 0 < x ∧ x * 3 ^ k = b1 ∧ n = .int .i64 (x : Int) ∧ Below D w wk ∧ wk.heap[D]? = some (.cells #[.int .i64 0, .int .i64 0, .int .i64 0, .int .i64 0, .int .i64 0, .int .i64 0] 25) ∧ wk.heap[D + 1]? = some (.cells #[.int .i64 x2, .int .i64 ((Iv.vp 3 a1 : Int) - (k : Int)), .int .i64 0] 27)) (fun n _ => (intOf n).toNat)
          case atStart => exact ⟨b1, 0, pb, by simp, rfl, HW.out, HZ.out, by rw [E2.out]; simpa using HE.out⟩
          case round =>
            obtain ⟨x, k2, hx, hxk, rfl, hw, h0, h1⟩ := hrel
            have hk2 := Iv.cnt_lt (p := 3) (by decide) hxk hx
            have hxa2 : x ≤ b1 := by rw [← hxk]; exact Nat.le_mul_of_pos_right _ (Nat.pow_pos (by decide))
            have m1 := tmod_nat x 3
            have q1 := tdiv_nat' x 3
            have hq := Nat.div_lt_self hx (show 1 < 3 by decide)
            have HW := Lib.hid hw
            have HZ := Lib.hid h0
            have HE := Lib.hid h1
            have hDn := (Array.getElem?_eq_some_iff.1 h1).1
            rw [E2.out] at h1
            by_cases hd : x % 3 = 0
            · have hs := Iv.strip_step hxk hd
              have hp := Iv.step_pos hx (show 0 < 3 by decide) hd
              rw [hd] at m1
              obtain ⟨q, eq⟩ : ∃ q, x / 3 = q := ⟨_, rfl⟩
              rw [eq] at hs hp q1 hq
              have r0 := cell3_1 h1
              have f0 := free3_1 h1
              have HS := Lib.hid hs
              have m1 : (x : Int).tmod 3 = 0 := m1
              have q1 : (x : Int).tdiv 3 = (q : Int) := q1
              clear hs eq hd hxk h0 h1 hw
              go_wp2
              refine ⟨⟨q, k2 + 1, hp, HS.out, rfl, HW.out.setCell (p := ⟨D + 1, 1, none⟩) (show D ≤ D + 1 by omega) _, (set_other (by omega)).trans HZ.out, ?_⟩, ?_⟩
              · rw [show ((Iv.vp 3 a1 : Int) - ((k2 + 1 : Nat) : Int)) = (k : Int) - (k2 : Int) - 1 by rw [E2.out]; push_cast; omega]
                exact set3_1 HE.out
              · simp [intOf]; omega
            · obtain ⟨e1, e3⟩ := Iv.strip_is (p := 3) (by decide) hxk hd
              rw [V1.out.2.1] at e1
              have hd' : ¬ (((x % 3 : Nat) : Int) = 0) := by omega
              obtain ⟨y0, hy0⟩ : ∃ y0, x % 3 = y0 := ⟨_, rfl⟩
              have m1 : (x : Int).tmod 3 = ((x % 3 : Nat) : Int) := m1
              rw [hy0] at m1 hd'
              subst e1
              have EX : x3 = (Iv.vp 3 a1 : Int) - (k2 : Int) := by rw [V1.out.2.2, e3]
              have EXH := Lib.hid EX
              clear e3 EX hy0 hd hxk h0 h1 hw q1 hq
              go_wp2_with fail
              go_roundw
              case rel => exact ⟨.inr (.inr (.inl ⟨rfl, rfl, rfl, by rw [EXH.out]; exact HE.out⟩)), HW.out, HZ.out⟩
              case measure => simp [intOf]
    · obtain ⟨pa, la⟩ := A2.out
      obtain ⟨pb, lb⟩ := B2.out
      have HW0 := Lib.hid hw
      have HZ0 := Lib.hid h0
      have HE0 := Lib.hid h1
      clear hw h0 h1
      have IX := ix_int2 2 3 5
      go_wp2_with fail
      go_loopw [0] (fun n wk => ∃ x k : Nat, 0 < x ∧ x * 5 ^ k = a2 ∧ n = .int .i64 (x : Int) ∧ Below D w wk ∧ wk.heap[D]? = some (.cells #[.int .i64 0, .int .i64 0, .int .i64 0, .int .i64 0, .int .i64 0, .int .i64 0] 25) ∧ wk.heap[D + 1]? = some (.cells #[.int .i64 x2, .int .i64 x3, .int .i64 (k : Int)] 27)) (fun n _ => (intOf n).toNat)
      case atStart => exact ⟨a2, 0, pa, by simp, rfl, HW0.out, HZ0.out, HE0.out⟩
      case round =>
        obtain ⟨x, k, hx, hxk, rfl, hw, h0, h1⟩ := hrel
        have hk := Iv.cnt_lt (p := 5) (by decide) hxk hx
        have hxa : x ≤ a2 := by rw [← hxk]; exact Nat.le_mul_of_pos_right _ (Nat.pow_pos (by decide))
        have m1 := tmod_nat x 5
        have q1 := tdiv_nat' x 5
        have hq := Nat.div_lt_self hx (show 1 < 5 by decide)
        have HW := Lib.hid hw
        have HZ := Lib.hid h0
        have HE := Lib.hid h1
        have hDn := (Array.getElem?_eq_some_iff.1 h1).1
        by_cases hd : x % 5 = 0
        · have hs := Iv.strip_step hxk hd
          have hp := Iv.step_pos hx (show 0 < 5 by decide) hd
          rw [hd] at m1
          obtain ⟨q, eq⟩ : ∃ q, x / 5 = q := ⟨_, rfl⟩
          rw [eq] at hs hp q1 hq
          have r0 := cell3_2 h1
          have f0 := free3_2 h1
          have HS := Lib.hid hs
          have m1 : (x : Int).tmod 5 = 0 := m1
          have q1 : (x : Int).tdiv 5 = (q : Int) := q1
          clear hs eq hd hxk h0 h1 hw
          go_wp2
          refine ⟨⟨q, k + 1, hp, HS.out, rfl, HW.out.setCell (p := ⟨D + 1, 2, none⟩) (show D ≤ D + 1 by omega) _, (set_other (by omega)).trans HZ.out, ?_⟩, ?_⟩
          · push_cast; exact set3_2 HE.out
          · simp [intOf]; omega
        · obtain ⟨e1, e2⟩ := Iv.strip_is (p := 5) (by decide) hxk hd
          rw [V2.out.1] at e1
          have hd' : ¬ (((x % 5 : Nat) : Int) = 0) := by omega
          obtain ⟨y0, hy0⟩ : ∃ y0, x % 5 = y0 := ⟨_, rfl⟩
          have m1 : (x : Int).tmod 5 = ((x % 5 : Nat) : Int) := m1
          rw [hy0] at m1 hd'
          subst e1
          have E2 := Lib.hid e2
          clear e2 hy0 hd hxk h0 h1 hw q1 hq
          go_wp2_with fail
          go_loopw [1] (fun n wk => ∃ x k : Nat, 0 < x ∧ x * 5 ^ k = b2 ∧ n = .int .i64 (x : Int) ∧ Below D w wk ∧ wk.heap[D]? = some (.cells #[.int .i64 0, .int .i64 0, .int .i64 0, .int .i64 0, .int .i64 0, .int .i64 0] 25) ∧ wk.heap[D + 1]? = some (.cells #[.int .i64 x2, .int .i64 x3, .int .i64 ((Iv.vp 5 a2 : Int) - (k : Int))] 27)) (fun n _ => (intOf n).toNat)
          case atStart => exact ⟨b2, 0, pb, by simp, rfl, HW.out, HZ.out, by rw [E2.out]; simpa using HE.out⟩
          case round =>
            obtain ⟨x, k2, hx, hxk, rfl, hw, h0, h1⟩ := hrel
            have hk2 := Iv.cnt_lt (p := 5) (by decide) hxk hx
            have hxa2 : x ≤ b2 := by rw [← hxk]; exact Nat.le_mul_of_pos_right _ (Nat.pow_pos (by decide))
            have m1 := tmod_nat x 5
            have q1 := tdiv_nat' x 5
            have hq := Nat.div_lt_self hx (show 1 < 5 by decide)
            have HW := Lib.hid hw
            have HZ := Lib.hid h0
            have HE := Lib.hid h1
            have hDn := (Array.getElem?_eq_some_iff.1 h1).1
            rw [E2.out] at h1
            by_cases hd : x % 5 = 0
            · have hs := Iv.strip_step hxk hd
              have hp := Iv.step_pos hx (show 0 < 5 by decide) hd
              rw [hd] at m1
              obtain ⟨q, eq⟩ : ∃ q, x / 5 = q := ⟨_, rfl⟩
              rw [eq] at hs hp q1 hq
              have r0 := cell3_2 h1
              have f0 := free3_2 h1
              have HS := Lib.hid hs
              have m1 : (x : Int).tmod 5 = 0 := m1
              have q1 : (x : Int).tdiv 5 = (q : Int) := q1
              clear hs eq hd hxk h0 h1 hw
              go_wp2
              refine ⟨⟨q, k2 + 1, hp, HS.out, rfl, HW.out.setCell (p := ⟨D + 1, 2, none⟩) (show D ≤ D + 1 by omega) _, (set_other (by omega)).trans HZ.out, ?_⟩, ?_⟩
              · rw [show ((Iv.vp 5 a2 : Int) - ((k2 + 1 : Nat) : Int)) = (k : Int) - (k2 : Int) - 1 by rw [E2.out]; push_cast; omega]
                exact set3_2 HE.out
              · simp [intOf]; omega
            · obtain ⟨e1, e3⟩ := Iv.strip_is (p := 5) (by decide) hxk hd
              rw [V2.out.2.1] at e1
              have hd' : ¬ (((x % 5 : Nat) : Int) = 0) := by omega
              obtain ⟨y0, hy0⟩ : ∃ y0, x % 5 = y0 := ⟨_, rfl⟩
              have m1 : (x : Int).tmod 5 = ((x % 5 : Nat) : Int) := m1
              rw [hy0] at m1 hd'
              subst e1
              have EX : x5 = (Iv.vp 5 a2 : Int) - (k2 : Int) := by rw [V2.out.2.2, e3]
              have EXH := Lib.hid EX
              clear e3 EX hy0 hd hxk h0 h1 hw q1 hq
              go_wp2_with fail
              go_roundw
              case rel => exact ⟨.inr (.inr (.inr (⟨rfl, rfl, rfl, by rw [EXH.out]; exact HE.out⟩))), HW.out, HZ.out⟩
              case measure => simp [intOf]
    · by_cases hr : a3 = b3
      · skip
        have e0 := EP0.out
        rw [if_pos hr] at e0
        have e1 := EP1.out
        rw [if_pos hr] at e1
        have e2 := EP2.out
        rw [if_pos hr] at e2
        have e3 := EP3.out
        rw [if_pos hr] at e3
        have e4 := EP4.out
        rw [if_pos hr] at e4
        have e5 := EP5.out
        rw [if_pos hr] at e5
        have e6 := EP6.out
        rw [if_pos hr] at e6
        rw [e0, e1, e2, e3, e4, e5, e6] at WH
        clear EP0 EP1 EP2 EP3 EP4 EP5 EP6 e0 e1 e2 e3 e4 e5 e6
        subst hr
        have r0 := cell3_0 h1
        have r1 := cell3_1 h1
        have r2 := cell3_2 h1
        go_wp2_with fail
        refine (WH.out _).mono ?_
        rintro e w1 ⟨rfl, hb1⟩
        have hl := (Array.getElem?_eq_some_iff.1 h0).1
        have h2 := (hb1.block D hl).trans h0
        have hw1 := hw.trans (hb1.mono (by have := hw.size; omega))
        have r0_ := cell6_0 h2
        have g0_ := free6_0 h2
        have r1_ := cell6_1 h2
        have g1_ := free6_1 h2
        have r2_ := cell6_2 h2
        have g2_ := free6_2 h2
        have r3_ := cell6_3 h2
        have g3_ := free6_3 h2
        have r4_ := cell6_4 h2
        have g4_ := free6_4 h2
        have r5_ := cell6_5 h2
        have g5_ := free6_5 h2
        obtain ⟨U, hU⟩ : ∃ U, ((((((w1.setCell ⟨D, 0, none⟩ (.int .i64 p0)).setCell ⟨D, 1, none⟩ (.int .i64 p1)).setCell ⟨D, 2, none⟩ (.int .i64 p2)).setCell ⟨D, 3, none⟩ (.int .i64 p3)).setCell ⟨D, 4, none⟩ (.int .i64 p4)).setCell ⟨D, 5, none⟩ (.int .i64 p5)) = U := ⟨_, rfl⟩
        have HW := Lib.hid (show Below D w U by rw [← hU]; exact ((((((hw1.setCell (p := ⟨D, 0, none⟩) (show D ≤ D by omega) (.int .i64 p0)).setCell (p := ⟨D, 1, none⟩) (show D ≤ D by omega) (.int .i64 p1)).setCell (p := ⟨D, 2, none⟩) (show D ≤ D by omega) (.int .i64 p2)).setCell (p := ⟨D, 3, none⟩) (show D ≤ D by omega) (.int .i64 p3)).setCell (p := ⟨D, 4, none⟩) (show D ≤ D by omega) (.int .i64 p4)).setCell (p := ⟨D, 5, none⟩) (show D ≤ D by omega) (.int .i64 p5)))
        have hE : U.heap[D]? = some (.cells #[.int .i64 p0, .int .i64 p1, .int .i64 p2, .int .i64 p3, .int .i64 p4, .int .i64 p5] 25) := by rw [← hU]; exact (set6_5 (x := .int .i64 p5) (set6_4 (x := .int .i64 p4) (set6_3 (x := .int .i64 p3) (set6_2 (x := .int .i64 p2) (set6_1 (x := .int .i64 p1) (set6_0 (x := .int .i64 p0) h2))))))
        have HU := Lib.hid hU
        have z0 := cell6_0 hE
        have z1 := cell6_1 hE
        have z2 := cell6_2 hE
        have z3 := cell6_3 hE
        have z4 := cell6_4 hE
        have z5 := cell6_5 hE
        clear hE hU h1 h0 hw h2 hw1 hb1 r0 r1 r2
        go_wp2
        rw [HU.out]
        refine bodyPost_ret (v := .tuple #[.agg #[.int .i64 p0, .int .i64 p1, .int .i64 p2, .int .i64 p3, .int .i64 p4, .int .i64 p5], .int .i64 p6]) (by simp [results, Tryz.results27, go_sem, z0, z1, z2, z3, z4, z5]) rfl ⟨rfl, by first | exact HW.out | (rw [hD]; exact HW.out)⟩
      · have hne : ¬ ((a3 : Int) = (b3 : Int)) := by omega
        have e0 := EP0.out
        rw [if_neg hr] at e0
        subst e0
        have e1 := EP1.out
        rw [if_neg hr] at e1
        subst e1
        have e2 := EP2.out
        rw [if_neg hr] at e2
        subst e2
        have e3 := EP3.out
        rw [if_neg hr] at e3
        subst e3
        have e4 := EP4.out
        rw [if_neg hr] at e4
        subst e4
        have e5 := EP5.out
        rw [if_neg hr] at e5
        subst e5
        have e6 := EP6.out
        rw [if_neg hr] at e6
        subst e6
        clear EP0 EP1 EP2 EP3 EP4 EP5 EP6
        have hw1 := hw
        have r0_ := cell6_0 h0
        have g0_ := free6_0 h0
        have r1_ := cell6_1 h0
        have g1_ := free6_1 h0
        have r2_ := cell6_2 h0
        have g2_ := free6_2 h0
        have r3_ := cell6_3 h0
        have g3_ := free6_3 h0
        have r4_ := cell6_4 h0
        have g4_ := free6_4 h0
        have r5_ := cell6_5 h0
        have g5_ := free6_5 h0
        obtain ⟨U, hU⟩ : ∃ U, ((((((wo.setCell ⟨D, 0, none⟩ (.int .i64 0)).setCell ⟨D, 1, none⟩ (.int .i64 0)).setCell ⟨D, 2, none⟩ (.int .i64 0)).setCell ⟨D, 3, none⟩ (.int .i64 0)).setCell ⟨D, 4, none⟩ (.int .i64 0)).setCell ⟨D, 5, none⟩ (.int .i64 0)) = U := ⟨_, rfl⟩
        have HW := Lib.hid (show Below D w U by rw [← hU]; exact ((((((hw1.setCell (p := ⟨D, 0, none⟩) (show D ≤ D by omega) (.int .i64 0)).setCell (p := ⟨D, 1, none⟩) (show D ≤ D by omega) (.int .i64 0)).setCell (p := ⟨D, 2, none⟩) (show D ≤ D by omega) (.int .i64 0)).setCell (p := ⟨D, 3, none⟩) (show D ≤ D by omega) (.int .i64 0)).setCell (p := ⟨D, 4, none⟩) (show D ≤ D by omega) (.int .i64 0)).setCell (p := ⟨D, 5, none⟩) (show D ≤ D by omega) (.int .i64 0)))
        have hE : U.heap[D]? = some (.cells #[.int .i64 0, .int .i64 0, .int .i64 0, .int .i64 0, .int .i64 0, .int .i64 0] 25) := by rw [← hU]; exact (set6_5 (x := .int .i64 0) (set6_4 (x := .int .i64 0) (set6_3 (x := .int .i64 0) (set6_2 (x := .int .i64 0) (set6_1 (x := .int .i64 0) (set6_0 (x := .int .i64 0) h0))))))
        have HU := Lib.hid hU
        have z0 := cell6_0 hE
        have z1 := cell6_1 hE
        have z2 := cell6_2 hE
        have z3 := cell6_3 hE
        have z4 := cell6_4 hE
        have z5 := cell6_5 hE
        clear hE hU h1 h0 hw hw1
        go_wp2
        rw [HU.out]
        refine bodyPost_ret (v := .tuple #[.agg #[.int .i64 0, .int .i64 0, .int .i64 0, .int .i64 0, .int .i64 0, .int .i64 0], .int .i64 7]) (by simp [results, Tryz.results27, go_sem, z0, z1, z2, z3, z4, z5]) rfl ⟨rfl, by first | exact HW.out | (rw [hD]; exact HW.out)⟩
end Go.Proofs.YthdoadkdofgenaaGreatDoor
