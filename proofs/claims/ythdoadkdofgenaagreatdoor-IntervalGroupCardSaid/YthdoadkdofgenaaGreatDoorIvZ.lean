/- Sizes that are alike. -/
import Derived.Test.YthdoadkdofgenaaGreatDoorIvMathC
import Derived.Test.YthdoadkdofgenaaGreatDoorIvS
import Derived.Test.YthdoadkdofgenaaGreatDoorIvV
import Derived.Laws.StructEq
namespace Go.Proofs.YthdoadkdofgenaaGreatDoor
open Go Go.RowKit Go.Shelf

theorem eq_size (a b c d e f : Int) : ∀ W : World, (binOp .eql 25 (.agg #[.int .i64 a, .int .i64 b, .int .i64 c, .int .i64 d, .int .i64 e, .int .i64 f]) (.agg #[.int .i64 a, .int .i64 b, .int .i64 c, .int .i64 d, .int .i64 e, .int .i64 f])).run Tryz.prog W = .ok (.bool true) W := by
  intro W
  simp [go_sem]
theorem sz_eqv {x a b c x' a' b' c' : Int} {D D' : Nat} (h1 : 0 < D) (h2 : 0 < D') (hx : x * D' = x' * D) (ha : a * D' = a' * D) (hb : b * D' = b' * D) (hc : c * D' = c' * D) :
    szN x a b c D = szN x' a' b' c' D' ∧ szD x a b c D = szD x' a' b' c' D' ∧ szE a b c D = szE a' b' c' D' := by
  have ho := Iv.okB_eqv h1 h2 ha hb hc
  have hq := Iv.qn_eqv h1 h2 hx
  unfold szN szD szE
  rw [ho, hq.1, hq.2]
  exact ⟨rfl, rfl, rfl⟩
theorem cb_sz (x x' a a' b b' c c' k : Int) {d e : Nat} (hd : 0 < d) (he : 0 < e) :
    szN (Iv.cb x x' d e k) (Iv.cb a a' d e k) (Iv.cb b b' d e k) (Iv.cb c c' d e k) (Nat.lcm d e) = szN (x * e + k * x' * d) (a * e + k * a' * d) (b * e + k * b' * d) (c * e + k * c' * d) (d * e) ∧
    szD (Iv.cb x x' d e k) (Iv.cb a a' d e k) (Iv.cb b b' d e k) (Iv.cb c c' d e k) (Nat.lcm d e) = szD (x * e + k * x' * d) (a * e + k * a' * d) (b * e + k * b' * d) (c * e + k * c' * d) (d * e) ∧
    szE (Iv.cb a a' d e k) (Iv.cb b b' d e k) (Iv.cb c c' d e k) (Nat.lcm d e) = szE (a * e + k * a' * d) (b * e + k * b' * d) (c * e + k * c' * d) (d * e) :=
  sz_eqv (Nat.lcm_pos hd he) (Nat.mul_pos hd he) (Iv.cb_eqv hd he x x' k) (Iv.cb_eqv hd he a a' k) (Iv.cb_eqv hd he b b' k) (Iv.cb_eqv hd he c c' k)

end Go.Proofs.YthdoadkdofgenaaGreatDoor
/- Contract of Scale. -/
namespace Go.Proofs.YthdoadkdofgenaaGreatDoor
open Go Go.RowKit Go.Shelf

set_option maxRecDepth 10000 in
set_option maxHeartbeats 4000000 in
theorem ivscale_bad (x0 x1 x2 x3 x4 x5 k l : Int) (w : World) (hx : Iv.rdE x0 x1 x2 x3 x4 x5 = 0) (hr : FracMath.rightB k l = false) :
    Calls Tryz.prog 18 #[.agg #[.int .i64 x0, .int .i64 x1, .int .i64 x2, .int .i64 x3, .int .i64 x4, .int .i64 x5], .agg #[.int .i64 k, .int .i64 l]] w fun e w' => e = .returned (.tuple #[.agg #[.int .i64 0, .int .i64 0, .int .i64 0, .int .i64 0, .int .i64 0, .int .i64 0], .int .i64 2]) ∧ Below w.heap.size w w' := by
  have PA := Lib.hid (fun W => rd_parts x0 x1 x2 x3 x4 x5 W)
  rw [hx] at PA
  have CK := Lib.hid (fun W => check_any k l W)
  rw [chk_no hr] at CK
  clear hx hr
  generalize rdA x0 x1 x2 x3 x4 x5 = ra at *
  generalize rdB x0 x1 x2 x3 x4 x5 = rb at *
  generalize rdC x0 x1 x2 x3 x4 x5 = rc at *
  generalize rdD x0 x1 x2 x3 x4 x5 = rd at *
  obtain ⟨D, hD⟩ : ∃ D, w.heap.size = D := ⟨_, rfl⟩
  go_enter Tryz.func18, Tryz.ntmps18
  go_wp2_with fail
  refine (PA.out _).mono ?_
  rintro e w1 ⟨rfl, hb1⟩
  have hs1 := hb1.size
  have h2a : w1.heap[D + 1 + 1]? = some (.cells #[.int .i64 0, .int .i64 0, .int .i64 0, .int .i64 0, .int .i64 0, .int .i64 0] 25) := (hb1.block (D + 1 + 1) (by simp [hD])).trans (heap_new (by simp [hD]))
  have hka : w1.heap[D + 1]? = some (.cells #[.int .i64 k, .int .i64 l] 23) := (hb1.block (D + 1) (by simp [hD])).trans (heap_old (heap_new (by simp [hD])))
  have hw1a : Below D w w1 := ((((Below.refl _ w).alloc (by omega) _).alloc (by simp; omega) _).alloc (by simp; omega) _).trans (hb1.mono (by simp; omega))
  obtain ⟨E, hE⟩ : ∃ E, w1.heap.size = E := ⟨_, rfl⟩
  have hDE : D + 1 + 1 < E := by rw [← hE]; exact (Array.getElem?_eq_some_iff.1 h2a).1
  have hea : (w1.alloc (.cells #[.int .i64 ra, .int .i64 rb, .int .i64 rc, .int .i64 rd] 73)).heap[E]? = some (.cells #[.int .i64 ra, .int .i64 rb, .int .i64 rc, .int .i64 rd] 73) := heap_new hE.symm
  have h2b := heap_old (o := .cells #[.int .i64 ra, .int .i64 rb, .int .i64 rc, .int .i64 rd] 73) h2a
  have hkb := heap_old (o := .cells #[.int .i64 ra, .int .i64 rb, .int .i64 rc, .int .i64 rd] 73) hka
  have hw1b := hw1a.alloc (by have := hw1a.size; omega) (.cells #[.int .i64 ra, .int .i64 rb, .int .i64 rc, .int .i64 rd] 73)
  have y0 := cell2_0 hkb
  have y1 := cell2_1 hkb
  go_wp2_with fail
  refine (CK.out _).mono ?_
  rintro e w2 ⟨rfl, hb2⟩
  have h2 := (hb2.block (D + 1 + 1) (Array.getElem?_eq_some_iff.1 h2b).1).trans h2b
  have hk := (hb2.block (D + 1) (Array.getElem?_eq_some_iff.1 hkb).1).trans hkb
  have he := (hb2.block E (Array.getElem?_eq_some_iff.1 hea).1).trans hea
  have hw := hw1b.trans (hb2.mono (by have := hw1b.size; omega))
  clear h2a hka hw1a hea h2b hkb hw1b y0 y1 hb1 hb2 hs1
  have r0 := cell6_0 h2
  have f0 := free6_0 h2
  have r1 := cell6_1 h2
  have f1 := free6_1 h2
  have r2 := cell6_2 h2
  have f2 := free6_2 h2
  have r3 := cell6_3 h2
  have f3 := free6_3 h2
  have r4 := cell6_4 h2
  have f4 := free6_4 h2
  have r5 := cell6_5 h2
  have f5 := free6_5 h2
  obtain ⟨U, hU⟩ : ∃ U, ((((((w2.setCell ⟨D + 1 + 1, 0, none⟩ (.int .i64 0)).setCell ⟨D + 1 + 1, 1, none⟩ (.int .i64 0)).setCell ⟨D + 1 + 1, 2, none⟩ (.int .i64 0)).setCell ⟨D + 1 + 1, 3, none⟩ (.int .i64 0)).setCell ⟨D + 1 + 1, 4, none⟩ (.int .i64 0)).setCell ⟨D + 1 + 1, 5, none⟩ (.int .i64 0)) = U := ⟨_, rfl⟩
  have HW := Lib.hid (show Below D w U by rw [← hU]; exact ((((((hw.setCell (p := ⟨D + 1 + 1, 0, none⟩) (show D ≤ D + 1 + 1 by omega) (.int .i64 0)).setCell (p := ⟨D + 1 + 1, 1, none⟩) (show D ≤ D + 1 + 1 by omega) (.int .i64 0)).setCell (p := ⟨D + 1 + 1, 2, none⟩) (show D ≤ D + 1 + 1 by omega) (.int .i64 0)).setCell (p := ⟨D + 1 + 1, 3, none⟩) (show D ≤ D + 1 + 1 by omega) (.int .i64 0)).setCell (p := ⟨D + 1 + 1, 4, none⟩) (show D ≤ D + 1 + 1 by omega) (.int .i64 0)).setCell (p := ⟨D + 1 + 1, 5, none⟩) (show D ≤ D + 1 + 1 by omega) (.int .i64 0)))
  have hE : U.heap[D + 1 + 1]? = some (.cells #[.int .i64 0, .int .i64 0, .int .i64 0, .int .i64 0, .int .i64 0, .int .i64 0] 25) := by rw [← hU]; exact (set6_5 (x := .int .i64 0) (set6_4 (x := .int .i64 0) (set6_3 (x := .int .i64 0) (set6_2 (x := .int .i64 0) (set6_1 (x := .int .i64 0) (set6_0 (x := .int .i64 0) h2))))))
  have HU := Lib.hid hU
  have z0 := cell6_0 hE
  have z1 := cell6_1 hE
  have z2 := cell6_2 hE
  have z3 := cell6_3 hE
  have z4 := cell6_4 hE
  have z5 := cell6_5 hE
  clear hE hU h2 hk he hw hDE
  go_wp2
  rw [HU.out]
  refine bodyPost_ret (v := .tuple #[.agg #[.int .i64 0, .int .i64 0, .int .i64 0, .int .i64 0, .int .i64 0, .int .i64 0], .int .i64 2]) (by simp [results, Tryz.results18, go_sem, z0, z1, z2, z3, z4, z5]) rfl ⟨rfl, by first | exact HW.out | (rw [hD]; exact HW.out)⟩

set_option maxRecDepth 10000 in
set_option maxHeartbeats 8000000 in
theorem ivscale_ok (x0 x1 x2 x3 x4 x5 k : Int) (d m : Nat) (w : World) (hx : Iv.rdE x0 x1 x2 x3 x4 x5 = 0) (hd : rdD x0 x1 x2 x3 x4 x5 = (d : Int)) (hd1 : 0 < d) (hd2 : d ≤ 240) (hr : FracMath.rightB k (m : Int) = true) :
    Calls Tryz.prog 18 #[.agg #[.int .i64 x0, .int .i64 x1, .int .i64 x2, .int .i64 x3, .int .i64 x4, .int .i64 x5], .agg #[.int .i64 k, .int .i64 (m : Int)]] w fun e w' => e = .returned (.tuple #[.agg #[.int .i64 (szN (rdA x0 x1 x2 x3 x4 x5 * k) (rdA x0 x1 x2 x3 x4 x5 * k) (rdB x0 x1 x2 x3 x4 x5 * k) (rdC x0 x1 x2 x3 x4 x5 * k) (d * m)), .int .i64 (szD (rdA x0 x1 x2 x3 x4 x5 * k) (rdA x0 x1 x2 x3 x4 x5 * k) (rdB x0 x1 x2 x3 x4 x5 * k) (rdC x0 x1 x2 x3 x4 x5 * k) (d * m)), .int .i64 (szN (rdB x0 x1 x2 x3 x4 x5 * k) (rdA x0 x1 x2 x3 x4 x5 * k) (rdB x0 x1 x2 x3 x4 x5 * k) (rdC x0 x1 x2 x3 x4 x5 * k) (d * m)), .int .i64 (szD (rdB x0 x1 x2 x3 x4 x5 * k) (rdA x0 x1 x2 x3 x4 x5 * k) (rdB x0 x1 x2 x3 x4 x5 * k) (rdC x0 x1 x2 x3 x4 x5 * k) (d * m)), .int .i64 (szN (rdC x0 x1 x2 x3 x4 x5 * k) (rdA x0 x1 x2 x3 x4 x5 * k) (rdB x0 x1 x2 x3 x4 x5 * k) (rdC x0 x1 x2 x3 x4 x5 * k) (d * m)), .int .i64 (szD (rdC x0 x1 x2 x3 x4 x5 * k) (rdA x0 x1 x2 x3 x4 x5 * k) (rdB x0 x1 x2 x3 x4 x5 * k) (rdC x0 x1 x2 x3 x4 x5 * k) (d * m))], .int .i64 (szE (rdA x0 x1 x2 x3 x4 x5 * k) (rdB x0 x1 x2 x3 x4 x5 * k) (rdC x0 x1 x2 x3 x4 x5 * k) (d * m))]) ∧ Below w.heap.size w w' := by
  have PA := Lib.hid (fun W => rd_parts x0 x1 x2 x3 x4 x5 W)
  have bx := rd_bounds x0 x1 x2 x3 x4 x5
  rw [hx, hd] at PA
  have CK := Lib.hid (fun W => check_any k (m : Int) W)
  rw [chk_yes hr] at CK
  obtain ⟨k1, k2, l1, l2, _⟩ := FracMath.right_of hr
  clear hx hd hr
  generalize rdA x0 x1 x2 x3 x4 x5 = ra at *
  generalize rdB x0 x1 x2 x3 x4 x5 = rb at *
  generalize rdC x0 x1 x2 x3 x4 x5 = rc at *
  have l1 : 1 ≤ m := by omega
  have l2 : m ≤ 1000000 := by omega
  have ma := mulb (x := ra) (y := k) (X := 6000) (Y := 1000000) (by omega) (by omega) (by omega) (by omega)
  obtain ⟨sa, esa⟩ : ∃ s, ra * k = s := ⟨_, rfl⟩
  rw [esa] at ma ⊢
  have mb := mulb (x := rb) (y := k) (X := 6000) (Y := 1000000) (by omega) (by omega) (by omega) (by omega)
  obtain ⟨sb, esb⟩ : ∃ s, rb * k = s := ⟨_, rfl⟩
  rw [esb] at mb ⊢
  have mc := mulb (x := rc) (y := k) (X := 6000) (Y := 1000000) (by omega) (by omega) (by omega) (by omega)
  obtain ⟨sc, esc⟩ : ∃ s, rc * k = s := ⟨_, rfl⟩
  rw [esc] at mc ⊢
  have hdm0 : 0 < d * m := Nat.mul_pos hd1 l1
  have hdm : d * m ≤ 240 * 1000000 := Nat.mul_le_mul hd2 l2
  have hdmi : (d : Int) * (m : Int) = ((d * m : Nat) : Int) := by push_cast; rfl
  obtain ⟨q, hq⟩ : ∃ q, d * m = q := ⟨_, rfl⟩
  rw [hq] at hdm0 hdm hdmi ⊢
  have SI := Lib.hid (fun W => ivsize_any sa sb sc q W (by omega) (by omega) (by omega) (by omega) (by omega) (by omega) hdm0 (by omega))
  generalize szN sa sa sb sc q = p0 at *
  generalize szD sa sa sb sc q = p1 at *
  generalize szN sb sa sb sc q = p2 at *
  generalize szD sb sa sb sc q = p3 at *
  generalize szN sc sa sb sc q = p4 at *
  generalize szD sc sa sb sc q = p5 at *
  generalize szE sa sb sc q = pE at *
  clear bx hd1 hd2 k1 k2 l1 l2 hq
  obtain ⟨l, hl⟩ : ∃ l : Int, (m : Int) = l := ⟨_, rfl⟩
  rw [hl] at CK hdmi ⊢
  clear hl
  obtain ⟨D, hD⟩ : ∃ D, w.heap.size = D := ⟨_, rfl⟩
  go_enter Tryz.func18, Tryz.ntmps18
  go_wp2_with fail
  refine (PA.out _).mono ?_
  rintro e w1 ⟨rfl, hb1⟩
  have hs1 := hb1.size
  have h2a : w1.heap[D + 1 + 1]? = some (.cells #[.int .i64 0, .int .i64 0, .int .i64 0, .int .i64 0, .int .i64 0, .int .i64 0] 25) := (hb1.block (D + 1 + 1) (by simp [hD])).trans (heap_new (by simp [hD]))
  have hka : w1.heap[D + 1]? = some (.cells #[.int .i64 k, .int .i64 l] 23) := (hb1.block (D + 1) (by simp [hD])).trans (heap_old (heap_new (by simp [hD])))
  have hw1a : Below D w w1 := ((((Below.refl _ w).alloc (by omega) _).alloc (by simp; omega) _).alloc (by simp; omega) _).trans (hb1.mono (by simp; omega))
  obtain ⟨E, hE⟩ : ∃ E, w1.heap.size = E := ⟨_, rfl⟩
  have hDE : D + 1 + 1 < E := by rw [← hE]; exact (Array.getElem?_eq_some_iff.1 h2a).1
  have hea : (w1.alloc (.cells #[.int .i64 ra, .int .i64 rb, .int .i64 rc, .int .i64 (d : Int)] 73)).heap[E]? = some (.cells #[.int .i64 ra, .int .i64 rb, .int .i64 rc, .int .i64 (d : Int)] 73) := heap_new hE.symm
  have h2b := heap_old (o := .cells #[.int .i64 ra, .int .i64 rb, .int .i64 rc, .int .i64 (d : Int)] 73) h2a
  have hkb := heap_old (o := .cells #[.int .i64 ra, .int .i64 rb, .int .i64 rc, .int .i64 (d : Int)] 73) hka
  have hw1b := hw1a.alloc (by have := hw1a.size; omega) (.cells #[.int .i64 ra, .int .i64 rb, .int .i64 rc, .int .i64 (d : Int)] 73)
  have y0 := cell2_0 hkb
  have y1 := cell2_1 hkb
  go_wp2_with fail
  refine (CK.out _).mono ?_
  rintro e w2 ⟨rfl, hb2⟩
  have h2 := (hb2.block (D + 1 + 1) (Array.getElem?_eq_some_iff.1 h2b).1).trans h2b
  have hk := (hb2.block (D + 1) (Array.getElem?_eq_some_iff.1 hkb).1).trans hkb
  have he := (hb2.block E (Array.getElem?_eq_some_iff.1 hea).1).trans hea
  have hw := hw1b.trans (hb2.mono (by have := hw1b.size; omega))
  clear h2a hka hw1a hea h2b hkb hw1b y0 y1 hb1 hb2 hs1
  go_wp2_with fail
  go_loopw [25] (fun i wr => ((i = .int .i64 0 ∧ wr.heap[E]? = some (.cells #[.int .i64 ra, .int .i64 rb, .int .i64 rc, .int .i64 (d : Int)] 73)) ∨ (i = .int .i64 1 ∧ wr.heap[E]? = some (.cells #[.int .i64 sa, .int .i64 rb, .int .i64 rc, .int .i64 (d : Int)] 73)) ∨ (i = .int .i64 2 ∧ wr.heap[E]? = some (.cells #[.int .i64 sa, .int .i64 sb, .int .i64 rc, .int .i64 (d : Int)] 73)) ∨ (i = .int .i64 3 ∧ wr.heap[E]? = some (.cells #[.int .i64 sa, .int .i64 sb, .int .i64 sc, .int .i64 (d : Int)] 73))) ∧ Below D w wr ∧ wr.heap[D + 1]? = some (.cells #[.int .i64 k, .int .i64 l] 23) ∧ wr.heap[D + 1 + 1]? = some (.cells #[.int .i64 0, .int .i64 0, .int .i64 0, .int .i64 0, .int .i64 0, .int .i64 0] 25)) (fun i _ => 3 - (intOf i).toNat)
  case atStart => exact ⟨.inl ⟨rfl, he⟩, hw, hk, h2⟩
  case round =>
    clear he hw hk h2
    obtain ⟨hi, hw, hk, h2⟩ := hrel
    rcases hi with ⟨rfl, he⟩ | ⟨rfl, he⟩ | ⟨rfl, he⟩ | ⟨rfl, he⟩
    · have a_ := cell4_0 he
      have k_ := cell2_0 hk
      have f_ := free4_0 he
      have HW := Lib.hid (hw.setCell (p := ⟨E, 0, none⟩) (show D ≤ E by omega) (.int .i64 sa))
      have HK := Lib.hid ((set_other (b := E) (o := 0) (x := .int .i64 sa) (show D + 1 ≠ E by omega)).trans hk)
      have H2 := Lib.hid ((set_other (b := E) (o := 0) (x := .int .i64 sa) (show D + 1 + 1 ≠ E by omega)).trans h2)
      have HE := Lib.hid (set4_0 (x := .int .i64 sa) he)
      clear hw hk h2 he
      go_wp2
      go_region
      go_wp2
      exact ⟨⟨.inr (.inl ⟨rfl, HE.out⟩), below_drew HW.out, HK.out, H2.out⟩, by decide⟩
    · have a_ := cell4_1 he
      have k_ := cell2_0 hk
      have f_ := free4_1 he
      have HW := Lib.hid (hw.setCell (p := ⟨E, 1, none⟩) (show D ≤ E by omega) (.int .i64 sb))
      have HK := Lib.hid ((set_other (b := E) (o := 1) (x := .int .i64 sb) (show D + 1 ≠ E by omega)).trans hk)
      have H2 := Lib.hid ((set_other (b := E) (o := 1) (x := .int .i64 sb) (show D + 1 + 1 ≠ E by omega)).trans h2)
      have HE := Lib.hid (set4_1 (x := .int .i64 sb) he)
      clear hw hk h2 he
      go_wp2
      go_region
      go_wp2
      exact ⟨⟨.inr (.inr (.inl ⟨rfl, HE.out⟩)), below_drew HW.out, HK.out, H2.out⟩, by decide⟩
    · have a_ := cell4_2 he
      have k_ := cell2_0 hk
      have f_ := free4_2 he
      have HW := Lib.hid (hw.setCell (p := ⟨E, 2, none⟩) (show D ≤ E by omega) (.int .i64 sc))
      have HK := Lib.hid ((set_other (b := E) (o := 2) (x := .int .i64 sc) (show D + 1 ≠ E by omega)).trans hk)
      have H2 := Lib.hid ((set_other (b := E) (o := 2) (x := .int .i64 sc) (show D + 1 + 1 ≠ E by omega)).trans h2)
      have HE := Lib.hid (set4_2 (x := .int .i64 sc) he)
      clear hw hk h2 he
      go_wp2
      go_region
      go_wp2
      exact ⟨⟨.inr (.inr (.inr (⟨rfl, HE.out⟩))), below_drew HW.out, HK.out, H2.out⟩, by decide⟩
    · have a_ := cell4_3 he
      have k_ := cell2_1 hk
      have f_ := free4_3 he
      have hw3 := hw.setCell (p := ⟨E, 3, none⟩) (show D ≤ E by omega) (.int .i64 (q : Int))
      have h3 := (set_other (b := E) (o := 3) (x := .int .i64 (q : Int)) (show D + 1 + 1 ≠ E by omega)).trans h2
      have he3 := set4_3 (x := .int .i64 (q : Int)) he
      have j0 := cell4_0 he3
      have j1 := cell4_1 he3
      have j2 := cell4_2 he3
      have j3 := cell4_3 he3
      go_wp2_with fail
      refine (SI.out _).mono ?_
      rintro e w4 ⟨rfl, hb4⟩
      have h4 := (hb4.block (D + 1 + 1) (Array.getElem?_eq_some_iff.1 h3).1).trans h3
      have hw4 := hw3.trans (hb4.mono (by have := hw3.size; omega))
      have r0 := cell6_0 h4
      have f0 := free6_0 h4
      have r1 := cell6_1 h4
      have f1 := free6_1 h4
      have r2 := cell6_2 h4
      have f2 := free6_2 h4
      have r3 := cell6_3 h4
      have f3 := free6_3 h4
      have r4 := cell6_4 h4
      have f4 := free6_4 h4
      have r5 := cell6_5 h4
      have f5 := free6_5 h4
      obtain ⟨U, hU⟩ : ∃ U, ((((((w4.setCell ⟨D + 1 + 1, 0, none⟩ (.int .i64 p0)).setCell ⟨D + 1 + 1, 1, none⟩ (.int .i64 p1)).setCell ⟨D + 1 + 1, 2, none⟩ (.int .i64 p2)).setCell ⟨D + 1 + 1, 3, none⟩ (.int .i64 p3)).setCell ⟨D + 1 + 1, 4, none⟩ (.int .i64 p4)).setCell ⟨D + 1 + 1, 5, none⟩ (.int .i64 p5)) = U := ⟨_, rfl⟩
      have HW := Lib.hid (show Below D w U by rw [← hU]; exact ((((((hw4.setCell (p := ⟨D + 1 + 1, 0, none⟩) (show D ≤ D + 1 + 1 by omega) (.int .i64 p0)).setCell (p := ⟨D + 1 + 1, 1, none⟩) (show D ≤ D + 1 + 1 by omega) (.int .i64 p1)).setCell (p := ⟨D + 1 + 1, 2, none⟩) (show D ≤ D + 1 + 1 by omega) (.int .i64 p2)).setCell (p := ⟨D + 1 + 1, 3, none⟩) (show D ≤ D + 1 + 1 by omega) (.int .i64 p3)).setCell (p := ⟨D + 1 + 1, 4, none⟩) (show D ≤ D + 1 + 1 by omega) (.int .i64 p4)).setCell (p := ⟨D + 1 + 1, 5, none⟩) (show D ≤ D + 1 + 1 by omega) (.int .i64 p5)))
      have hE : U.heap[D + 1 + 1]? = some (.cells #[.int .i64 p0, .int .i64 p1, .int .i64 p2, .int .i64 p3, .int .i64 p4, .int .i64 p5] 25) := by rw [← hU]; exact (set6_5 (x := .int .i64 p5) (set6_4 (x := .int .i64 p4) (set6_3 (x := .int .i64 p3) (set6_2 (x := .int .i64 p2) (set6_1 (x := .int .i64 p1) (set6_0 (x := .int .i64 p0) h4))))))
      have HU := Lib.hid hU
      have z0 := cell6_0 hE
      have z1 := cell6_1 hE
      have z2 := cell6_2 hE
      have z3 := cell6_3 hE
      have z4 := cell6_4 hE
      have z5 := cell6_5 hE
      clear hE hU h4 hw4 hb4 h3 he3 j0 j1 j2 j3 hw3 a_ k_ f_ hw hk h2 he
      go_wp2
      rw [HU.out]
      refine bodyPost_ret (v := .tuple #[.agg #[.int .i64 p0, .int .i64 p1, .int .i64 p2, .int .i64 p3, .int .i64 p4, .int .i64 p5], .int .i64 pE]) (by simp [results, Tryz.results18, go_sem, z0, z1, z2, z3, z4, z5]) rfl ⟨rfl, by first | exact HW.out | (rw [hD]; exact HW.out)⟩
end Go.Proofs.YthdoadkdofgenaaGreatDoor
