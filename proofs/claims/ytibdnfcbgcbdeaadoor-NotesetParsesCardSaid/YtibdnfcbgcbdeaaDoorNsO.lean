/- NotesetLaws: the law's walk. -/
import Derived.Test.YtibdnfcbgcbdeaaDoorNsL
import Derived.Deep.DeepCutAuto
namespace Go.Proofs.YtibdnfcbgcbdeaaDoor
open Go Go.RowKit Go.Shelf

/-- A world of a class. -/
structure Held (R : World → Prop) where
  W : World
  h : R W
/-- A contract of a call that makes memory of its own, met in whatever world of a class. -/
theorem quiet_held {P : Program} {f : FuncId} {args : Array Value} {R : World → Prop} {x : Held R} {v : Value} (hR : ∀ A B, R A → Below A.heap.size A B → R B)
    (h : Calls P f args x.W fun e w' => e = .returned v ∧ Below x.W.heap.size x.W w') : Calls P f args x.W fun e w'' => e = .returned v ∧ ∃ y : Held R, w'' = y.W :=
  h.mono fun _ w' ⟨he, hb⟩ => ⟨he, ⟨w', hR _ _ x.h hb⟩, rfl⟩

theorem pc_add (a b : Nat) : Ns.pc (a ||| b) + Ns.pc (a &&& b) = Ns.pc a + Ns.pc b := by
  unfold Ns.pc
  induction List.range 64 with
  | nil => rfl
  | cons i l ih =>
    simp only [List.map_cons, List.sum_cons]
    have : ((a ||| b).testBit i).toNat + ((a &&& b).testBit i).toNat = (a.testBit i).toNat + (b.testBit i).toNat := by
      rw [Nat.testBit_or, Nat.testBit_and]
      cases a.testBit i <;> cases b.testBit i <;> rfl
    omega
theorem law_or (a b : Nat) (ha : a < 18446744073709551616) (hb : b < 18446744073709551616) : Ns.wo a b ||| (a &&& b) = a := by
  apply Nat.eq_of_testBit_eq
  intro i
  rw [Nat.testBit_or, Ns.wo_testBit a b i ha hb, Nat.testBit_and]
  cases a.testBit i <;> cases b.testBit i <;> rfl
theorem law_and (a b : Nat) (ha : a < 18446744073709551616) (hb : b < 18446744073709551616) : Ns.wo a b &&& (a &&& b) = 0 := by
  apply Nat.eq_of_testBit_eq
  intro i
  rw [Nat.testBit_and, Ns.wo_testBit a b i ha hb, Nat.testBit_and, Nat.zero_testBit]
  cases a.testBit i <;> cases b.testBit i <;> rfl
theorem law_wo (a b : Nat) (ha : a < 18446744073709551616) (hb : b < 18446744073709551616) (h : ∀ i, a.testBit i = true → b.testBit i = true) : Ns.wo a b = 0 := by
  apply Nat.eq_of_testBit_eq
  intro i
  rw [Ns.wo_testBit a b i ha hb, Nat.zero_testBit]
  cases hc : a.testBit i with
  | false => rfl
  | true => rw [h i hc]; rfl

/-- A set lies in a block of its own: its two cells. -/
structure Rn (W : World) (b x y : Nat) : Prop where
  fst : W.cell? ⟨b, 0, none⟩ = some (.int .u64 x)
  snd : W.cell? ⟨b, 1, none⟩ = some (.int .u64 y)
  lt : b < W.heap.size
theorem Rn.below {W W' : World} {b x y : Nat} (h : Rn W b x y) (hb : Below W.heap.size W W') : Rn W' b x y :=
  ⟨(hb.cell (p := ⟨b, 0, none⟩) h.lt).trans h.fst, (hb.cell (p := ⟨b, 1, none⟩) h.lt).trans h.snd, Nat.lt_of_lt_of_le h.lt hb.size⟩
theorem SetAt.rn {W : World} {b x y : Nat} (h : SetAt W b x y) : Rn W b x y := ⟨h.fst, h.snd, h.lt⟩

theorem below_store {w1 W : World} {b o : Nat} {v : Value} (h : Below w1.heap.size w1 W) (hb : w1.heap.size ≤ b) : Below w1.heap.size w1 (W.setCell ⟨b, o, none⟩ v) := h.setCell (p := ⟨b, o, none⟩) hb v
theorem below_alloc {w1 W : World} {o : Obj} (h : Below w1.heap.size w1 W) : Below w1.heap.size w1 (W.alloc o) := h.alloc h.size o

/-- What lies behind the two boxes. -/
structure LawR (p q b5 b6 a b c d x y u v : Nat) (w1 W : World) : Prop where
  s : Rn W p a b
  t : Rn W q c d
  m : Rn W b5 x y
  n : Rn W b6 u v
  b : Below w1.heap.size w1 W
theorem LawR.call {p q b5 b6 a b c d x y u v : Nat} {w1 A B : World} (h : LawR p q b5 b6 a b c d x y u v w1 A) (hb : Below A.heap.size A B) : LawR p q b5 b6 a b c d x y u v w1 B :=
  ⟨h.s.below hb, h.t.below hb, h.m.below hb, h.n.below hb, h.b.trans (hb.mono h.b.size)⟩

set_option maxHeartbeats 4000000 in
theorem laws_nat (a b c d : Nat) (ha : a < 18446744073709551616) (hb : b < 18446744073709551616) (hc : c < 18446744073709551616) (hd : d < 18446744073709551616) (w : World) (G : Gl w) :
    Calls Tryd.prog 11 #[.agg #[.int .u64 a, .int .u64 b], .agg #[.int .u64 c, .int .u64 d]] w fun e w' => e = .returned (.bool true) ∧ Below w.heap.size w w' := by
  have K := Lib.hid (fun W g => known_any W g)
  have GB := Lib.hid (fun o1 o2 => G.below (((Below.refl _ _).alloc (Nat.le_refl _) o1).alloc (by simp) o2))
  have XW := Lib.hid (fun W => without_any a b c d ha hb hc hd W)
  have XB := Lib.hid (fun W => both_any a b c d ha hb hc hd W)
  clear G
  go_enter Tryd.func11, Tryd.ntmps11
  go_wp2_with fail
  refine (K.out _ (GB.out _ _)).mono ?_
  rintro e w1 ⟨rfl, hb1⟩
  have s0 : SetAt ((w.alloc (.cells #[.int .u64 a, .int .u64 b] 34)).alloc (.cells #[.int .u64 c, .int .u64 d] 34)) w.heap.size a b := (SetAt.new w a b).below (SetAt.new w a b).lt ((Below.refl _ _).alloc (Nat.le_refl _) _)
  have t0 : SetAt ((w.alloc (.cells #[.int .u64 a, .int .u64 b] 34)).alloc (.cells #[.int .u64 c, .int .u64 d] 34)) (w.heap.size + 1) c d := by simpa using SetAt.new (w.alloc (.cells #[.int .u64 a, .int .u64 b] 34)) c d
  have s1 := s0.below s0.lt hb1
  have t1 := t0.below t0.lt hb1
  have z1 := hb1.size
  simp at z1
  have hB1 : Below w.heap.size w w1 := (((Below.refl _ _).alloc (Nat.le_refl _) _).alloc (by simp) _).trans (hb1.mono (by simp; omega))
  have S1 := s1.rn
  have T1 := t1.rn
  have HS := Lib.hid (show ∀ W : World, Below w1.heap.size w1 W → (W.cell? ⟨w.heap.size, 0, none⟩ = some (.int .u64 a) ∧ W.cell? ⟨w.heap.size, 1, none⟩ = some (.int .u64 b) ∧ W.cell? ⟨w.heap.size + 1, 0, none⟩ = some (.int .u64 c) ∧ W.cell? ⟨w.heap.size + 1, 1, none⟩ = some (.int .u64 d) ∧ Below w1.heap.size w1 W) from fun W hW => ⟨(S1.below hW).fst, (S1.below hW).snd, (T1.below hW).fst, (T1.below hW).snd, hW⟩)
  have HL := Lib.hid (show ∀ W : World, (W.cell? ⟨w.heap.size, 0, none⟩ = some (.int .u64 a) ∧ W.cell? ⟨w.heap.size, 1, none⟩ = some (.int .u64 b) ∧ W.cell? ⟨w.heap.size + 1, 0, none⟩ = some (.int .u64 c) ∧ W.cell? ⟨w.heap.size + 1, 1, none⟩ = some (.int .u64 d) ∧ Below w1.heap.size w1 W) → Below w1.heap.size w1 W from fun W h => h.2.2.2.2)
  have HN := Lib.hid (show ∀ W W' : World, Below W.heap.size W W' → (W.cell? ⟨w.heap.size, 0, none⟩ = some (.int .u64 a) ∧ W.cell? ⟨w.heap.size, 1, none⟩ = some (.int .u64 b) ∧ W.cell? ⟨w.heap.size + 1, 0, none⟩ = some (.int .u64 c) ∧ W.cell? ⟨w.heap.size + 1, 1, none⟩ = some (.int .u64 d) ∧ Below w1.heap.size w1 W) → Below w1.heap.size w1 W' from fun W W' hb h => h.2.2.2.2.trans (hb.mono h.2.2.2.2.size))
  have t2 : ∀ n : Nat, n < n + 1 + 1 := fun n => by omega
  have P1 := Lib.hid S1
  have P2 := Lib.hid T1
  clear S1 T1 s1 t1 s0 t0
  obtain ⟨x, hx⟩ : ∃ x, Ns.wo a c = x := ⟨_, rfl⟩
  obtain ⟨y, hy⟩ : ∃ y, Ns.wo b d = y := ⟨_, rfl⟩
  obtain ⟨u, hu⟩ : ∃ u, a &&& c = u := ⟨_, rfl⟩
  obtain ⟨v, hv⟩ : ∃ v, b &&& d = v := ⟨_, rfl⟩
  rw [hx, hy] at XW
  rw [hu, hv] at XB
  have EQ := Lib.hid (And.intro hx (And.intro hy (And.intro hu hv)))
  clear hx hy hu hv
  go_upto_region 3 with (fail)
  go_cut [5, 6] (fun s5 s6 wx => ∃ p q : Nat, s5 = .pointer (some ⟨p, 0, none⟩) ∧ s6 = .pointer (some ⟨q, 0, none⟩) ∧ Rn wx p x y ∧ Rn wx q u v ∧ Below w1.heap.size w1 wx)
  case first =>
    go_region_held3 (fun W => W.cell? ⟨w.heap.size, 0, none⟩ = some (.int .u64 a) ∧ W.cell? ⟨w.heap.size, 1, none⟩ = some (.int .u64 b) ∧ W.cell? ⟨w.heap.size + 1, 0, none⟩ = some (.int .u64 c) ∧ W.cell? ⟨w.heap.size + 1, 1, none⟩ = some (.int .u64 d) ∧ Below w1.heap.size w1 W) ((refine HS.out _ ?_; (repeat' (first | (with_reducible exact hB3) | (with_reducible exact hB2) | (with_reducible exact (Below.refl _ _).drew) | (with_reducible exact Below.refl _ _) | (with_reducible refine Below.drew ?_) | (with_reducible refine below_store ?_ ?_) | (with_reducible refine below_alloc ?_))); all_goals (first | (with_reducible exact z3) | (with_reducible exact z2) | (with_reducible exact Nat.le_refl _) | (with_reducible exact Nat.le_succ_of_le z3) | (with_reducible exact Nat.le_succ_of_le z2) | (with_reducible exact Nat.le_succ _))))
      (first | (go_at_call 34; refine (XW.out _).mono ?_; rintro e w2 ⟨rfl, hb2⟩; have hB2 := HN.out _ _ hb2 (by assumption); have z2 := hB2.size; obtain ⟨hc2, hf2⟩ := bcell hb2; (try (have e20a := hc2 (w1.heap.size) 0 (by go_size); have e20b := hc2 (w1.heap.size) 1 (by go_size); have e20f := hf2 (w1.heap.size) 0 (by go_size); have e20g := hf2 (w1.heap.size) 1 (by go_size); have e20l : w1.heap.size < w2.heap.size := by (have hh := hb2.size; (try simp at hh); omega))); (try simp at e20a e20b e20f e20g); (try (have e21a := hc2 (w1.heap.size + 1) 0 (by go_size); have e21b := hc2 (w1.heap.size + 1) 1 (by go_size); have e21f := hf2 (w1.heap.size + 1) 0 (by go_size); have e21g := hf2 (w1.heap.size + 1) 1 (by go_size); have e21l : w1.heap.size + 1 < w2.heap.size := by (have hh := hb2.size; (try simp at hh); omega))); (try simp at e21a e21b e21f e21g); clear hc2 hf2) | (go_at_call 33; refine (XB.out _).mono ?_; rintro e w3 ⟨rfl, hb3⟩; have hB3 := HN.out _ _ hb3 (by assumption); have z3 := hB3.size; obtain ⟨hc3, hf3⟩ := bcell hb3; (try (have e30a := hc3 (w1.heap.size) 0 (by go_size); have e30b := hc3 (w1.heap.size) 1 (by go_size); have e30f := hf3 (w1.heap.size) 0 (by go_size); have e30g := hf3 (w1.heap.size) 1 (by go_size); have e30l : w1.heap.size < w3.heap.size := by (have hh := hb3.size; (try simp at hh); omega))); (try simp at e30a e30b e30f e30g); (try (have e31a := hc3 (w1.heap.size + 1) 0 (by go_size); have e31b := hc3 (w1.heap.size + 1) 1 (by go_size); have e31f := hf3 (w1.heap.size + 1) 0 (by go_size); have e31g := hf3 (w1.heap.size + 1) 1 (by go_size); have e31l : w1.heap.size + 1 < w3.heap.size := by (have hh := hb3.size; (try simp at hh); omega))); (try simp at e31a e31b e31f e31g); (try (have e32a := hc3 (w2.heap.size) 0 (by go_size); have e32b := hc3 (w2.heap.size) 1 (by go_size); have e32f := hf3 (w2.heap.size) 0 (by go_size); have e32g := hf3 (w2.heap.size) 1 (by go_size); have e32l : w2.heap.size < w3.heap.size := by (have hh := hb3.size; (try simp at hh); omega))); (try simp at e32a e32b e32f e32g); (try (have e33a := hc3 (w2.heap.size + 1) 0 (by go_size); have e33b := hc3 (w2.heap.size + 1) 1 (by go_size); have e33f := hf3 (w2.heap.size + 1) 0 (by go_size); have e33g := hf3 (w2.heap.size + 1) 1 (by go_size); have e33l : w2.heap.size + 1 < w3.heap.size := by (have hh := hb3.size; (try simp at hh); omega))); (try simp at e33a e33b e33f e33g); clear hc3 hf3))
    all_goals (go_wp2_with fail; go_meet; refine ⟨_, _, rfl, rfl, ⟨?_, ?_, ?_⟩, ⟨?_, ?_, ?_⟩, ?_⟩)
    all_goals (first | (exact HL.out _ (by assumption)) | go_size | (go_simp; done) | (simp [*]; done))
  case rest =>
    obtain ⟨p, q, rfl, rfl, M0, N0, hB⟩ := hcut
    obtain ⟨hx, hy, hu, hv⟩ := EQ.out
    have hxl : x < 18446744073709551616 := by rw [← hx]; exact Ns.wo_lt _ _ ha
    have hyl : y < 18446744073709551616 := by rw [← hy]; exact Ns.wo_lt _ _ hb
    have hul : u < 18446744073709551616 := by rw [← hu]; exact Ns.and_lt _ ha
    have hvl : v < 18446744073709551616 := by rw [← hv]; exact Ns.and_lt _ hb
    have u1 := fun W => union_any x y u v hxl hyl hul hvl W
    rw [show x ||| u = a by rw [← hx, ← hu]; exact law_or a c ha hc, show y ||| v = b by rw [← hy, ← hv]; exact law_or b d hb hd] at u1
    have U1 := Lib.hid u1
    have b1 := fun W => both_any x y u v hxl hyl hul hvl W
    rw [show x &&& u = 0 by rw [← hx, ← hu]; exact law_and a c ha hc, show y &&& v = 0 by rw [← hy, ← hv]; exact law_and b d hb hd] at b1
    have B1 := Lib.hid b1
    have sub : ∀ e f g : Nat, e < 18446744073709551616 → f < 18446744073709551616 → (∀ i, e.testBit i = true → f.testBit i = true) → Ns.wo e f = 0 := fun e f _ he hf h => law_wo e f he hf h
    have i1 := fun W => within_any u v a b hul hvl ha hb W
    rw [show Ns.withinB u v a b = true by
      unfold Ns.withinB
      rw [law_wo u a hul ha (fun i h => by rw [← hu, Nat.testBit_and] at h; simp at h; exact h.1), law_wo v b hvl hb (fun i h => by rw [← hv, Nat.testBit_and] at h; simp at h; exact h.1)]
      rfl] at i1
    have I1 := Lib.hid i1
    have i2 := fun W => within_any u v c d hul hvl hc hd W
    rw [show Ns.withinB u v c d = true by
      unfold Ns.withinB
      rw [law_wo u c hul hc (fun i h => by rw [← hu, Nat.testBit_and] at h; simp at h; exact h.2), law_wo v d hvl hd (fun i h => by rw [← hv, Nat.testBit_and] at h; simp at h; exact h.2)]
      rfl] at i2
    have I2 := Lib.hid i2
    obtain ⟨g, hg⟩ : ∃ g, a ||| c = g := ⟨_, rfl⟩
    obtain ⟨h, hh⟩ : ∃ h, b ||| d = h := ⟨_, rfl⟩
    have hgl : g < 18446744073709551616 := by rw [← hg]; exact Ns.or_lt ha hc
    have hhl : h < 18446744073709551616 := by rw [← hh]; exact Ns.or_lt hb hd
    have u2 := fun W => union_any a b c d ha hb hc hd W
    rw [hg, hh] at u2
    have U2 := Lib.hid u2
    have i3 := fun W => within_any a b g h ha hb hgl hhl W
    rw [show Ns.withinB a b g h = true by
      unfold Ns.withinB
      rw [law_wo a g ha hgl (fun i k => by rw [← hg, Nat.testBit_or, k]; rfl), law_wo b h hb hhl (fun i k => by rw [← hh, Nat.testBit_or, k]; rfl)]
      rfl] at i3
    have I3 := Lib.hid i3
    have hcnt : (Ns.pc g + Ns.pc h) + (Ns.pc u + Ns.pc v) = (Ns.pc a + Ns.pc b) + (Ns.pc c + Ns.pc d) := by
      rw [← hg, ← hh, ← hu, ← hv]
      have := pc_add a c
      have := pc_add b d
      omega
    have c1 := fun W => count_below g h hgl hhl W
    have c2 := fun W => count_below u v hul hvl W
    have c3 := fun W => count_below a b ha hb W
    have c4 := fun W => count_below c d hc hd W
    have l1 := pc_le g
    have l2 := pc_le h
    have l3 := pc_le u
    have l4 := pc_le v
    have l5 := pc_le a
    have l6 := pc_le b
    have l7 := pc_le c
    have l8 := pc_le d
    generalize Ns.pc g + Ns.pc h = n1 at c1 hcnt
    generalize Ns.pc u + Ns.pc v = n2 at c2 hcnt
    have k5 : Ns.pc a + Ns.pc b ≤ 128 := by omega
    have k7 : Ns.pc c + Ns.pc d ≤ 128 := by omega
    generalize Ns.pc a + Ns.pc b = n3 at c3 hcnt k5
    generalize Ns.pc c + Ns.pc d = n4 at c4 hcnt k7
    obtain ⟨m, hm⟩ : ∃ m, n3 + n4 = m := ⟨_, rfl⟩
    have w12 : IntKind.i64.wrap ((n1 : Int) + (n2 : Int)) = (m : Int) := by rw [IntKind.wrap_i64]; omega
    have w34 : IntKind.i64.wrap ((n3 : Int) + (n4 : Int)) = (m : Int) := by rw [IntKind.wrap_i64]; omega
    have C1 := Lib.hid c1
    have C2 := Lib.hid c2
    have C3 := Lib.hid c3
    have C4 := Lib.hid c4
    clear c1 c2 c3 c4 l1 l2 l3 l4 l5 l6 l7 l8 k5 k7 hm hcnt i1 i2 i3 u1 u2 b1 sub hg hh hx hy hu hv EQ
    have LR := LawR.mk (w1 := w1) (P1.out.below hB) (P2.out.below hB) M0 N0 hB
    obtain ⟨R, hR⟩ : ∃ R, R = LawR w.heap.size (w.heap.size + 1) p q a b c d x y u v w1 := ⟨_, rfl⟩
    have HRC : Hid (∀ A B, R A → Below A.heap.size A B → R B) := fun A B h k => by rw [hR] at h ⊢; exact h.call k
    have HRB : Hid (∀ A, R A → Below w1.heap.size w1 A) := fun A h => by rw [hR] at h; exact h.b
    have toL : ∀ A, R A → LawR w.heap.size (w.heap.size + 1) p q a b c d x y u v w1 A := fun A h => by rw [hR] at h; exact h
    have f1 : ∀ z : Held R, z.W.cell? ⟨w.heap.size, 0, none⟩ = some (.int .u64 a) := fun z => (toL _ z.h).s.fst
    have f2 : ∀ z : Held R, z.W.cell? ⟨w.heap.size, 1, none⟩ = some (.int .u64 b) := fun z => (toL _ z.h).s.snd
    have f3 : ∀ z : Held R, z.W.cell? ⟨w.heap.size + 1, 0, none⟩ = some (.int .u64 c) := fun z => (toL _ z.h).t.fst
    have f4 : ∀ z : Held R, z.W.cell? ⟨w.heap.size + 1, 1, none⟩ = some (.int .u64 d) := fun z => (toL _ z.h).t.snd
    have f5 : ∀ z : Held R, z.W.cell? ⟨p, 0, none⟩ = some (.int .u64 x) := fun z => (toL _ z.h).m.fst
    have f6 : ∀ z : Held R, z.W.cell? ⟨p, 1, none⟩ = some (.int .u64 y) := fun z => (toL _ z.h).m.snd
    have f7 : ∀ z : Held R, z.W.cell? ⟨q, 0, none⟩ = some (.int .u64 u) := fun z => (toL _ z.h).n.fst
    have f8 : ∀ z : Held R, z.W.cell? ⟨q, 1, none⟩ = some (.int .u64 v) := fun z => (toL _ z.h).n.snd
    have hRx := (show R _ from by rw [hR]; exact LR)
    clear LR hR toL M0 N0 P1 P2 HS HL HN hB
    have hne : Nonempty (Held R) := ⟨⟨_, hRx⟩⟩
    go_wp2_with fail
    refine wp_region_quiet (C := fun W => ∃ z : Held R, W = z.W) (by kernel_rfl) (by kernel_rfl) ⟨⟨_, HRC.out _ _ hRx (Below.refl _ _).drew⟩, rfl⟩ ?_
    simp only []
    repeat (quiet_step ((first | (with_reducible exact quiet_held HRC.out (U1.out _)) | (with_reducible exact quiet_held HRC.out (B1.out _)) | (with_reducible exact quiet_held HRC.out (I1.out _)) | (with_reducible exact quiet_held HRC.out (I2.out _)) | (with_reducible exact quiet_held HRC.out (U2.out _)) | (with_reducible exact quiet_held HRC.out (I3.out _)))))
    refine wpQuiet_nil ?_
    rintro w5 ⟨⟨W5, hR5⟩, rfl⟩
    have HR5 := Lib.hid hR5
    clear hR5
    go_wp2_with fail
    refine wp_region_quiet (C := fun W => ∃ z : Held R, W = z.W) (by kernel_rfl) (by kernel_rfl) ⟨⟨_, HRC.out _ _ HR5.out (Below.refl _ _).drew⟩, rfl⟩ ?_
    simp only []
    repeat (quiet_step ((first | (with_reducible exact quiet_held HRC.out (U2.out _)) | (with_reducible exact quiet_held HRC.out (C1.out _)) | (with_reducible exact quiet_held HRC.out (C2.out _)) | (with_reducible exact quiet_held HRC.out (C3.out _)) | (with_reducible exact quiet_held HRC.out (C4.out _)))))
    refine wpQuiet_nil ?_
    rintro w6 ⟨⟨W6, hR6⟩, rfl⟩
    have hB6 := HRB.out _ hR6
    go_wp2
    go_ret
    exact ⟨rfl, hB1.trans (hB6.mono (by omega))⟩

theorem laws_walk (a b c d : Int) (w : World) (G : Gl w) (h1 : 0 ≤ a) (h2 : a ≤ 18446744073709551615) (h3 : 0 ≤ b) (h4 : b ≤ 18446744073709551615) (h5 : 0 ≤ c) (h6 : c ≤ 18446744073709551615) (h7 : 0 ≤ d) (h8 : d ≤ 18446744073709551615) :
    Calls Tryd.prog 11 #[.agg #[.int .u64 a, .int .u64 b], .agg #[.int .u64 c, .int .u64 d]] w fun e w' => e = .returned (.bool true) ∧ Below w.heap.size w w' := by
  obtain ⟨x, rfl⟩ := Int.eq_ofNat_of_zero_le h1
  obtain ⟨y, rfl⟩ := Int.eq_ofNat_of_zero_le h3
  obtain ⟨u, rfl⟩ := Int.eq_ofNat_of_zero_le h5
  obtain ⟨v, rfl⟩ := Int.eq_ofNat_of_zero_le h7
  exact laws_nat x y u v (by omega) (by omega) (by omega) (by omega) w G
end Go.Proofs.YtibdnfcbgcbdeaaDoor
