/- The walk of IntervalMakes. -/
import Derived.Test.YthdoadkdofgenaaGreatDoorIvDl
namespace Go.Proofs.YthdoadkdofgenaaGreatDoor
open Go Go.RowKit Go.Shelf

theorem ne_size' (a b c d e f : Int) : ∀ W : World, (binOp .neq 25 (.agg #[.int .i64 a, .int .i64 b, .int .i64 c, .int .i64 d, .int .i64 e, .int .i64 f]) (.agg #[.int .i64 a, .int .i64 b, .int .i64 c, .int .i64 d, .int .i64 e, .int .i64 f])).run Tryz.prog W = .ok (.bool false) W := by
  intro W
  simp [go_sem]
theorem max2i (a b : Int) (W : World) : Sem.run Tryz.prog (Builtin.max2 (.int .i64 a) (.int .i64 b)) W = .ok (.int .i64 (max a b)) W := by
  simp [Builtin.max2]
  omega
theorem max4 (a b c d : Int) (W : World) : Sem.run Tryz.prog (Builtin.max_ #[3, 3, 3, 3] 3 #[.int .i64 a, .int .i64 b, .int .i64 c, .int .i64 d]) W = .ok (.int .i64 (max (max (max a b) c) d)) W := by
  simp only [Builtin.max_]
  simp [max2i, Sem.run_bind]
theorem rnamed_none {s : ByteArray} (h : nmF s = none) (w : World) : Calls Tryz.prog 25 #[.string s] w fun e w' => e = .returned (.tuple #[.agg #[.int .i64 0, .int .i64 0, .int .i64 0, .int .i64 0], .bool false]) ∧ Below w.heap.size w w' := by
  rcases rnamed_any s w with ⟨_, h2⟩ | ⟨t, x, y, z, h1, _⟩
  · exact h2
  · rw [h] at h1; cases h1
theorem rnamed_some {s t : ByteArray} {x y z : Int} (h : nmF s = some (t, x, y, z)) (w : World) : (-100 ≤ x ∧ x ≤ 100 ∧ -100 ≤ y ∧ y ≤ 100 ∧ -100 ≤ z ∧ z ≤ 100) ∧ Calls Tryz.prog 25 #[.string s] w fun e w' => e = .returned (.tuple #[.agg #[.int .i64 x, .int .i64 y, .int .i64 z, .int .i64 1], .bool true]) ∧ Below w.heap.size w w' := by
  rcases rnamed_any s w with ⟨h1, _⟩ | ⟨t', x', y', z', h1, hb, h2⟩
  · rw [h] at h1; cases h1
  · rw [h] at h1
    cases h1
    exact ⟨hb, h2⟩
theorem vp_30 {p n : Nat} (hp : 2 ≤ p) (h : 0 < n) (hn : n ≤ 1000000000) : Iv.vp p n ≤ 30 := by
  have e := Iv.rp_eq hp h
  have h1 : 2 ^ Iv.vp p n ≤ p ^ Iv.vp p n := Nat.pow_le_pow_left hp _
  have h2 := Nat.le_mul_of_pos_left (p ^ Iv.vp p n) (Iv.rp_pos hp h)
  rcases Nat.lt_or_ge 30 (Iv.vp p n) with g | g
  · have h3 : 2 ^ 31 ≤ 2 ^ Iv.vp p n := Nat.pow_le_pow_right (by decide) g
    have h4 : (2 : Nat) ^ 31 = 2147483648 := by decide
    omega
  · exact g
theorem ra_ok {n m : Nat} (hn : 0 < n) (hm : 0 < m) (hn2 : n ≤ 1000000000) (hm2 : m ≤ 1000000000) : Iv.okB (Iv.e2 n m) (Iv.e3 n m) (Iv.e5 n m) 1 = true := by
  have p1 : ∀ {k : Nat}, 0 < k → 0 < Iv.rp 2 k := fun h => Iv.rp_pos (by decide) h
  have p2 : ∀ {k : Nat}, 0 < k → 0 < Iv.rp 3 k := fun h => Iv.rp_pos (by decide) h
  have l1 : ∀ {k : Nat}, 0 < k → k ≤ 1000000000 → Iv.rp 2 k ≤ 1000000000 := fun h g => Nat.le_trans (Iv.rp_le (by decide) h) g
  have l2 : ∀ {k : Nat}, 0 < k → k ≤ 1000000000 → Iv.rp 3 k ≤ 1000000000 := fun h g => Nat.le_trans (Iv.rp_le (by decide) h) g
  have a := vp_30 (p := 2) (by decide) hn hn2
  have b := vp_30 (p := 2) (by decide) hm hm2
  have c := vp_30 (p := 3) (by decide) (p1 hn) (l1 hn hn2)
  have d := vp_30 (p := 3) (by decide) (p1 hm) (l1 hm hm2)
  have e := vp_30 (p := 5) (by decide) (p2 (p1 hn)) (l2 (p1 hn) (l1 hn hn2))
  have f := vp_30 (p := 5) (by decide) (p2 (p1 hm)) (l2 (p1 hm) (l1 hm hm2))
  unfold Iv.e2 Iv.e3 Iv.e5
  exact ok_small (by omega) (by omega) (by omega) (by decide)

def mkI (S6 O4 : Value) : Nat → Value → World → Prop
  | 0, v, _ => v = .bool true
  | 1, v, _ => v = .bool false
  | 2, v, _ => v = .bool false
  | 3, v, _ => v = undef
  | 4, v, _ => v = undef
  | 5, v, _ => v = undef
  | 6, v, _ => v = undef
  | 7, v, _ => v = undef
  | 8, v, _ => v = undef
  | 9, v, _ => v = undef
  | 10, v, _ => v = .bool false
  | 11, v, _ => v = .bool false
  | 12, v, _ => v = .bool true
  | 13, v, _ => v = .bool true
  | 14, v, _ => v = .int .i64 0
  | 15, v, _ => v = .bool false
  | 16, v, _ => v = .bool false
  | 17, v, _ => v = S6
  | 18, v, _ => v = O4
  | 19, v, _ => v = S6
  | 20, v, _ => v = .bool false
  | 21, v, _ => v = .bool false
  | 22, v, _ => v = .bool false
  | 23, v, _ => v = .bool false
  | _, _, _ => True
theorem mkI_up (S6 O4 : Value) : ∀ (j : Nat) (v : Value) (A B : World), Below A.heap.size A B → mkI S6 O4 j v A → mkI S6 O4 j v B
  | 0, _, _, _, _, h => h
  | 1, _, _, _, _, h => h
  | 2, _, _, _, _, h => h
  | 3, _, _, _, _, h => h
  | 4, _, _, _, _, h => h
  | 5, _, _, _, _, h => h
  | 6, _, _, _, _, h => h
  | 7, _, _, _, _, h => h
  | 8, _, _, _, _, h => h
  | 9, _, _, _, _, h => h
  | 10, _, _, _, _, h => h
  | 11, _, _, _, _, h => h
  | 12, _, _, _, _, h => h
  | 13, _, _, _, _, h => h
  | 14, _, _, _, _, h => h
  | 15, _, _, _, _, h => h
  | 16, _, _, _, _, h => h
  | 17, _, _, _, _, h => h
  | 18, _, _, _, _, h => h
  | 19, _, _, _, _, h => h
  | 20, _, _, _, _, h => h
  | 21, _, _, _, _, h => h
  | 22, _, _, _, _, h => h
  | 23, _, _, _, _, h => h
  | _ + 24, _, _, _, _, _ => trivial
def mlI (S6 O4 : Value) : Nat → Value → World → Prop
  | 0, v, _ => v = .int .i64 0
  | 1, v, _ => v = .bool true
  | 2, v, _ => v = .bool true
  | 3, v, _ => v = S6
  | 4, v, _ => v = O4
  | 5, v, _ => v = S6
  | 6, v, _ => v = .bool true
  | 7, v, _ => v = .bool true
  | 8, v, _ => v = .bool true
  | _, _, _ => True
theorem mlI_up (S6 O4 : Value) : ∀ (j : Nat) (v : Value) (A B : World), Below A.heap.size A B → mlI S6 O4 j v A → mlI S6 O4 j v B
  | 0, _, _, _, _, h => h
  | 1, _, _, _, _, h => h
  | 2, _, _, _, _, h => h
  | 3, _, _, _, _, h => h
  | 4, _, _, _, _, h => h
  | 5, _, _, _, _, h => h
  | 6, _, _, _, _, h => h
  | 7, _, _, _, _, h => h
  | 8, _, _, _, _, h => h
  | _ + 9, _, _, _, _, _ => trivial
theorem ra_bd {n m : Nat} (hn : 0 < n) (hm : 0 < m) (hn2 : n ≤ 1000000000) (hm2 : m ≤ 1000000000) : (-6000 ≤ Iv.e2 n m ∧ Iv.e2 n m ≤ 6000) ∧ (-6000 ≤ Iv.e3 n m ∧ Iv.e3 n m ≤ 6000) ∧ (-6000 ≤ Iv.e5 n m ∧ Iv.e5 n m ≤ 6000) := by
  have p1 : ∀ {k : Nat}, 0 < k → 0 < Iv.rp 2 k := fun h => Iv.rp_pos (by decide) h
  have p2 : ∀ {k : Nat}, 0 < k → 0 < Iv.rp 3 k := fun h => Iv.rp_pos (by decide) h
  have l1 : ∀ {k : Nat}, 0 < k → k ≤ 1000000000 → Iv.rp 2 k ≤ 1000000000 := fun h g => Nat.le_trans (Iv.rp_le (by decide) h) g
  have l2 : ∀ {k : Nat}, 0 < k → k ≤ 1000000000 → Iv.rp 3 k ≤ 1000000000 := fun h g => Nat.le_trans (Iv.rp_le (by decide) h) g
  have a := vp_30 (p := 2) (by decide) hn hn2
  have b := vp_30 (p := 2) (by decide) hm hm2
  have c := vp_30 (p := 3) (by decide) (p1 hn) (l1 hn hn2)
  have d := vp_30 (p := 3) (by decide) (p1 hm) (l1 hm hm2)
  have e := vp_30 (p := 5) (by decide) (p2 (p1 hn)) (l2 (p1 hn) (l1 hn hn2))
  have f := vp_30 (p := 5) (by decide) (p2 (p1 hm)) (l2 (p1 hm) (l1 hm hm2))
  unfold Iv.e2 Iv.e3 Iv.e5
  omega
/-- What the regions leave alone. -/
def MkR (D0 : Nat) (w : World) (l : List (Nat × Obj)) (A : World) : Prop := Below D0 w A ∧ ∀ b o, (b, o) ∈ l → A.heap[b]? = some o
theorem MkR_up (D0 : Nat) (w : World) (l : List (Nat × Obj)) (A B : World) (hb : Below A.heap.size A B) (h : MkR D0 w l A) (hD : D0 ≤ A.heap.size) : MkR D0 w l B :=
  ⟨h.1.trans (hb.mono hD), fun b o hm => (hb.block b (Array.getElem?_eq_some_iff.1 (h.2 b o hm)).1).trans (h.2 b o hm)⟩

set_option maxRecDepth 100000 in
set_option maxHeartbeats 32000000 in
theorem makes_walk (x0 x1 x2 r0 r1 : Int) (s : ByteArray) (hx0 : -9223372036854775808 ≤ x0 ∧ x0 ≤ 9223372036854775807) (hx1 : -9223372036854775808 ≤ x1 ∧ x1 ≤ 9223372036854775807) (hx2 : -9223372036854775808 ≤ x2 ∧ x2 ≤ 9223372036854775807) (hr0 : -9223372036854775808 ≤ r0 ∧ r0 ≤ 9223372036854775807) (hr1 : -9223372036854775808 ≤ r1 ∧ r1 ≤ 9223372036854775807) (w : World) (G : Gi w) (N : Nm w) :
    Calls Tryz.prog 4 #[.agg #[.int .i64 x0, .int .i64 x1, .int .i64 x2], .agg #[.int .i64 r0, .int .i64 r1], .string s] w fun e w' => e = .returned (.bool true) ∧ Below w.heap.size w w' := by
  have KN := Lib.hid (fun W (G : Gi W) (N : Nm W) => lknown_any W G N)
  obtain ⟨D, hD⟩ : ∃ D, w.heap.size = D := ⟨_, rfl⟩
  by_cases hlen : 40 < s.size
  · have hlen_ : (40 : Int) < (s.size : Int) := by omega
    go_enter Tryz.func4, Tryz.ntmps4
    have G1 : Gi ((w.alloc (.cells #[.int .i64 x0, .int .i64 x1, .int .i64 x2] 27)).alloc (.cells #[.int .i64 r0, .int .i64 r1] 44)) := G.below (by rw [hD]; exact (((Below.refl _ w).alloc (by first | omega | (simp; omega)) (.cells #[.int .i64 x0, .int .i64 x1, .int .i64 x2] 27)).alloc (by first | omega | (simp; omega)) (.cells #[.int .i64 r0, .int .i64 r1] 44)))
    have N1 : Nm ((w.alloc (.cells #[.int .i64 x0, .int .i64 x1, .int .i64 x2] 27)).alloc (.cells #[.int .i64 r0, .int .i64 r1] 44)) := N.below (by rw [hD]; exact (((Below.refl _ w).alloc (by first | omega | (simp; omega)) (.cells #[.int .i64 x0, .int .i64 x1, .int .i64 x2] 27)).alloc (by first | omega | (simp; omega)) (.cells #[.int .i64 r0, .int .i64 r1] 44)))
    go_wp2_with fail
    refine (KN.out _ G1 N1).mono ?_
    rintro e v1 ⟨rfl, hb_v1⟩
    have cX_v1 : v1.heap[D]? = some (.cells #[.int .i64 x0, .int .i64 x1, .int .i64 x2] 27) := (hb_v1.block (D) (Array.getElem?_eq_some_iff.1 (show ((w.alloc (.cells #[.int .i64 x0, .int .i64 x1, .int .i64 x2] 27)).alloc (.cells #[.int .i64 r0, .int .i64 r1] 44)).heap[D]? = some (.cells #[.int .i64 x0, .int .i64 x1, .int .i64 x2] 27) from (heap_old (o := .cells #[.int .i64 r0, .int .i64 r1] 44) (heap_new (by first | omega | (simp; omega)))))).1).trans (heap_old (o := .cells #[.int .i64 r0, .int .i64 r1] 44) (heap_new (by first | omega | (simp; omega))))
    have cR_v1 : v1.heap[D + 1]? = some (.cells #[.int .i64 r0, .int .i64 r1] 44) := (hb_v1.block (D + 1) (Array.getElem?_eq_some_iff.1 (show ((w.alloc (.cells #[.int .i64 x0, .int .i64 x1, .int .i64 x2] 27)).alloc (.cells #[.int .i64 r0, .int .i64 r1] 44)).heap[D + 1]? = some (.cells #[.int .i64 r0, .int .i64 r1] 44) from (heap_new (by first | omega | (simp; omega))))).1).trans (heap_new (by first | omega | (simp; omega)))
    have hw_v1 : Below D w v1 := ((((Below.refl _ w).alloc (by first | omega | (simp; omega)) (.cells #[.int .i64 x0, .int .i64 x1, .int .i64 x2] 27)).alloc (by first | omega | (simp; omega)) (.cells #[.int .i64 r0, .int .i64 r1] 44))).trans (hb_v1.mono (by first | omega | (simp; omega)))
    clear hb_v1
    have G2 : Gi v1 := G.below (by rw [hD]; exact hw_v1)
    have N2 : Nm v1 := N.below (by rw [hD]; exact hw_v1)
    go_wp2_with fail
    refine (KN.out _ G2 N2).mono ?_
    rintro e v2 ⟨rfl, hb_v2⟩
    have hs_v2 := hw_v1.size
    have cX_v2 : v2.heap[D]? = some (.cells #[.int .i64 x0, .int .i64 x1, .int .i64 x2] 27) := (hb_v2.block (D) (Array.getElem?_eq_some_iff.1 (show v1.heap[D]? = some (.cells #[.int .i64 x0, .int .i64 x1, .int .i64 x2] 27) from cX_v1)).1).trans cX_v1
    have cR_v2 : v2.heap[D + 1]? = some (.cells #[.int .i64 r0, .int .i64 r1] 44) := (hb_v2.block (D + 1) (Array.getElem?_eq_some_iff.1 (show v1.heap[D + 1]? = some (.cells #[.int .i64 r0, .int .i64 r1] 44) from cR_v1)).1).trans cR_v1
    have hw_v2 : Below D w v2 := (hw_v1).trans (hb_v2.mono (by first | omega | (simp; omega)))
    clear cX_v1 cR_v1 hb_v2 hw_v1 hs_v2
    have HW := Lib.hid (hw_v2)
    go_wp2
    go_ret
    exact ⟨rfl, by first | exact HW.out | (rw [hD]; exact HW.out)⟩
  · have hlen_ : ¬ (40 : Int) < (s.size : Int) := by omega
    go_enter Tryz.func4, Tryz.ntmps4
    have G1 : Gi ((w.alloc (.cells #[.int .i64 x0, .int .i64 x1, .int .i64 x2] 27)).alloc (.cells #[.int .i64 r0, .int .i64 r1] 44)) := G.below (by rw [hD]; exact (((Below.refl _ w).alloc (by first | omega | (simp; omega)) (.cells #[.int .i64 x0, .int .i64 x1, .int .i64 x2] 27)).alloc (by first | omega | (simp; omega)) (.cells #[.int .i64 r0, .int .i64 r1] 44)))
    have N1 : Nm ((w.alloc (.cells #[.int .i64 x0, .int .i64 x1, .int .i64 x2] 27)).alloc (.cells #[.int .i64 r0, .int .i64 r1] 44)) := N.below (by rw [hD]; exact (((Below.refl _ w).alloc (by first | omega | (simp; omega)) (.cells #[.int .i64 x0, .int .i64 x1, .int .i64 x2] 27)).alloc (by first | omega | (simp; omega)) (.cells #[.int .i64 r0, .int .i64 r1] 44)))
    go_wp2_with fail
    refine (KN.out _ G1 N1).mono ?_
    rintro e v1 ⟨rfl, hb_v1⟩
    have cX_v1 : v1.heap[D]? = some (.cells #[.int .i64 x0, .int .i64 x1, .int .i64 x2] 27) := (hb_v1.block (D) (Array.getElem?_eq_some_iff.1 (show ((w.alloc (.cells #[.int .i64 x0, .int .i64 x1, .int .i64 x2] 27)).alloc (.cells #[.int .i64 r0, .int .i64 r1] 44)).heap[D]? = some (.cells #[.int .i64 x0, .int .i64 x1, .int .i64 x2] 27) from (heap_old (o := .cells #[.int .i64 r0, .int .i64 r1] 44) (heap_new (by first | omega | (simp; omega)))))).1).trans (heap_old (o := .cells #[.int .i64 r0, .int .i64 r1] 44) (heap_new (by first | omega | (simp; omega))))
    have cR_v1 : v1.heap[D + 1]? = some (.cells #[.int .i64 r0, .int .i64 r1] 44) := (hb_v1.block (D + 1) (Array.getElem?_eq_some_iff.1 (show ((w.alloc (.cells #[.int .i64 x0, .int .i64 x1, .int .i64 x2] 27)).alloc (.cells #[.int .i64 r0, .int .i64 r1] 44)).heap[D + 1]? = some (.cells #[.int .i64 r0, .int .i64 r1] 44) from (heap_new (by first | omega | (simp; omega))))).1).trans (heap_new (by first | omega | (simp; omega)))
    have hw_v1 : Below D w v1 := ((((Below.refl _ w).alloc (by first | omega | (simp; omega)) (.cells #[.int .i64 x0, .int .i64 x1, .int .i64 x2] 27)).alloc (by first | omega | (simp; omega)) (.cells #[.int .i64 r0, .int .i64 r1] 44))).trans (hb_v1.mono (by first | omega | (simp; omega)))
    clear hb_v1
    go_wp2_with fail
    go_loopw [7] (fun i wr => ((i = .int .i64 0) ∨ (i = .int .i64 1 ∧ (-100000 ≤ x0 ∧ x0 ≤ 100000)) ∨ (i = .int .i64 2 ∧ (-100000 ≤ x0 ∧ x0 ≤ 100000) ∧ (-100000 ≤ x1 ∧ x1 ≤ 100000)) ∨ (i = .int .i64 3 ∧ (-100000 ≤ x0 ∧ x0 ≤ 100000) ∧ (-100000 ≤ x1 ∧ x1 ≤ 100000) ∧ (-100000 ≤ x2 ∧ x2 ≤ 100000))) ∧ Below D w wr ∧ wr.heap[D]? = some (.cells #[.int .i64 x0, .int .i64 x1, .int .i64 x2] 27) ∧ wr.heap[D + 1]? = some (.cells #[.int .i64 r0, .int .i64 r1] 44)) (fun i _ => 3 - (intOf i).toNat)
    case atStart => exact ⟨.inl rfl, hw_v1, cX_v1, cR_v1⟩
    case round =>
      clear hw_v1 cX_v1 cR_v1
      obtain ⟨hi, hw, hx, hr⟩ := hrel
      rcases hi with rfl | ⟨rfl, i0⟩ | ⟨rfl, i0, i1⟩ | ⟨rfl, i0, i1, i2⟩
      · have y0 := cell3_0 hx
        have y1 := cell3_1 hx
        have y2 := cell3_2 hx
        by_cases g : 100000 < x0
        · have HW := Lib.hid hw
          go_wp2
          go_ret
          exact ⟨rfl, by first | exact HW.out | (rw [hD]; exact HW.out)⟩
        · by_cases g2 : x0 < -100000
          · have HW := Lib.hid hw
            go_wp2
            go_ret
            exact ⟨rfl, by first | exact HW.out | (rw [hD]; exact HW.out)⟩
          · have HW := Lib.hid hw
            have HX := Lib.hid hx
            have HR := Lib.hid hr
            clear hw hx hr
            go_wp2
            exact ⟨⟨.inr (.inl ⟨rfl, (by omega)⟩), HW.out, HX.out, HR.out⟩, by decide⟩
      · have y0 := cell3_0 hx
        have y1 := cell3_1 hx
        have y2 := cell3_2 hx
        by_cases g : 100000 < x1
        · have HW := Lib.hid hw
          go_wp2
          go_ret
          exact ⟨rfl, by first | exact HW.out | (rw [hD]; exact HW.out)⟩
        · by_cases g2 : x1 < -100000
          · have HW := Lib.hid hw
            go_wp2
            go_ret
            exact ⟨rfl, by first | exact HW.out | (rw [hD]; exact HW.out)⟩
          · have HW := Lib.hid hw
            have HX := Lib.hid hx
            have HR := Lib.hid hr
            clear hw hx hr
            go_wp2
            exact ⟨⟨.inr (.inr (.inl ⟨rfl, (by omega), (by omega)⟩)), HW.out, HX.out, HR.out⟩, by decide⟩
      · have y0 := cell3_0 hx
        have y1 := cell3_1 hx
        have y2 := cell3_2 hx
        by_cases g : 100000 < x2
        · have HW := Lib.hid hw
          go_wp2
          go_ret
          exact ⟨rfl, by first | exact HW.out | (rw [hD]; exact HW.out)⟩
        · by_cases g2 : x2 < -100000
          · have HW := Lib.hid hw
            go_wp2
            go_ret
            exact ⟨rfl, by first | exact HW.out | (rw [hD]; exact HW.out)⟩
          · have HW := Lib.hid hw
            have HX := Lib.hid hx
            have HR := Lib.hid hr
            clear hw hx hr
            go_wp2
            exact ⟨⟨.inr (.inr (.inr ⟨rfl, (by omega), (by omega), (by omega)⟩)), HW.out, HX.out, HR.out⟩, by decide⟩
      · have OFC := Lib.hid (fun W => ivof_any x0 x1 x2 W (by omega) (by omega) (by omega) (by omega) (by omega) (by omega))
        have RIC := Lib.hid (fun W => show Calls Tryz.prog 23 #[.agg #[.int .i64 x0, .int .i64 x1, .int .i64 x2, .int .i64 1]] W fun e w' => e = .returned (.tuple #[.agg #[.int .i64 (szN x0 x0 x1 x2 1), .int .i64 (szD x0 x0 x1 x2 1), .int .i64 (szN x1 x0 x1 x2 1), .int .i64 (szD x1 x0 x1 x2 1), .int .i64 (szN x2 x0 x1 x2 1), .int .i64 (szD x2 x0 x1 x2 1)], .int .i64 (szE x0 x1 x2 1)]) ∧ Below W.heap.size W w' from lright_any x0 x1 x2 1 W (by omega) (by omega) (by omega) (by omega) (by omega) (by omega) (by decide) (by decide))
        generalize szN x0 x0 x1 x2 1 = s0 at *
        generalize szD x0 x0 x1 x2 1 = s1 at *
        generalize szN x1 x0 x1 x2 1 = s2 at *
        generalize szD x1 x0 x1 x2 1 = s3 at *
        generalize szN x2 x0 x1 x2 1 = s4 at *
        generalize szD x2 x0 x1 x2 1 = s5 at *
        generalize szE x0 x1 x2 1 = sE at *
        clear i0 i1 i2
        have hns := ne_size' s0 s1 s2 s3 s4 s5
        have hnz := ne_size' 0 0 0 0 0 0
        have hez := eq_size 0 0 0 0 0 0
        have NMC := Lib.hid (fun W N => ivnamed_any s W N)
        obtain ⟨nf, hnf⟩ : ∃ o, nmF s = o := ⟨_, rfl⟩
        cases nf with
        | none =>
          obtain ⟨g0_, g1_, g2_, g3_, g4_, g5_, g6_⟩ := nmV_none hnf
          simp only [g0_, g1_, g2_, g3_, g4_, g5_, g6_] at NMC
          have RNC := Lib.hid (fun W => rnamed_none hnf W)
          clear g0_ g1_ g2_ g3_ g4_ g5_ g6_ hnf
          have ld71 : wr.heap[D]? = some (.cells #[.int .i64 x0, .int .i64 x1, .int .i64 x2] 27) := hx
          have y71_0 := cell3_0 ld71
          have y71_1 := cell3_1 ld71
          have y71_2 := cell3_2 ld71
          clear ld71
          go_wp2_with fail
          refine (OFC.out _).mono ?_
          rintro e v72 ⟨rfl, hb_v72⟩
          have hs_v72 := hw.size
          have cX_v72 : v72.heap[D]? = some (.cells #[.int .i64 x0, .int .i64 x1, .int .i64 x2] 27) := (hb_v72.block (D) (Array.getElem?_eq_some_iff.1 (show wr.heap[D]? = some (.cells #[.int .i64 x0, .int .i64 x1, .int .i64 x2] 27) from hx)).1).trans hx
          have cR_v72 : v72.heap[D + 1]? = some (.cells #[.int .i64 r0, .int .i64 r1] 44) := (hb_v72.block (D + 1) (Array.getElem?_eq_some_iff.1 (show wr.heap[D + 1]? = some (.cells #[.int .i64 r0, .int .i64 r1] 44) from hr)).1).trans hr
          have hw_v72 : Below D w v72 := (hw).trans (hb_v72.mono (by first | omega | (simp; omega)))
          clear hx hr hb_v72 y71_0 y71_1 y71_2 hw hs_v72
          obtain ⟨ES, hES⟩ : ∃ E, v72.heap.size = E := ⟨_, rfl⟩
          have ld73 : (v72.alloc (.cells #[.int .i64 s0, .int .i64 s1, .int .i64 s2, .int .i64 s3, .int .i64 s4, .int .i64 s5] 25)).heap[D]? = some (.cells #[.int .i64 x0, .int .i64 x1, .int .i64 x2] 27) := (heap_old (o := .cells #[.int .i64 s0, .int .i64 s1, .int .i64 s2, .int .i64 s3, .int .i64 s4, .int .i64 s5] 25) cX_v72)
          have y73_0 := cell3_0 ld73
          have y73_1 := cell3_1 ld73
          have y73_2 := cell3_2 ld73
          clear ld73
          go_wp2_with fail
          refine (RIC.out _).mono ?_
          rintro e v74 ⟨rfl, hb_v74⟩
          have hs_v74 := hw_v72.size
          have cX_v74 : v74.heap[D]? = some (.cells #[.int .i64 x0, .int .i64 x1, .int .i64 x2] 27) := (hb_v74.block (D) (Array.getElem?_eq_some_iff.1 (show (v72.alloc (.cells #[.int .i64 s0, .int .i64 s1, .int .i64 s2, .int .i64 s3, .int .i64 s4, .int .i64 s5] 25)).heap[D]? = some (.cells #[.int .i64 x0, .int .i64 x1, .int .i64 x2] 27) from (heap_old (o := .cells #[.int .i64 s0, .int .i64 s1, .int .i64 s2, .int .i64 s3, .int .i64 s4, .int .i64 s5] 25) cX_v72))).1).trans (heap_old (o := .cells #[.int .i64 s0, .int .i64 s1, .int .i64 s2, .int .i64 s3, .int .i64 s4, .int .i64 s5] 25) cX_v72)
          have cR_v74 : v74.heap[D + 1]? = some (.cells #[.int .i64 r0, .int .i64 r1] 44) := (hb_v74.block (D + 1) (Array.getElem?_eq_some_iff.1 (show (v72.alloc (.cells #[.int .i64 s0, .int .i64 s1, .int .i64 s2, .int .i64 s3, .int .i64 s4, .int .i64 s5] 25)).heap[D + 1]? = some (.cells #[.int .i64 r0, .int .i64 r1] 44) from (heap_old (o := .cells #[.int .i64 s0, .int .i64 s1, .int .i64 s2, .int .i64 s3, .int .i64 s4, .int .i64 s5] 25) cR_v72))).1).trans (heap_old (o := .cells #[.int .i64 s0, .int .i64 s1, .int .i64 s2, .int .i64 s3, .int .i64 s4, .int .i64 s5] 25) cR_v72)
          have cS_v74 : v74.heap[ES]? = some (.cells #[.int .i64 s0, .int .i64 s1, .int .i64 s2, .int .i64 s3, .int .i64 s4, .int .i64 s5] 25) := (hb_v74.block (ES) (Array.getElem?_eq_some_iff.1 (show (v72.alloc (.cells #[.int .i64 s0, .int .i64 s1, .int .i64 s2, .int .i64 s3, .int .i64 s4, .int .i64 s5] 25)).heap[ES]? = some (.cells #[.int .i64 s0, .int .i64 s1, .int .i64 s2, .int .i64 s3, .int .i64 s4, .int .i64 s5] 25) from (heap_new (by first | omega | (simp; omega))))).1).trans (heap_new (by first | omega | (simp; omega)))
          have hw_v74 : Below D w v74 := ((hw_v72.alloc (by have := hw_v72.size; first | omega | (simp; omega)) (.cells #[.int .i64 s0, .int .i64 s1, .int .i64 s2, .int .i64 s3, .int .i64 s4, .int .i64 s5] 25))).trans (hb_v74.mono (by first | omega | (simp; omega)))
          clear cX_v72 cR_v72 hb_v74 y73_0 y73_1 y73_2 hw_v72 hs_v74
          obtain ⟨ET, hET⟩ : ∃ E, v74.heap.size = E := ⟨_, rfl⟩
          have N3 : Nm (v74.alloc (.cells #[.int .i64 s0, .int .i64 s1, .int .i64 s2, .int .i64 s3, .int .i64 s4, .int .i64 s5] 25)) := N.below (by rw [hD]; exact (hw_v74.alloc (by have := hw_v74.size; first | omega | (simp; omega)) (.cells #[.int .i64 s0, .int .i64 s1, .int .i64 s2, .int .i64 s3, .int .i64 s4, .int .i64 s5] 25)))
          have ld75 : (v74.alloc (.cells #[.int .i64 s0, .int .i64 s1, .int .i64 s2, .int .i64 s3, .int .i64 s4, .int .i64 s5] 25)).heap[ES]? = some (.cells #[.int .i64 s0, .int .i64 s1, .int .i64 s2, .int .i64 s3, .int .i64 s4, .int .i64 s5] 25) := (heap_old (o := .cells #[.int .i64 s0, .int .i64 s1, .int .i64 s2, .int .i64 s3, .int .i64 s4, .int .i64 s5] 25) cS_v74)
          have y75_0 := cell6_0 ld75
          have y75_1 := cell6_1 ld75
          have y75_2 := cell6_2 ld75
          have y75_3 := cell6_3 ld75
          have y75_4 := cell6_4 ld75
          have y75_5 := cell6_5 ld75
          clear ld75
          have ld76 : (v74.alloc (.cells #[.int .i64 s0, .int .i64 s1, .int .i64 s2, .int .i64 s3, .int .i64 s4, .int .i64 s5] 25)).heap[ET]? = some (.cells #[.int .i64 s0, .int .i64 s1, .int .i64 s2, .int .i64 s3, .int .i64 s4, .int .i64 s5] 25) := (heap_new (by first | omega | (simp; omega)))
          have y76_0 := cell6_0 ld76
          have y76_1 := cell6_1 ld76
          have y76_2 := cell6_2 ld76
          have y76_3 := cell6_3 ld76
          have y76_4 := cell6_4 ld76
          have y76_5 := cell6_5 ld76
          clear ld76
          go_wp2_with fail
          refine (NMC.out _ N3).mono ?_
          rintro e v77 ⟨rfl, hb_v77⟩
          have hs_v77 := hw_v74.size
          have cX_v77 : v77.heap[D]? = some (.cells #[.int .i64 x0, .int .i64 x1, .int .i64 x2] 27) := (hb_v77.block (D) (Array.getElem?_eq_some_iff.1 (show (v74.alloc (.cells #[.int .i64 s0, .int .i64 s1, .int .i64 s2, .int .i64 s3, .int .i64 s4, .int .i64 s5] 25)).heap[D]? = some (.cells #[.int .i64 x0, .int .i64 x1, .int .i64 x2] 27) from (heap_old (o := .cells #[.int .i64 s0, .int .i64 s1, .int .i64 s2, .int .i64 s3, .int .i64 s4, .int .i64 s5] 25) cX_v74))).1).trans (heap_old (o := .cells #[.int .i64 s0, .int .i64 s1, .int .i64 s2, .int .i64 s3, .int .i64 s4, .int .i64 s5] 25) cX_v74)
          have cR_v77 : v77.heap[D + 1]? = some (.cells #[.int .i64 r0, .int .i64 r1] 44) := (hb_v77.block (D + 1) (Array.getElem?_eq_some_iff.1 (show (v74.alloc (.cells #[.int .i64 s0, .int .i64 s1, .int .i64 s2, .int .i64 s3, .int .i64 s4, .int .i64 s5] 25)).heap[D + 1]? = some (.cells #[.int .i64 r0, .int .i64 r1] 44) from (heap_old (o := .cells #[.int .i64 s0, .int .i64 s1, .int .i64 s2, .int .i64 s3, .int .i64 s4, .int .i64 s5] 25) cR_v74))).1).trans (heap_old (o := .cells #[.int .i64 s0, .int .i64 s1, .int .i64 s2, .int .i64 s3, .int .i64 s4, .int .i64 s5] 25) cR_v74)
          have cS_v77 : v77.heap[ES]? = some (.cells #[.int .i64 s0, .int .i64 s1, .int .i64 s2, .int .i64 s3, .int .i64 s4, .int .i64 s5] 25) := (hb_v77.block (ES) (Array.getElem?_eq_some_iff.1 (show (v74.alloc (.cells #[.int .i64 s0, .int .i64 s1, .int .i64 s2, .int .i64 s3, .int .i64 s4, .int .i64 s5] 25)).heap[ES]? = some (.cells #[.int .i64 s0, .int .i64 s1, .int .i64 s2, .int .i64 s3, .int .i64 s4, .int .i64 s5] 25) from (heap_old (o := .cells #[.int .i64 s0, .int .i64 s1, .int .i64 s2, .int .i64 s3, .int .i64 s4, .int .i64 s5] 25) cS_v74))).1).trans (heap_old (o := .cells #[.int .i64 s0, .int .i64 s1, .int .i64 s2, .int .i64 s3, .int .i64 s4, .int .i64 s5] 25) cS_v74)
          have cT_v77 : v77.heap[ET]? = some (.cells #[.int .i64 s0, .int .i64 s1, .int .i64 s2, .int .i64 s3, .int .i64 s4, .int .i64 s5] 25) := (hb_v77.block (ET) (Array.getElem?_eq_some_iff.1 (show (v74.alloc (.cells #[.int .i64 s0, .int .i64 s1, .int .i64 s2, .int .i64 s3, .int .i64 s4, .int .i64 s5] 25)).heap[ET]? = some (.cells #[.int .i64 s0, .int .i64 s1, .int .i64 s2, .int .i64 s3, .int .i64 s4, .int .i64 s5] 25) from (heap_new (by first | omega | (simp; omega))))).1).trans (heap_new (by first | omega | (simp; omega)))
          have hw_v77 : Below D w v77 := ((hw_v74.alloc (by have := hw_v74.size; first | omega | (simp; omega)) (.cells #[.int .i64 s0, .int .i64 s1, .int .i64 s2, .int .i64 s3, .int .i64 s4, .int .i64 s5] 25))).trans (hb_v77.mono (by first | omega | (simp; omega)))
          clear cX_v74 cR_v74 cS_v74 hb_v77 y75_0 y75_1 y75_2 y75_3 y75_4 y75_5 y76_0 y76_1 y76_2 y76_3 y76_4 y76_5 hw_v74 hs_v77
          obtain ⟨EM, hEM⟩ : ∃ E, v77.heap.size = E := ⟨_, rfl⟩
          go_wp2_with fail
          refine (RNC.out _).mono ?_
          rintro e v78 ⟨rfl, hb_v78⟩
          have hs_v78 := hw_v77.size
          have cX_v78 : v78.heap[D]? = some (.cells #[.int .i64 x0, .int .i64 x1, .int .i64 x2] 27) := (hb_v78.block (D) (Array.getElem?_eq_some_iff.1 (show (v77.alloc (.cells #[.int .i64 0, .int .i64 0, .int .i64 0, .int .i64 0, .int .i64 0, .int .i64 0] 25)).heap[D]? = some (.cells #[.int .i64 x0, .int .i64 x1, .int .i64 x2] 27) from (heap_old (o := .cells #[.int .i64 0, .int .i64 0, .int .i64 0, .int .i64 0, .int .i64 0, .int .i64 0] 25) cX_v77))).1).trans (heap_old (o := .cells #[.int .i64 0, .int .i64 0, .int .i64 0, .int .i64 0, .int .i64 0, .int .i64 0] 25) cX_v77)
          have cR_v78 : v78.heap[D + 1]? = some (.cells #[.int .i64 r0, .int .i64 r1] 44) := (hb_v78.block (D + 1) (Array.getElem?_eq_some_iff.1 (show (v77.alloc (.cells #[.int .i64 0, .int .i64 0, .int .i64 0, .int .i64 0, .int .i64 0, .int .i64 0] 25)).heap[D + 1]? = some (.cells #[.int .i64 r0, .int .i64 r1] 44) from (heap_old (o := .cells #[.int .i64 0, .int .i64 0, .int .i64 0, .int .i64 0, .int .i64 0, .int .i64 0] 25) cR_v77))).1).trans (heap_old (o := .cells #[.int .i64 0, .int .i64 0, .int .i64 0, .int .i64 0, .int .i64 0, .int .i64 0] 25) cR_v77)
          have cS_v78 : v78.heap[ES]? = some (.cells #[.int .i64 s0, .int .i64 s1, .int .i64 s2, .int .i64 s3, .int .i64 s4, .int .i64 s5] 25) := (hb_v78.block (ES) (Array.getElem?_eq_some_iff.1 (show (v77.alloc (.cells #[.int .i64 0, .int .i64 0, .int .i64 0, .int .i64 0, .int .i64 0, .int .i64 0] 25)).heap[ES]? = some (.cells #[.int .i64 s0, .int .i64 s1, .int .i64 s2, .int .i64 s3, .int .i64 s4, .int .i64 s5] 25) from (heap_old (o := .cells #[.int .i64 0, .int .i64 0, .int .i64 0, .int .i64 0, .int .i64 0, .int .i64 0] 25) cS_v77))).1).trans (heap_old (o := .cells #[.int .i64 0, .int .i64 0, .int .i64 0, .int .i64 0, .int .i64 0, .int .i64 0] 25) cS_v77)
          have cT_v78 : v78.heap[ET]? = some (.cells #[.int .i64 s0, .int .i64 s1, .int .i64 s2, .int .i64 s3, .int .i64 s4, .int .i64 s5] 25) := (hb_v78.block (ET) (Array.getElem?_eq_some_iff.1 (show (v77.alloc (.cells #[.int .i64 0, .int .i64 0, .int .i64 0, .int .i64 0, .int .i64 0, .int .i64 0] 25)).heap[ET]? = some (.cells #[.int .i64 s0, .int .i64 s1, .int .i64 s2, .int .i64 s3, .int .i64 s4, .int .i64 s5] 25) from (heap_old (o := .cells #[.int .i64 0, .int .i64 0, .int .i64 0, .int .i64 0, .int .i64 0, .int .i64 0] 25) cT_v77))).1).trans (heap_old (o := .cells #[.int .i64 0, .int .i64 0, .int .i64 0, .int .i64 0, .int .i64 0, .int .i64 0] 25) cT_v77)
          have cM_v78 : v78.heap[EM]? = some (.cells #[.int .i64 0, .int .i64 0, .int .i64 0, .int .i64 0, .int .i64 0, .int .i64 0] 25) := (hb_v78.block (EM) (Array.getElem?_eq_some_iff.1 (show (v77.alloc (.cells #[.int .i64 0, .int .i64 0, .int .i64 0, .int .i64 0, .int .i64 0, .int .i64 0] 25)).heap[EM]? = some (.cells #[.int .i64 0, .int .i64 0, .int .i64 0, .int .i64 0, .int .i64 0, .int .i64 0] 25) from (heap_new (by first | omega | (simp; omega))))).1).trans (heap_new (by first | omega | (simp; omega)))
          have hw_v78 : Below D w v78 := ((hw_v77.alloc (by have := hw_v77.size; first | omega | (simp; omega)) (.cells #[.int .i64 0, .int .i64 0, .int .i64 0, .int .i64 0, .int .i64 0, .int .i64 0] 25))).trans (hb_v78.mono (by first | omega | (simp; omega)))
          clear cX_v77 cR_v77 cS_v77 cT_v77 hb_v78 hw_v77 hs_v78
          obtain ⟨EO, hEO⟩ : ∃ E, v78.heap.size = E := ⟨_, rfl⟩
          clear OFC RIC NMC RNC
          obtain ⟨Z, hZ⟩ : ∃ Z, (v78.alloc (.cells #[.int .i64 0, .int .i64 0, .int .i64 0, .int .i64 0] 29)) = Z := ⟨_, rfl⟩
          have hwZ : Below D w Z := by rw [← hZ]; exact (hw_v78.alloc (by have := hw_v78.size; first | omega | (simp; omega)) (.cells #[.int .i64 0, .int .i64 0, .int .i64 0, .int .i64 0] 29))
          have hRZ : Z.heap[D + 1]? = some (.cells #[.int .i64 r0, .int .i64 r1] 44) := by rw [← hZ]; exact (heap_old (o := .cells #[.int .i64 0, .int .i64 0, .int .i64 0, .int .i64 0] 29) cR_v78)
          have hMZ : Z.heap[EM]? = some (.cells #[.int .i64 0, .int .i64 0, .int .i64 0, .int .i64 0, .int .i64 0, .int .i64 0] 25) := by rw [← hZ]; exact (heap_old (o := .cells #[.int .i64 0, .int .i64 0, .int .i64 0, .int .i64 0] 29) cM_v78)
          have hOZ : Z.heap[EO]? = some (.cells #[.int .i64 0, .int .i64 0, .int .i64 0, .int .i64 0] 29) := by rw [← hZ]; exact (heap_new (by first | omega | (simp; omega)))
          have nMO : EM ≠ EO := by rw [← hEO]; exact Nat.ne_of_lt (Array.getElem?_eq_some_iff.1 cM_v78).1
          have hDO : D + 1 < EO := by rw [← hEO]; exact (Array.getElem?_eq_some_iff.1 cR_v78).1
          have HZH := Lib.hid hZ
          clear hZ cX_v78 cR_v78 cS_v78 cT_v78 cM_v78 hw_v78
          go_wp2_with fail
          rw [HZH.out]
          have ym0 := cell6_0 hMZ
          have ym1 := cell6_1 hMZ
          have ym2 := cell6_2 hMZ
          have ym3 := cell6_3 hMZ
          have ym4 := cell6_4 hMZ
          have ym5 := cell6_5 hMZ
          go_upto_region 16 with (go_quiet (fail))
          obtain ⟨Z2, hZ2⟩ : ∃ Z2, Z.drewN nq = Z2 := ⟨_, rfl⟩
          have hw8 : Below D w Z2 := by rw [← hZ2]; exact ⟨hwZ.os, hwZ.tape, hwZ.output, hwZ.size, hwZ.block⟩
          have hR8_ : Z2.heap[D + 1]? = some (.cells #[.int .i64 r0, .int .i64 r1] 44) := by rw [← hZ2]; exact hRZ
          have hO8 : Z2.heap[EO]? = some (.cells #[.int .i64 0, .int .i64 0, .int .i64 0, .int .i64 0] 29) := by rw [← hZ2]; exact hOZ
          rw [hZ2]
          clear hZ2 hwZ hRZ hMZ hOZ HZH ym0 ym1 ym2 ym3 ym4 ym5
          obtain ⟨m0, hm0⟩ : ∃ m, IntKind.i64.wrap (-r0) = m := ⟨_, rfl⟩
          obtain ⟨m1, hm1⟩ : ∃ m, IntKind.i64.wrap (-r1) = m := ⟨_, rfl⟩
          have km0 : (m0 = -r0 ∨ r0 = -9223372036854775808 ∧ m0 = r0) := by
            by_cases h : r0 = -9223372036854775808
            · right; refine ⟨h, ?_⟩; rw [← hm0, h]; decide
            · left; rw [← hm0]; exact wrap_in (by omega) (by omega)
          have km1 : (m1 = -r1 ∨ r1 = -9223372036854775808 ∧ m1 = r1) := by
            by_cases h : r1 = -9223372036854775808
            · right; refine ⟨h, ?_⟩; rw [← hm1, h]; decide
            · left; rw [← hm1]; exact wrap_in (by omega) (by omega)
          have mxf := max4 r0 m0 r1 m1
          have ya := cell2_0 hR8_
          have yb := cell2_1 hR8_
          by_cases big : 1000000000 < r0 ∨ 1000000000 < m0 ∨ 1000000000 < r1 ∨ 1000000000 < m1
          · have HW := Lib.hid hw8
            have mx : 1000000000 < max (max (max r0 m0) r1) m1 := by omega
            go_wp2
            go_ret
            exact ⟨rfl, by first | exact HW.out | (rw [hD]; exact HW.out)⟩
          · have mx : ¬ 1000000000 < max (max (max r0 m0) r1) m1 := by omega
            by_cases bad : r0 < 1 ∨ r1 < 1
            · have RE := Lib.hid (fun W => ivratio_err r0 r1 W bad)
              go_wp2_with fail
              refine (RE.out _).mono ?_
              rintro e v101 ⟨rfl, hb_v101⟩
              have hs_v101 := hw8.size
              have cR_v101 : v101.heap[D + 1]? = some (.cells #[.int .i64 r0, .int .i64 r1] 44) := (hb_v101.block (D + 1) (Array.getElem?_eq_some_iff.1 (show Z2.heap[D + 1]? = some (.cells #[.int .i64 r0, .int .i64 r1] 44) from hR8_)).1).trans hR8_
              have hw_v101 : Below D w v101 := (hw8).trans (hb_v101.mono (by first | omega | (simp; omega)))
              clear hR8_ hb_v101 hw8 hs_v101
              obtain ⟨EU, hEU⟩ : ∃ E, v101.heap.size = E := ⟨_, rfl⟩
              have ld102 : (v101.alloc (.cells #[.int .i64 0, .int .i64 0, .int .i64 0, .int .i64 0, .int .i64 0, .int .i64 0] 25)).heap[D + 1]? = some (.cells #[.int .i64 r0, .int .i64 r1] 44) := (heap_old (o := .cells #[.int .i64 0, .int .i64 0, .int .i64 0, .int .i64 0, .int .i64 0, .int .i64 0] 25) cR_v101)
              have y102_0 := cell2_0 ld102
              have y102_1 := cell2_1 ld102
              clear ld102
              have ld103 : (v101.alloc (.cells #[.int .i64 0, .int .i64 0, .int .i64 0, .int .i64 0, .int .i64 0, .int .i64 0] 25)).heap[EU]? = some (.cells #[.int .i64 0, .int .i64 0, .int .i64 0, .int .i64 0, .int .i64 0, .int .i64 0] 25) := (heap_new (by first | omega | (simp; omega)))
              have y103_0 := cell6_0 ld103
              have y103_1 := cell6_1 ld103
              have y103_2 := cell6_2 ld103
              have y103_3 := cell6_3 ld103
              have y103_4 := cell6_4 ld103
              have y103_5 := cell6_5 ld103
              clear ld103
              have HW := Lib.hid ((hw_v101.alloc (by have := hw_v101.size; first | omega | (simp; omega)) (.cells #[.int .i64 0, .int .i64 0, .int .i64 0, .int .i64 0, .int .i64 0, .int .i64 0] 25)))
              by_cases b0 : r0 < 1
              · go_wp2
                go_ret
                exact ⟨rfl, by first | exact HW.out | (rw [hD]; exact HW.out)⟩
              · have b1 : r1 < 1 := by omega
                go_wp2
                go_ret
                exact ⟨rfl, by first | exact HW.out | (rw [hD]; exact HW.out)⟩
            · obtain ⟨a, ha⟩ : ∃ a : Nat, r0 = (a : Int) := ⟨r0.toNat, by omega⟩
              obtain ⟨b, hb⟩ : ∃ b : Nat, r1 = (b : Int) := ⟨r1.toNat, by omega⟩
              have a0 : 0 < a := by omega
              have b0 : 0 < b := by omega
              have a1 : a ≤ 1000000000 := by omega
              have b1 : b ≤ 1000000000 := by omega
              have ga : ¬ r0 < 1 := by omega
              have gb : ¬ r1 < 1 := by omega
              have RA := Lib.hid (fun W => ivratio_any a b W a0 b0 (by omega) (by omega))
              have RR := Lib.hid (fun W => rratio_any a b W a0 b0 a1 b1)
              rw [← ha, ← hb] at RA RR
              have okr := ra_ok a0 b0 a1 b1
              unfold raN raD raE at RA
              by_cases hrest : Iv.rest a = Iv.rest b
              · simp only [if_pos hrest, (sz_ok okr _).1, (sz_ok okr _).2.1, (sz_ok okr 0).2.2] at RA
                rw [show decide (Iv.rest a = Iv.rest b) = true from decide_eq_true hrest] at RR
                obtain ⟨⟨q1, q2⟩, ⟨q3, q4⟩, ⟨q5, q6⟩⟩ := ra_bd a0 b0 a1 b1
                have SZ := Lib.hid (fun W => lsize_any (Iv.e2 a b) (Iv.e3 a b) (Iv.e5 a b) 1 W (Int.le_trans (by decide) q1) (Int.le_trans q2 (by decide)) (Int.le_trans (by decide) q3) (Int.le_trans q4 (by decide)) (Int.le_trans (by decide) q5) (Int.le_trans q6 (by decide)) (by decide) (by decide))
                clear q1 q2 q3 q4 q5 q6
                rw [show (((1 : Nat) : Int)) = 1 from rfl] at RA
                generalize FracMath.qn (Iv.e2 a b) 1 = v0 at *
                generalize FracMath.qd (Iv.e2 a b) 1 = v1 at *
                generalize FracMath.qn (Iv.e3 a b) 1 = v2 at *
                generalize FracMath.qd (Iv.e3 a b) 1 = v3 at *
                generalize FracMath.qn (Iv.e5 a b) 1 = v4 at *
                generalize FracMath.qd (Iv.e5 a b) 1 = v5 at *
                generalize Iv.e2 a b = g0 at *
                generalize Iv.e3 a b = g1 at *
                generalize Iv.e5 a b = g2 at *
                have hev := eq_size v0 v1 v2 v3 v4 v5
                clear okr a0 b0 a1 b1 ha hb hrest
                go_wp2_with fail
                refine (RA.out _).mono ?_
                rintro e v141 ⟨rfl, hb_v141⟩
                have hs_v141 := hw8.size
                have cR_v141 : v141.heap[D + 1]? = some (.cells #[.int .i64 r0, .int .i64 r1] 44) := (hb_v141.block (D + 1) (Array.getElem?_eq_some_iff.1 (show Z2.heap[D + 1]? = some (.cells #[.int .i64 r0, .int .i64 r1] 44) from hR8_)).1).trans hR8_
                have cO_v141 : v141.heap[EO]? = some (.cells #[.int .i64 0, .int .i64 0, .int .i64 0, .int .i64 0] 29) := (hb_v141.block (EO) (Array.getElem?_eq_some_iff.1 (show Z2.heap[EO]? = some (.cells #[.int .i64 0, .int .i64 0, .int .i64 0, .int .i64 0] 29) from hO8)).1).trans hO8
                have hw_v141 : Below D w v141 := (hw8).trans (hb_v141.mono (by first | omega | (simp; omega)))
                clear hR8_ hO8 hb_v141 hw8 hs_v141
                obtain ⟨EU, hEU⟩ : ∃ E, v141.heap.size = E := ⟨_, rfl⟩
                have nUO : EO < EU := by rw [← hEU]; exact (Array.getElem?_eq_some_iff.1 cO_v141).1
                have ld142 : (v141.alloc (.cells #[.int .i64 v0, .int .i64 v1, .int .i64 v2, .int .i64 v3, .int .i64 v4, .int .i64 v5] 25)).heap[D + 1]? = some (.cells #[.int .i64 r0, .int .i64 r1] 44) := (heap_old (o := .cells #[.int .i64 v0, .int .i64 v1, .int .i64 v2, .int .i64 v3, .int .i64 v4, .int .i64 v5] 25) cR_v141)
                have y142_0 := cell2_0 ld142
                have y142_1 := cell2_1 ld142
                clear ld142
                go_wp2_with fail
                refine (RR.out _).mono ?_
                rintro e v143 ⟨rfl, hb_v143⟩
                have hs_v143 := hw_v141.size
                have cR_v143 : v143.heap[D + 1]? = some (.cells #[.int .i64 r0, .int .i64 r1] 44) := (hb_v143.block (D + 1) (Array.getElem?_eq_some_iff.1 (show (v141.alloc (.cells #[.int .i64 v0, .int .i64 v1, .int .i64 v2, .int .i64 v3, .int .i64 v4, .int .i64 v5] 25)).heap[D + 1]? = some (.cells #[.int .i64 r0, .int .i64 r1] 44) from (heap_old (o := .cells #[.int .i64 v0, .int .i64 v1, .int .i64 v2, .int .i64 v3, .int .i64 v4, .int .i64 v5] 25) cR_v141))).1).trans (heap_old (o := .cells #[.int .i64 v0, .int .i64 v1, .int .i64 v2, .int .i64 v3, .int .i64 v4, .int .i64 v5] 25) cR_v141)
                have cO_v143 : v143.heap[EO]? = some (.cells #[.int .i64 0, .int .i64 0, .int .i64 0, .int .i64 0] 29) := (hb_v143.block (EO) (Array.getElem?_eq_some_iff.1 (show (v141.alloc (.cells #[.int .i64 v0, .int .i64 v1, .int .i64 v2, .int .i64 v3, .int .i64 v4, .int .i64 v5] 25)).heap[EO]? = some (.cells #[.int .i64 0, .int .i64 0, .int .i64 0, .int .i64 0] 29) from (heap_old (o := .cells #[.int .i64 v0, .int .i64 v1, .int .i64 v2, .int .i64 v3, .int .i64 v4, .int .i64 v5] 25) cO_v141))).1).trans (heap_old (o := .cells #[.int .i64 v0, .int .i64 v1, .int .i64 v2, .int .i64 v3, .int .i64 v4, .int .i64 v5] 25) cO_v141)
                have cU_v143 : v143.heap[EU]? = some (.cells #[.int .i64 v0, .int .i64 v1, .int .i64 v2, .int .i64 v3, .int .i64 v4, .int .i64 v5] 25) := (hb_v143.block (EU) (Array.getElem?_eq_some_iff.1 (show (v141.alloc (.cells #[.int .i64 v0, .int .i64 v1, .int .i64 v2, .int .i64 v3, .int .i64 v4, .int .i64 v5] 25)).heap[EU]? = some (.cells #[.int .i64 v0, .int .i64 v1, .int .i64 v2, .int .i64 v3, .int .i64 v4, .int .i64 v5] 25) from (heap_new (by first | omega | (simp; omega))))).1).trans (heap_new (by first | omega | (simp; omega)))
                have hw_v143 : Below D w v143 := ((hw_v141.alloc (by have := hw_v141.size; first | omega | (simp; omega)) (.cells #[.int .i64 v0, .int .i64 v1, .int .i64 v2, .int .i64 v3, .int .i64 v4, .int .i64 v5] 25))).trans (hb_v143.mono (by first | omega | (simp; omega)))
                clear cR_v141 cO_v141 hb_v143 y142_0 y142_1 hw_v141 hs_v143
                have fo0 := free4_0 cO_v143
                have co0 := cell4_0 cO_v143
                have fo1 := free4_1 cO_v143
                have co1 := cell4_1 cO_v143
                have fo2 := free4_2 cO_v143
                have co2 := cell4_2 cO_v143
                have fo3 := free4_3 cO_v143
                have co3 := cell4_3 cO_v143
                obtain ⟨Y, hY⟩ : ∃ Y, ((((v143.setCell ⟨EO, 0, none⟩ (.int .i64 g0)).setCell ⟨EO, 1, none⟩ (.int .i64 g1)).setCell ⟨EO, 2, none⟩ (.int .i64 g2)).setCell ⟨EO, 3, none⟩ (.int .i64 1)) = Y := ⟨_, rfl⟩
                have hwY : Below D w Y := by rw [← hY]; exact ((((hw_v143.setCell (p := ⟨EO, 0, none⟩) (show D ≤ EO by omega) (.int .i64 g0)).setCell (p := ⟨EO, 1, none⟩) (show D ≤ EO by omega) (.int .i64 g1)).setCell (p := ⟨EO, 2, none⟩) (show D ≤ EO by omega) (.int .i64 g2)).setCell (p := ⟨EO, 3, none⟩) (show D ≤ EO by omega) (.int .i64 1))
                have hOY : Y.heap[EO]? = some (.cells #[.int .i64 g0, .int .i64 g1, .int .i64 g2, .int .i64 1] 29) := by rw [← hY]; exact (set4_3 (x := .int .i64 1) (set4_2 (x := .int .i64 g2) (set4_1 (x := .int .i64 g1) (set4_0 (x := .int .i64 g0) cO_v143))))
                have hUY : Y.heap[EU]? = some (.cells #[.int .i64 v0, .int .i64 v1, .int .i64 v2, .int .i64 v3, .int .i64 v4, .int .i64 v5] 25) := by rw [← hY]; exact ((set_other (b := EO) (o := 3) (x := .int .i64 1) (show EU ≠ EO by omega)).trans ((set_other (b := EO) (o := 2) (x := .int .i64 g2) (show EU ≠ EO by omega)).trans ((set_other (b := EO) (o := 1) (x := .int .i64 g1) (show EU ≠ EO by omega)).trans ((set_other (b := EO) (o := 0) (x := .int .i64 g0) (show EU ≠ EO by omega)).trans cU_v143))))
                have HYH := Lib.hid hY
                clear hY hw_v143 cO_v143 cU_v143 cR_v143
                go_upto_region 22 with fail
                rw [HYH.out]
                go_wp2_with fail
                have HMR := Lib.hid (show MkR D w [(EU, .cells #[.int .i64 v0, .int .i64 v1, .int .i64 v2, .int .i64 v3, .int .i64 v4, .int .i64 v5] 25), (EO, .cells #[.int .i64 g0, .int .i64 g1, .int .i64 g2, .int .i64 1] 29)] Y from ⟨hwY, fun b o hm => by simp only [List.mem_cons, List.not_mem_nil, or_false, Prod.mk.injEq] at hm; rcases hm with ⟨rfl, rfl⟩ | ⟨rfl, rfl⟩ <;> first | exact hUY | exact hOY⟩)
                have hMup : ∀ A B : World, Below A.heap.size A B → MkR D w [(EU, .cells #[.int .i64 v0, .int .i64 v1, .int .i64 v2, .int .i64 v3, .int .i64 v4, .int .i64 v5] 25), (EO, .cells #[.int .i64 g0, .int .i64 g1, .int .i64 g2, .int .i64 1] 29)] A → MkR D w [(EU, .cells #[.int .i64 v0, .int .i64 v1, .int .i64 v2, .int .i64 v3, .int .i64 v4, .int .i64 v5] 25), (EO, .cells #[.int .i64 g0, .int .i64 g1, .int .i64 g2, .int .i64 1] 29)] B := fun A B hb h => MkR_up D w [(EU, .cells #[.int .i64 v0, .int .i64 v1, .int .i64 v2, .int .i64 v3, .int .i64 v4, .int .i64 v5] 25), (EO, .cells #[.int .i64 g0, .int .i64 g1, .int .i64 g2, .int .i64 1] 29)] A B hb h (by have := h.1.size; omega)
                refine wp_region_slots_at rfl rfl (fun base ys => ((((((((base.set 150 (ys 0)).set 151 (ys 1)).set 152 (ys 2)).set 153 (ys 3)).set 154 (ys 4)).set 155 (ys 5)).set 156 (ys 6)).set 157 (ys 7)).set 6 (ys 8)) (BelowI _ (MkR D w [(EU, .cells #[.int .i64 v0, .int .i64 v1, .int .i64 v2, .int .i64 v3, .int .i64 v4, .int .i64 v5] 25), (EO, .cells #[.int .i64 g0, .int .i64 g1, .int .i64 g2, .int .i64 1] 29)]) (mlI (.agg #[.int .i64 v0, .int .i64 v1, .int .i64 v2, .int .i64 v3, .int .i64 v4, .int .i64 v5]) (.agg #[.int .i64 g0, .int .i64 g1, .int .i64 g2, .int .i64 1]))) (fun | 8 => u6 | _ => undef) (by kernel_rfl) (below_start (hMup Y Y.drew ⟨rfl, rfl, rfl, Nat.le_refl _, fun _ _ => rfl⟩ HMR.out)) ?h
                case h =>
                  intro F hF
                  simp only [List.set_cons_succ, List.set_cons_zero] at hF
                  subst hF
                  refine ⟨rfl, ?_, ?_⟩
                  refine ⟨?_, ?_⟩
                  · refine SlotStep.below hMup (mlI_up _ _) ?_
                    intro ys W9 hR9 hd hK_ hK
                    go_simp
                    have hK2 := hK (.int .i64 0) _ (Below.refl _ _) rfl
                    simp (config := { decide := true }) only [upd, if_true, if_false] at hK2
                    exact hK2
                  refine ⟨?_, ?_⟩
                  · refine SlotStep.below hMup (mlI_up _ _) ?_
                    intro ys W9 hR9 hd hK_ hK
                    have dd0 : ys 0 = (.int .i64 0) := hd 0 (by kernel_rfl) (by decide)
                    go_simp
                    have hK2 := hK (.bool true) _ (Below.refl _ _) rfl
                    simp (config := { decide := true }) only [upd, if_true, if_false, dd0] at hK2
                    exact hK2
                  refine ⟨?_, ?_⟩
                  · refine SlotStep.below hMup (mlI_up _ _) ?_
                    intro ys W9 hR9 hd hK_ hK
                    have dd1 : ys 1 = (.bool true) := hd 1 (by kernel_rfl) (by decide)
                    go_simp
                    have hK2 := hK (.bool true) _ (Below.refl _ _) rfl
                    simp (config := { decide := true }) only [upd, if_true, if_false, dd1] at hK2
                    exact hK2
                  refine ⟨?_, ?_⟩
                  · refine SlotStep.below hMup (mlI_up _ _) ?_
                    intro ys W9 hR9 hd hK_ hK
                    have dd2 : ys 2 = (.bool true) := hd 2 (by kernel_rfl) (by decide)
                    have hh := hR9.2 EU (.cells #[.int .i64 v0, .int .i64 v1, .int .i64 v2, .int .i64 v3, .int .i64 v4, .int .i64 v5] 25) (by simp)
                    have c0 := cell6_0 hh
                    have c1 := cell6_1 hh
                    have c2 := cell6_2 hh
                    have c3 := cell6_3 hh
                    have c4 := cell6_4 hh
                    have c5 := cell6_5 hh
                    go_simp
                    have hK2 := hK ((.agg #[.int .i64 v0, .int .i64 v1, .int .i64 v2, .int .i64 v3, .int .i64 v4, .int .i64 v5])) _ (Below.refl _ _) rfl
                    simp (config := { decide := true }) only [upd, if_true, if_false, dd2] at hK2
                    exact hK2
                  refine ⟨?_, ?_⟩
                  · refine SlotStep.below hMup (mlI_up _ _) ?_
                    intro ys W9 hR9 hd hK_ hK
                    have dd2 : ys 2 = (.bool true) := hd 2 (by kernel_rfl) (by decide)
                    have hh := hR9.2 EO (.cells #[.int .i64 g0, .int .i64 g1, .int .i64 g2, .int .i64 1] 29) (by simp)
                    have c0 := cell4_0 hh
                    have c1 := cell4_1 hh
                    have c2 := cell4_2 hh
                    have c3 := cell4_3 hh
                    go_simp
                    have hK2 := hK ((.agg #[.int .i64 g0, .int .i64 g1, .int .i64 g2, .int .i64 1])) _ (Below.refl _ _) rfl
                    simp (config := { decide := true }) only [upd, if_true, if_false, dd2] at hK2
                    exact hK2
                  refine ⟨?_, ?_⟩
                  · refine SlotStep.below hMup (mlI_up _ _) ?_
                    intro ys W9 hR9 hd hK_ hK
                    have dd2 : ys 2 = (.bool true) := hd 2 (by kernel_rfl) (by decide)
                    have dd4 : ys 4 = ((.agg #[.int .i64 g0, .int .i64 g1, .int .i64 g2, .int .i64 1])) := hd 4 (by kernel_rfl) (by decide)
                    go_simp
                    refine (SZ.out W9).mono ?_
                    rintro e w5 ⟨rfl, hb5⟩
                    have hK2 := hK ((.agg #[.int .i64 v0, .int .i64 v1, .int .i64 v2, .int .i64 v3, .int .i64 v4, .int .i64 v5])) _ hb5 rfl
                    simp (config := { decide := true }) only [upd, if_true, if_false, dd2, dd4] at hK2
                    exact hK2
                  refine ⟨?_, ?_⟩
                  · refine SlotStep.below hMup (mlI_up _ _) ?_
                    intro ys W9 hR9 hd hK_ hK
                    have dd2 : ys 2 = (.bool true) := hd 2 (by kernel_rfl) (by decide)
                    have dd3 : ys 3 = ((.agg #[.int .i64 v0, .int .i64 v1, .int .i64 v2, .int .i64 v3, .int .i64 v4, .int .i64 v5])) := hd 3 (by kernel_rfl) (by decide)
                    have dd5 : ys 5 = ((.agg #[.int .i64 v0, .int .i64 v1, .int .i64 v2, .int .i64 v3, .int .i64 v4, .int .i64 v5])) := hd 5 (by kernel_rfl) (by decide)
                    go_simp
                    have hK2 := hK (.bool true) _ (Below.refl _ _) rfl
                    simp (config := { decide := true }) only [upd, if_true, if_false, dd2, dd3, dd5] at hK2
                    exact hK2
                  refine ⟨?_, ?_⟩
                  · refine SlotStep.below hMup (mlI_up _ _) ?_
                    intro ys W9 hR9 hd hK_ hK
                    have dd2 : ys 2 = (.bool true) := hd 2 (by kernel_rfl) (by decide)
                    have dd6 : ys 6 = (.bool true) := hd 6 (by kernel_rfl) (by decide)
                    go_simp
                    have hK2 := hK (.bool true) _ (Below.refl _ _) rfl
                    simp (config := { decide := true }) only [upd, if_true, if_false, dd2, dd6] at hK2
                    exact hK2
                  refine ⟨?_, ?_⟩
                  · refine SlotStep.below hMup (mlI_up _ _) ?_
                    intro ys W9 hR9 hd hK_ hK
                    have dd7 : ys 7 = (.bool true) := hd 7 (by kernel_rfl) (by decide)
                    go_simp
                    have hK2 := hK (.bool true) _ (Below.refl _ _) rfl
                    simp (config := { decide := true }) only [upd, if_true, if_false, dd7] at hK2
                    exact hK2
                  trivial
                  intro L ys W8 hL hI
                  obtain ⟨hR8, hj⟩ := hI
                  have yl : ys 8 = (.bool true) := hj 8 (by decide) (hL 8 (by decide))
                  have HW := Lib.hid hR8.1
                  clear hR8 hj HMR hMup
                  simp only [yl]
                  go_wp2
                  go_ret
                  exact ⟨rfl, by first | exact HW.out | (rw [hD]; exact HW.out)⟩
              · simp only [if_neg hrest] at RA
                rw [show decide (Iv.rest a = Iv.rest b) = false from decide_eq_false hrest] at RR
                generalize Iv.e2 a b = g0 at *
                generalize Iv.e3 a b = g1 at *
                generalize Iv.e5 a b = g2 at *
                clear okr a0 b0 a1 b1 ha hb hrest
                go_wp2_with fail
                refine (RA.out _).mono ?_
                rintro e v141 ⟨rfl, hb_v141⟩
                have hs_v141 := hw8.size
                have cR_v141 : v141.heap[D + 1]? = some (.cells #[.int .i64 r0, .int .i64 r1] 44) := (hb_v141.block (D + 1) (Array.getElem?_eq_some_iff.1 (show Z2.heap[D + 1]? = some (.cells #[.int .i64 r0, .int .i64 r1] 44) from hR8_)).1).trans hR8_
                have cO_v141 : v141.heap[EO]? = some (.cells #[.int .i64 0, .int .i64 0, .int .i64 0, .int .i64 0] 29) := (hb_v141.block (EO) (Array.getElem?_eq_some_iff.1 (show Z2.heap[EO]? = some (.cells #[.int .i64 0, .int .i64 0, .int .i64 0, .int .i64 0] 29) from hO8)).1).trans hO8
                have hw_v141 : Below D w v141 := (hw8).trans (hb_v141.mono (by first | omega | (simp; omega)))
                clear hR8_ hO8 hb_v141 hw8 hs_v141
                obtain ⟨EU, hEU⟩ : ∃ E, v141.heap.size = E := ⟨_, rfl⟩
                have nUO : EO < EU := by rw [← hEU]; exact (Array.getElem?_eq_some_iff.1 cO_v141).1
                have ld142 : (v141.alloc (.cells #[.int .i64 0, .int .i64 0, .int .i64 0, .int .i64 0, .int .i64 0, .int .i64 0] 25)).heap[D + 1]? = some (.cells #[.int .i64 r0, .int .i64 r1] 44) := (heap_old (o := .cells #[.int .i64 0, .int .i64 0, .int .i64 0, .int .i64 0, .int .i64 0, .int .i64 0] 25) cR_v141)
                have y142_0 := cell2_0 ld142
                have y142_1 := cell2_1 ld142
                clear ld142
                go_wp2_with fail
                refine (RR.out _).mono ?_
                rintro e v143 ⟨rfl, hb_v143⟩
                have hs_v143 := hw_v141.size
                have cR_v143 : v143.heap[D + 1]? = some (.cells #[.int .i64 r0, .int .i64 r1] 44) := (hb_v143.block (D + 1) (Array.getElem?_eq_some_iff.1 (show (v141.alloc (.cells #[.int .i64 0, .int .i64 0, .int .i64 0, .int .i64 0, .int .i64 0, .int .i64 0] 25)).heap[D + 1]? = some (.cells #[.int .i64 r0, .int .i64 r1] 44) from (heap_old (o := .cells #[.int .i64 0, .int .i64 0, .int .i64 0, .int .i64 0, .int .i64 0, .int .i64 0] 25) cR_v141))).1).trans (heap_old (o := .cells #[.int .i64 0, .int .i64 0, .int .i64 0, .int .i64 0, .int .i64 0, .int .i64 0] 25) cR_v141)
                have cO_v143 : v143.heap[EO]? = some (.cells #[.int .i64 0, .int .i64 0, .int .i64 0, .int .i64 0] 29) := (hb_v143.block (EO) (Array.getElem?_eq_some_iff.1 (show (v141.alloc (.cells #[.int .i64 0, .int .i64 0, .int .i64 0, .int .i64 0, .int .i64 0, .int .i64 0] 25)).heap[EO]? = some (.cells #[.int .i64 0, .int .i64 0, .int .i64 0, .int .i64 0] 29) from (heap_old (o := .cells #[.int .i64 0, .int .i64 0, .int .i64 0, .int .i64 0, .int .i64 0, .int .i64 0] 25) cO_v141))).1).trans (heap_old (o := .cells #[.int .i64 0, .int .i64 0, .int .i64 0, .int .i64 0, .int .i64 0, .int .i64 0] 25) cO_v141)
                have cU_v143 : v143.heap[EU]? = some (.cells #[.int .i64 0, .int .i64 0, .int .i64 0, .int .i64 0, .int .i64 0, .int .i64 0] 25) := (hb_v143.block (EU) (Array.getElem?_eq_some_iff.1 (show (v141.alloc (.cells #[.int .i64 0, .int .i64 0, .int .i64 0, .int .i64 0, .int .i64 0, .int .i64 0] 25)).heap[EU]? = some (.cells #[.int .i64 0, .int .i64 0, .int .i64 0, .int .i64 0, .int .i64 0, .int .i64 0] 25) from (heap_new (by first | omega | (simp; omega))))).1).trans (heap_new (by first | omega | (simp; omega)))
                have hw_v143 : Below D w v143 := ((hw_v141.alloc (by have := hw_v141.size; first | omega | (simp; omega)) (.cells #[.int .i64 0, .int .i64 0, .int .i64 0, .int .i64 0, .int .i64 0, .int .i64 0] 25))).trans (hb_v143.mono (by first | omega | (simp; omega)))
                clear cR_v141 cO_v141 hb_v143 y142_0 y142_1 hw_v141 hs_v143
                have fo0 := free4_0 cO_v143
                have co0 := cell4_0 cO_v143
                have fo1 := free4_1 cO_v143
                have co1 := cell4_1 cO_v143
                have fo2 := free4_2 cO_v143
                have co2 := cell4_2 cO_v143
                have fo3 := free4_3 cO_v143
                have co3 := cell4_3 cO_v143
                obtain ⟨Y, hY⟩ : ∃ Y, ((((v143.setCell ⟨EO, 0, none⟩ (.int .i64 g0)).setCell ⟨EO, 1, none⟩ (.int .i64 g1)).setCell ⟨EO, 2, none⟩ (.int .i64 g2)).setCell ⟨EO, 3, none⟩ (.int .i64 1)) = Y := ⟨_, rfl⟩
                have hwY : Below D w Y := by rw [← hY]; exact ((((hw_v143.setCell (p := ⟨EO, 0, none⟩) (show D ≤ EO by omega) (.int .i64 g0)).setCell (p := ⟨EO, 1, none⟩) (show D ≤ EO by omega) (.int .i64 g1)).setCell (p := ⟨EO, 2, none⟩) (show D ≤ EO by omega) (.int .i64 g2)).setCell (p := ⟨EO, 3, none⟩) (show D ≤ EO by omega) (.int .i64 1))
                have hOY : Y.heap[EO]? = some (.cells #[.int .i64 g0, .int .i64 g1, .int .i64 g2, .int .i64 1] 29) := by rw [← hY]; exact (set4_3 (x := .int .i64 1) (set4_2 (x := .int .i64 g2) (set4_1 (x := .int .i64 g1) (set4_0 (x := .int .i64 g0) cO_v143))))
                have hUY : Y.heap[EU]? = some (.cells #[.int .i64 0, .int .i64 0, .int .i64 0, .int .i64 0, .int .i64 0, .int .i64 0] 25) := by rw [← hY]; exact ((set_other (b := EO) (o := 3) (x := .int .i64 1) (show EU ≠ EO by omega)).trans ((set_other (b := EO) (o := 2) (x := .int .i64 g2) (show EU ≠ EO by omega)).trans ((set_other (b := EO) (o := 1) (x := .int .i64 g1) (show EU ≠ EO by omega)).trans ((set_other (b := EO) (o := 0) (x := .int .i64 g0) (show EU ≠ EO by omega)).trans cU_v143))))
                have HYH := Lib.hid hY
                clear hY hw_v143 cO_v143 cU_v143 cR_v143
                go_upto_region 22 with fail
                rw [HYH.out]
                have yu0 := cell6_0 hUY
                have yu1 := cell6_1 hUY
                have yu2 := cell6_2 hUY
                have yu3 := cell6_3 hUY
                have yu4 := cell6_4 hUY
                have yu5 := cell6_5 hUY
                have HW := Lib.hid hwY
                go_wp2
                go_ret
                exact ⟨rfl, by first | exact HW.out | (rw [hD]; exact HW.out)⟩
        | some row =>
          obtain ⟨t, x, y, zz⟩ := row
          obtain ⟨g0_, g1_, g2_, g3_, g4_, g5_, g6_⟩ := nmV_some hnf
          simp only [g0_, g1_, g2_, g3_, g4_, g5_, g6_] at NMC
          obtain ⟨nb, _⟩ := rnamed_some hnf wr
          have RNC := Lib.hid (fun W => (rnamed_some hnf W).2)
          have okn : Iv.okB x y zz 1 = true := ok_small (by omega) (by omega) (by omega) (by decide)
          simp only [(sz_ok okn _).1, (sz_ok okn _).2.1, (sz_ok okn 0).2.2] at NMC
          rw [show (((1 : Nat) : Int)) = 1 from rfl] at NMC
          have SZN := Lib.hid (fun W => lsize_any x y zz 1 W (by omega) (by omega) (by omega) (by omega) (by omega) (by omega) (by decide) (by decide))
          generalize FracMath.qn x 1 = n0 at *
          generalize FracMath.qd x 1 = n1 at *
          generalize FracMath.qn y 1 = n2 at *
          generalize FracMath.qd y 1 = n3 at *
          generalize FracMath.qn zz 1 = n4 at *
          generalize FracMath.qd zz 1 = n5 at *
          have hnn := ne_size' n0 n1 n2 n3 n4 n5
          clear g0_ g1_ g2_ g3_ g4_ g5_ g6_ okn nb hnf
          have ld71 : wr.heap[D]? = some (.cells #[.int .i64 x0, .int .i64 x1, .int .i64 x2] 27) := hx
          have y71_0 := cell3_0 ld71
          have y71_1 := cell3_1 ld71
          have y71_2 := cell3_2 ld71
          clear ld71
          go_wp2_with fail
          refine (OFC.out _).mono ?_
          rintro e v72 ⟨rfl, hb_v72⟩
          have hs_v72 := hw.size
          have cX_v72 : v72.heap[D]? = some (.cells #[.int .i64 x0, .int .i64 x1, .int .i64 x2] 27) := (hb_v72.block (D) (Array.getElem?_eq_some_iff.1 (show wr.heap[D]? = some (.cells #[.int .i64 x0, .int .i64 x1, .int .i64 x2] 27) from hx)).1).trans hx
          have cR_v72 : v72.heap[D + 1]? = some (.cells #[.int .i64 r0, .int .i64 r1] 44) := (hb_v72.block (D + 1) (Array.getElem?_eq_some_iff.1 (show wr.heap[D + 1]? = some (.cells #[.int .i64 r0, .int .i64 r1] 44) from hr)).1).trans hr
          have hw_v72 : Below D w v72 := (hw).trans (hb_v72.mono (by first | omega | (simp; omega)))
          clear hx hr hb_v72 y71_0 y71_1 y71_2 hw hs_v72
          obtain ⟨ES, hES⟩ : ∃ E, v72.heap.size = E := ⟨_, rfl⟩
          have ld73 : (v72.alloc (.cells #[.int .i64 s0, .int .i64 s1, .int .i64 s2, .int .i64 s3, .int .i64 s4, .int .i64 s5] 25)).heap[D]? = some (.cells #[.int .i64 x0, .int .i64 x1, .int .i64 x2] 27) := (heap_old (o := .cells #[.int .i64 s0, .int .i64 s1, .int .i64 s2, .int .i64 s3, .int .i64 s4, .int .i64 s5] 25) cX_v72)
          have y73_0 := cell3_0 ld73
          have y73_1 := cell3_1 ld73
          have y73_2 := cell3_2 ld73
          clear ld73
          go_wp2_with fail
          refine (RIC.out _).mono ?_
          rintro e v74 ⟨rfl, hb_v74⟩
          have hs_v74 := hw_v72.size
          have cX_v74 : v74.heap[D]? = some (.cells #[.int .i64 x0, .int .i64 x1, .int .i64 x2] 27) := (hb_v74.block (D) (Array.getElem?_eq_some_iff.1 (show (v72.alloc (.cells #[.int .i64 s0, .int .i64 s1, .int .i64 s2, .int .i64 s3, .int .i64 s4, .int .i64 s5] 25)).heap[D]? = some (.cells #[.int .i64 x0, .int .i64 x1, .int .i64 x2] 27) from (heap_old (o := .cells #[.int .i64 s0, .int .i64 s1, .int .i64 s2, .int .i64 s3, .int .i64 s4, .int .i64 s5] 25) cX_v72))).1).trans (heap_old (o := .cells #[.int .i64 s0, .int .i64 s1, .int .i64 s2, .int .i64 s3, .int .i64 s4, .int .i64 s5] 25) cX_v72)
          have cR_v74 : v74.heap[D + 1]? = some (.cells #[.int .i64 r0, .int .i64 r1] 44) := (hb_v74.block (D + 1) (Array.getElem?_eq_some_iff.1 (show (v72.alloc (.cells #[.int .i64 s0, .int .i64 s1, .int .i64 s2, .int .i64 s3, .int .i64 s4, .int .i64 s5] 25)).heap[D + 1]? = some (.cells #[.int .i64 r0, .int .i64 r1] 44) from (heap_old (o := .cells #[.int .i64 s0, .int .i64 s1, .int .i64 s2, .int .i64 s3, .int .i64 s4, .int .i64 s5] 25) cR_v72))).1).trans (heap_old (o := .cells #[.int .i64 s0, .int .i64 s1, .int .i64 s2, .int .i64 s3, .int .i64 s4, .int .i64 s5] 25) cR_v72)
          have cS_v74 : v74.heap[ES]? = some (.cells #[.int .i64 s0, .int .i64 s1, .int .i64 s2, .int .i64 s3, .int .i64 s4, .int .i64 s5] 25) := (hb_v74.block (ES) (Array.getElem?_eq_some_iff.1 (show (v72.alloc (.cells #[.int .i64 s0, .int .i64 s1, .int .i64 s2, .int .i64 s3, .int .i64 s4, .int .i64 s5] 25)).heap[ES]? = some (.cells #[.int .i64 s0, .int .i64 s1, .int .i64 s2, .int .i64 s3, .int .i64 s4, .int .i64 s5] 25) from (heap_new (by first | omega | (simp; omega))))).1).trans (heap_new (by first | omega | (simp; omega)))
          have hw_v74 : Below D w v74 := ((hw_v72.alloc (by have := hw_v72.size; first | omega | (simp; omega)) (.cells #[.int .i64 s0, .int .i64 s1, .int .i64 s2, .int .i64 s3, .int .i64 s4, .int .i64 s5] 25))).trans (hb_v74.mono (by first | omega | (simp; omega)))
          clear cX_v72 cR_v72 hb_v74 y73_0 y73_1 y73_2 hw_v72 hs_v74
          obtain ⟨ET, hET⟩ : ∃ E, v74.heap.size = E := ⟨_, rfl⟩
          have N3 : Nm (v74.alloc (.cells #[.int .i64 s0, .int .i64 s1, .int .i64 s2, .int .i64 s3, .int .i64 s4, .int .i64 s5] 25)) := N.below (by rw [hD]; exact (hw_v74.alloc (by have := hw_v74.size; first | omega | (simp; omega)) (.cells #[.int .i64 s0, .int .i64 s1, .int .i64 s2, .int .i64 s3, .int .i64 s4, .int .i64 s5] 25)))
          have ld75 : (v74.alloc (.cells #[.int .i64 s0, .int .i64 s1, .int .i64 s2, .int .i64 s3, .int .i64 s4, .int .i64 s5] 25)).heap[ES]? = some (.cells #[.int .i64 s0, .int .i64 s1, .int .i64 s2, .int .i64 s3, .int .i64 s4, .int .i64 s5] 25) := (heap_old (o := .cells #[.int .i64 s0, .int .i64 s1, .int .i64 s2, .int .i64 s3, .int .i64 s4, .int .i64 s5] 25) cS_v74)
          have y75_0 := cell6_0 ld75
          have y75_1 := cell6_1 ld75
          have y75_2 := cell6_2 ld75
          have y75_3 := cell6_3 ld75
          have y75_4 := cell6_4 ld75
          have y75_5 := cell6_5 ld75
          clear ld75
          have ld76 : (v74.alloc (.cells #[.int .i64 s0, .int .i64 s1, .int .i64 s2, .int .i64 s3, .int .i64 s4, .int .i64 s5] 25)).heap[ET]? = some (.cells #[.int .i64 s0, .int .i64 s1, .int .i64 s2, .int .i64 s3, .int .i64 s4, .int .i64 s5] 25) := (heap_new (by first | omega | (simp; omega)))
          have y76_0 := cell6_0 ld76
          have y76_1 := cell6_1 ld76
          have y76_2 := cell6_2 ld76
          have y76_3 := cell6_3 ld76
          have y76_4 := cell6_4 ld76
          have y76_5 := cell6_5 ld76
          clear ld76
          go_wp2_with fail
          refine (NMC.out _ N3).mono ?_
          rintro e v77 ⟨rfl, hb_v77⟩
          have hs_v77 := hw_v74.size
          have cX_v77 : v77.heap[D]? = some (.cells #[.int .i64 x0, .int .i64 x1, .int .i64 x2] 27) := (hb_v77.block (D) (Array.getElem?_eq_some_iff.1 (show (v74.alloc (.cells #[.int .i64 s0, .int .i64 s1, .int .i64 s2, .int .i64 s3, .int .i64 s4, .int .i64 s5] 25)).heap[D]? = some (.cells #[.int .i64 x0, .int .i64 x1, .int .i64 x2] 27) from (heap_old (o := .cells #[.int .i64 s0, .int .i64 s1, .int .i64 s2, .int .i64 s3, .int .i64 s4, .int .i64 s5] 25) cX_v74))).1).trans (heap_old (o := .cells #[.int .i64 s0, .int .i64 s1, .int .i64 s2, .int .i64 s3, .int .i64 s4, .int .i64 s5] 25) cX_v74)
          have cR_v77 : v77.heap[D + 1]? = some (.cells #[.int .i64 r0, .int .i64 r1] 44) := (hb_v77.block (D + 1) (Array.getElem?_eq_some_iff.1 (show (v74.alloc (.cells #[.int .i64 s0, .int .i64 s1, .int .i64 s2, .int .i64 s3, .int .i64 s4, .int .i64 s5] 25)).heap[D + 1]? = some (.cells #[.int .i64 r0, .int .i64 r1] 44) from (heap_old (o := .cells #[.int .i64 s0, .int .i64 s1, .int .i64 s2, .int .i64 s3, .int .i64 s4, .int .i64 s5] 25) cR_v74))).1).trans (heap_old (o := .cells #[.int .i64 s0, .int .i64 s1, .int .i64 s2, .int .i64 s3, .int .i64 s4, .int .i64 s5] 25) cR_v74)
          have cS_v77 : v77.heap[ES]? = some (.cells #[.int .i64 s0, .int .i64 s1, .int .i64 s2, .int .i64 s3, .int .i64 s4, .int .i64 s5] 25) := (hb_v77.block (ES) (Array.getElem?_eq_some_iff.1 (show (v74.alloc (.cells #[.int .i64 s0, .int .i64 s1, .int .i64 s2, .int .i64 s3, .int .i64 s4, .int .i64 s5] 25)).heap[ES]? = some (.cells #[.int .i64 s0, .int .i64 s1, .int .i64 s2, .int .i64 s3, .int .i64 s4, .int .i64 s5] 25) from (heap_old (o := .cells #[.int .i64 s0, .int .i64 s1, .int .i64 s2, .int .i64 s3, .int .i64 s4, .int .i64 s5] 25) cS_v74))).1).trans (heap_old (o := .cells #[.int .i64 s0, .int .i64 s1, .int .i64 s2, .int .i64 s3, .int .i64 s4, .int .i64 s5] 25) cS_v74)
          have cT_v77 : v77.heap[ET]? = some (.cells #[.int .i64 s0, .int .i64 s1, .int .i64 s2, .int .i64 s3, .int .i64 s4, .int .i64 s5] 25) := (hb_v77.block (ET) (Array.getElem?_eq_some_iff.1 (show (v74.alloc (.cells #[.int .i64 s0, .int .i64 s1, .int .i64 s2, .int .i64 s3, .int .i64 s4, .int .i64 s5] 25)).heap[ET]? = some (.cells #[.int .i64 s0, .int .i64 s1, .int .i64 s2, .int .i64 s3, .int .i64 s4, .int .i64 s5] 25) from (heap_new (by first | omega | (simp; omega))))).1).trans (heap_new (by first | omega | (simp; omega)))
          have hw_v77 : Below D w v77 := ((hw_v74.alloc (by have := hw_v74.size; first | omega | (simp; omega)) (.cells #[.int .i64 s0, .int .i64 s1, .int .i64 s2, .int .i64 s3, .int .i64 s4, .int .i64 s5] 25))).trans (hb_v77.mono (by first | omega | (simp; omega)))
          clear cX_v74 cR_v74 cS_v74 hb_v77 y75_0 y75_1 y75_2 y75_3 y75_4 y75_5 y76_0 y76_1 y76_2 y76_3 y76_4 y76_5 hw_v74 hs_v77
          obtain ⟨EM, hEM⟩ : ∃ E, v77.heap.size = E := ⟨_, rfl⟩
          go_wp2_with fail
          refine (RNC.out _).mono ?_
          rintro e v78 ⟨rfl, hb_v78⟩
          have hs_v78 := hw_v77.size
          have cX_v78 : v78.heap[D]? = some (.cells #[.int .i64 x0, .int .i64 x1, .int .i64 x2] 27) := (hb_v78.block (D) (Array.getElem?_eq_some_iff.1 (show (v77.alloc (.cells #[.int .i64 n0, .int .i64 n1, .int .i64 n2, .int .i64 n3, .int .i64 n4, .int .i64 n5] 25)).heap[D]? = some (.cells #[.int .i64 x0, .int .i64 x1, .int .i64 x2] 27) from (heap_old (o := .cells #[.int .i64 n0, .int .i64 n1, .int .i64 n2, .int .i64 n3, .int .i64 n4, .int .i64 n5] 25) cX_v77))).1).trans (heap_old (o := .cells #[.int .i64 n0, .int .i64 n1, .int .i64 n2, .int .i64 n3, .int .i64 n4, .int .i64 n5] 25) cX_v77)
          have cR_v78 : v78.heap[D + 1]? = some (.cells #[.int .i64 r0, .int .i64 r1] 44) := (hb_v78.block (D + 1) (Array.getElem?_eq_some_iff.1 (show (v77.alloc (.cells #[.int .i64 n0, .int .i64 n1, .int .i64 n2, .int .i64 n3, .int .i64 n4, .int .i64 n5] 25)).heap[D + 1]? = some (.cells #[.int .i64 r0, .int .i64 r1] 44) from (heap_old (o := .cells #[.int .i64 n0, .int .i64 n1, .int .i64 n2, .int .i64 n3, .int .i64 n4, .int .i64 n5] 25) cR_v77))).1).trans (heap_old (o := .cells #[.int .i64 n0, .int .i64 n1, .int .i64 n2, .int .i64 n3, .int .i64 n4, .int .i64 n5] 25) cR_v77)
          have cS_v78 : v78.heap[ES]? = some (.cells #[.int .i64 s0, .int .i64 s1, .int .i64 s2, .int .i64 s3, .int .i64 s4, .int .i64 s5] 25) := (hb_v78.block (ES) (Array.getElem?_eq_some_iff.1 (show (v77.alloc (.cells #[.int .i64 n0, .int .i64 n1, .int .i64 n2, .int .i64 n3, .int .i64 n4, .int .i64 n5] 25)).heap[ES]? = some (.cells #[.int .i64 s0, .int .i64 s1, .int .i64 s2, .int .i64 s3, .int .i64 s4, .int .i64 s5] 25) from (heap_old (o := .cells #[.int .i64 n0, .int .i64 n1, .int .i64 n2, .int .i64 n3, .int .i64 n4, .int .i64 n5] 25) cS_v77))).1).trans (heap_old (o := .cells #[.int .i64 n0, .int .i64 n1, .int .i64 n2, .int .i64 n3, .int .i64 n4, .int .i64 n5] 25) cS_v77)
          have cT_v78 : v78.heap[ET]? = some (.cells #[.int .i64 s0, .int .i64 s1, .int .i64 s2, .int .i64 s3, .int .i64 s4, .int .i64 s5] 25) := (hb_v78.block (ET) (Array.getElem?_eq_some_iff.1 (show (v77.alloc (.cells #[.int .i64 n0, .int .i64 n1, .int .i64 n2, .int .i64 n3, .int .i64 n4, .int .i64 n5] 25)).heap[ET]? = some (.cells #[.int .i64 s0, .int .i64 s1, .int .i64 s2, .int .i64 s3, .int .i64 s4, .int .i64 s5] 25) from (heap_old (o := .cells #[.int .i64 n0, .int .i64 n1, .int .i64 n2, .int .i64 n3, .int .i64 n4, .int .i64 n5] 25) cT_v77))).1).trans (heap_old (o := .cells #[.int .i64 n0, .int .i64 n1, .int .i64 n2, .int .i64 n3, .int .i64 n4, .int .i64 n5] 25) cT_v77)
          have cM_v78 : v78.heap[EM]? = some (.cells #[.int .i64 n0, .int .i64 n1, .int .i64 n2, .int .i64 n3, .int .i64 n4, .int .i64 n5] 25) := (hb_v78.block (EM) (Array.getElem?_eq_some_iff.1 (show (v77.alloc (.cells #[.int .i64 n0, .int .i64 n1, .int .i64 n2, .int .i64 n3, .int .i64 n4, .int .i64 n5] 25)).heap[EM]? = some (.cells #[.int .i64 n0, .int .i64 n1, .int .i64 n2, .int .i64 n3, .int .i64 n4, .int .i64 n5] 25) from (heap_new (by first | omega | (simp; omega))))).1).trans (heap_new (by first | omega | (simp; omega)))
          have hw_v78 : Below D w v78 := ((hw_v77.alloc (by have := hw_v77.size; first | omega | (simp; omega)) (.cells #[.int .i64 n0, .int .i64 n1, .int .i64 n2, .int .i64 n3, .int .i64 n4, .int .i64 n5] 25))).trans (hb_v78.mono (by first | omega | (simp; omega)))
          clear cX_v77 cR_v77 cS_v77 cT_v77 hb_v78 hw_v77 hs_v78
          obtain ⟨EO, hEO⟩ : ∃ E, v78.heap.size = E := ⟨_, rfl⟩
          clear OFC RIC NMC RNC
          obtain ⟨Z, hZ⟩ : ∃ Z, (v78.alloc (.cells #[.int .i64 x, .int .i64 y, .int .i64 zz, .int .i64 1] 29)) = Z := ⟨_, rfl⟩
          have hwZ : Below D w Z := by rw [← hZ]; exact (hw_v78.alloc (by have := hw_v78.size; first | omega | (simp; omega)) (.cells #[.int .i64 x, .int .i64 y, .int .i64 zz, .int .i64 1] 29))
          have hRZ : Z.heap[D + 1]? = some (.cells #[.int .i64 r0, .int .i64 r1] 44) := by rw [← hZ]; exact (heap_old (o := .cells #[.int .i64 x, .int .i64 y, .int .i64 zz, .int .i64 1] 29) cR_v78)
          have hMZ : Z.heap[EM]? = some (.cells #[.int .i64 n0, .int .i64 n1, .int .i64 n2, .int .i64 n3, .int .i64 n4, .int .i64 n5] 25) := by rw [← hZ]; exact (heap_old (o := .cells #[.int .i64 x, .int .i64 y, .int .i64 zz, .int .i64 1] 29) cM_v78)
          have hOZ : Z.heap[EO]? = some (.cells #[.int .i64 x, .int .i64 y, .int .i64 zz, .int .i64 1] 29) := by rw [← hZ]; exact (heap_new (by first | omega | (simp; omega)))
          have nMO : EM ≠ EO := by rw [← hEO]; exact Nat.ne_of_lt (Array.getElem?_eq_some_iff.1 cM_v78).1
          have hDO : D + 1 < EO := by rw [← hEO]; exact (Array.getElem?_eq_some_iff.1 cR_v78).1
          have HZH := Lib.hid hZ
          clear hZ cX_v78 cR_v78 cS_v78 cT_v78 cM_v78 hw_v78
          go_wp2_with fail
          rw [HZH.out]
          have HMR := Lib.hid (show MkR D w [(EM, .cells #[.int .i64 n0, .int .i64 n1, .int .i64 n2, .int .i64 n3, .int .i64 n4, .int .i64 n5] 25), (EO, .cells #[.int .i64 x, .int .i64 y, .int .i64 zz, .int .i64 1] 29), (D + 1, .cells #[.int .i64 r0, .int .i64 r1] 44)] Z from ⟨hwZ, fun b o hm => by simp only [List.mem_cons, List.not_mem_nil, or_false, Prod.mk.injEq] at hm; rcases hm with ⟨rfl, rfl⟩ | ⟨rfl, rfl⟩ | ⟨rfl, rfl⟩ <;> first | exact hMZ | exact hOZ | exact hRZ⟩)
          have hMup : ∀ A B : World, Below A.heap.size A B → MkR D w [(EM, .cells #[.int .i64 n0, .int .i64 n1, .int .i64 n2, .int .i64 n3, .int .i64 n4, .int .i64 n5] 25), (EO, .cells #[.int .i64 x, .int .i64 y, .int .i64 zz, .int .i64 1] 29), (D + 1, .cells #[.int .i64 r0, .int .i64 r1] 44)] A → MkR D w [(EM, .cells #[.int .i64 n0, .int .i64 n1, .int .i64 n2, .int .i64 n3, .int .i64 n4, .int .i64 n5] 25), (EO, .cells #[.int .i64 x, .int .i64 y, .int .i64 zz, .int .i64 1] 29), (D + 1, .cells #[.int .i64 r0, .int .i64 r1] 44)] B := fun A B hb h => MkR_up D w [(EM, .cells #[.int .i64 n0, .int .i64 n1, .int .i64 n2, .int .i64 n3, .int .i64 n4, .int .i64 n5] 25), (EO, .cells #[.int .i64 x, .int .i64 y, .int .i64 zz, .int .i64 1] 29), (D + 1, .cells #[.int .i64 r0, .int .i64 r1] 44)] A B hb h (by have := h.1.size; omega)
          refine wp_region_slots_at rfl rfl (fun base ys => (((((((((((((((((((((((base.set 74 (ys 0)).set 75 (ys 1)).set 76 (ys 2)).set 77 (ys 3)).set 78 (ys 4)).set 79 (ys 5)).set 80 (ys 6)).set 81 (ys 7)).set 82 (ys 8)).set 83 (ys 9)).set 84 (ys 10)).set 85 (ys 11)).set 86 (ys 12)).set 87 (ys 13)).set 88 (ys 14)).set 89 (ys 15)).set 90 (ys 16)).set 91 (ys 17)).set 92 (ys 18)).set 93 (ys 19)).set 94 (ys 20)).set 95 (ys 21)).set 96 (ys 22)).set 97 (ys 23)) (BelowI _ (MkR D w [(EM, .cells #[.int .i64 n0, .int .i64 n1, .int .i64 n2, .int .i64 n3, .int .i64 n4, .int .i64 n5] 25), (EO, .cells #[.int .i64 x, .int .i64 y, .int .i64 zz, .int .i64 1] 29), (D + 1, .cells #[.int .i64 r0, .int .i64 r1] 44)]) (mkI (.agg #[.int .i64 n0, .int .i64 n1, .int .i64 n2, .int .i64 n3, .int .i64 n4, .int .i64 n5]) (.agg #[.int .i64 x, .int .i64 y, .int .i64 zz, .int .i64 1]))) (fun _ => undef) (by kernel_rfl) (below_start (hMup Z Z.drew ⟨rfl, rfl, rfl, Nat.le_refl _, fun _ _ => rfl⟩ HMR.out)) ?h
          case h =>
            intro F hF
            simp only [List.set_cons_succ, List.set_cons_zero] at hF
            subst hF
            refine ⟨rfl, ?_, ?_⟩
            refine ⟨?_, ?_⟩
            · refine SlotStep.below hMup (mkI_up _ _) ?_
              intro ys W9 hR9 hd hK_ hK
              go_simp
              have hK2 := hK (.bool true) _ (Below.refl _ _) rfl
              simp (config := { decide := true }) only [upd, if_true, if_false] at hK2
              exact hK2
            refine ⟨?_, ?_⟩
            · refine SlotStep.below hMup (mkI_up _ _) ?_
              intro ys W9 hR9 hd hK_ hK
              have dd0 : ys 0 = (.bool true) := hd 0 (by kernel_rfl) (by decide)
              go_simp
              have hK2 := hK (.bool false) _ (Below.refl _ _) rfl
              simp (config := { decide := true }) only [upd, if_true, if_false, dd0] at hK2
              exact hK2
            refine ⟨?_, ?_⟩
            · refine SlotStep.below hMup (mkI_up _ _) ?_
              intro ys W9 hR9 hd hK_ hK
              have dd1 : ys 1 = (.bool false) := hd 1 (by kernel_rfl) (by decide)
              go_simp
              have hK2 := hK (.bool false) _ (Below.refl _ _) rfl
              simp (config := { decide := true }) only [upd, if_true, if_false, dd1] at hK2
              exact hK2
            refine ⟨?_, ?_⟩
            · refine SlotStep.below hMup (mkI_up _ _) ?_
              intro ys W9 hR9 hd hK_ hK
              have dd2 : ys 2 = (.bool false) := hd 2 (by kernel_rfl) (by decide)
              go_simp
              have hK2 := hK (undef) _ (Below.refl _ _) rfl
              simp (config := { decide := true }) only [upd, if_true, if_false, dd2] at hK2
              exact hK2
            refine ⟨?_, ?_⟩
            · refine SlotStep.below hMup (mkI_up _ _) ?_
              intro ys W9 hR9 hd hK_ hK
              have dd2 : ys 2 = (.bool false) := hd 2 (by kernel_rfl) (by decide)
              go_simp
              have hK2 := hK (undef) _ (Below.refl _ _) rfl
              simp (config := { decide := true }) only [upd, if_true, if_false, dd2] at hK2
              exact hK2
            refine ⟨?_, ?_⟩
            · refine SlotStep.below hMup (mkI_up _ _) ?_
              intro ys W9 hR9 hd hK_ hK
              have dd2 : ys 2 = (.bool false) := hd 2 (by kernel_rfl) (by decide)
              go_simp
              have hK2 := hK (undef) _ (Below.refl _ _) rfl
              simp (config := { decide := true }) only [upd, if_true, if_false, dd2] at hK2
              exact hK2
            refine ⟨?_, ?_⟩
            · refine SlotStep.below hMup (mkI_up _ _) ?_
              intro ys W9 hR9 hd hK_ hK
              have dd5 : ys 5 = (undef) := hd 5 (by kernel_rfl) (by decide)
              go_simp
              have hK2 := hK (undef) _ (Below.refl _ _) rfl
              simp (config := { decide := true }) only [upd, if_true, if_false, dd5] at hK2
              exact hK2
            refine ⟨?_, ?_⟩
            · refine SlotStep.below hMup (mkI_up _ _) ?_
              intro ys W9 hR9 hd hK_ hK
              have dd5 : ys 5 = (undef) := hd 5 (by kernel_rfl) (by decide)
              go_simp
              have hK2 := hK (undef) _ (Below.refl _ _) rfl
              simp (config := { decide := true }) only [upd, if_true, if_false, dd5] at hK2
              exact hK2
            refine ⟨?_, ?_⟩
            · refine SlotStep.below hMup (mkI_up _ _) ?_
              intro ys W9 hR9 hd hK_ hK
              have dd5 : ys 5 = (undef) := hd 5 (by kernel_rfl) (by decide)
              go_simp
              have hK2 := hK (undef) _ (Below.refl _ _) rfl
              simp (config := { decide := true }) only [upd, if_true, if_false, dd5] at hK2
              exact hK2
            refine ⟨?_, ?_⟩
            · refine SlotStep.below hMup (mkI_up _ _) ?_
              intro ys W9 hR9 hd hK_ hK
              have dd2 : ys 2 = (.bool false) := hd 2 (by kernel_rfl) (by decide)
              go_simp
              have hK2 := hK (undef) _ (Below.refl _ _) rfl
              simp (config := { decide := true }) only [upd, if_true, if_false, dd2] at hK2
              exact hK2
            refine ⟨?_, ?_⟩
            · refine SlotStep.below hMup (mkI_up _ _) ?_
              intro ys W9 hR9 hd hK_ hK
              have dd2 : ys 2 = (.bool false) := hd 2 (by kernel_rfl) (by decide)
              go_simp
              have hK2 := hK (.bool false) _ (Below.refl _ _) rfl
              simp (config := { decide := true }) only [upd, if_true, if_false, dd2] at hK2
              exact hK2
            refine ⟨?_, ?_⟩
            · refine SlotStep.below hMup (mkI_up _ _) ?_
              intro ys W9 hR9 hd hK_ hK
              have dd10 : ys 10 = (.bool false) := hd 10 (by kernel_rfl) (by decide)
              go_simp
              have hK2 := hK (.bool false) _ (Below.refl _ _) rfl
              simp (config := { decide := true }) only [upd, if_true, if_false, dd10] at hK2
              exact hK2
            refine ⟨?_, ?_⟩
            · refine SlotStep.below hMup (mkI_up _ _) ?_
              intro ys W9 hR9 hd hK_ hK
              have dd11 : ys 11 = (.bool false) := hd 11 (by kernel_rfl) (by decide)
              go_simp
              have hK2 := hK (.bool true) _ (Below.refl _ _) rfl
              simp (config := { decide := true }) only [upd, if_true, if_false, dd11] at hK2
              exact hK2
            refine ⟨?_, ?_⟩
            · refine SlotStep.below hMup (mkI_up _ _) ?_
              intro ys W9 hR9 hd hK_ hK
              have dd11 : ys 11 = (.bool false) := hd 11 (by kernel_rfl) (by decide)
              have dd12 : ys 12 = (.bool true) := hd 12 (by kernel_rfl) (by decide)
              go_simp
              have hK2 := hK (.bool true) _ (Below.refl _ _) rfl
              simp (config := { decide := true }) only [upd, if_true, if_false, dd11, dd12] at hK2
              exact hK2
            refine ⟨?_, ?_⟩
            · refine SlotStep.below hMup (mkI_up _ _) ?_
              intro ys W9 hR9 hd hK_ hK
              have dd13 : ys 13 = (.bool true) := hd 13 (by kernel_rfl) (by decide)
              go_simp
              have hK2 := hK (.int .i64 0) _ (Below.refl _ _) rfl
              simp (config := { decide := true }) only [upd, if_true, if_false, dd13] at hK2
              exact hK2
            refine ⟨?_, ?_⟩
            · refine SlotStep.below hMup (mkI_up _ _) ?_
              intro ys W9 hR9 hd hK_ hK
              have dd13 : ys 13 = (.bool true) := hd 13 (by kernel_rfl) (by decide)
              have dd14 : ys 14 = (.int .i64 0) := hd 14 (by kernel_rfl) (by decide)
              go_simp
              have hK2 := hK (.bool false) _ (Below.refl _ _) rfl
              simp (config := { decide := true }) only [upd, if_true, if_false, dd13, dd14] at hK2
              exact hK2
            refine ⟨?_, ?_⟩
            · refine SlotStep.below hMup (mkI_up _ _) ?_
              intro ys W9 hR9 hd hK_ hK
              have dd13 : ys 13 = (.bool true) := hd 13 (by kernel_rfl) (by decide)
              have dd15 : ys 15 = (.bool false) := hd 15 (by kernel_rfl) (by decide)
              go_simp
              have hK2 := hK (.bool false) _ (Below.refl _ _) rfl
              simp (config := { decide := true }) only [upd, if_true, if_false, dd13, dd15] at hK2
              exact hK2
            refine ⟨?_, ?_⟩
            · refine SlotStep.below hMup (mkI_up _ _) ?_
              intro ys W9 hR9 hd hK_ hK
              have dd16 : ys 16 = (.bool false) := hd 16 (by kernel_rfl) (by decide)
              have hh := hR9.2 EM (.cells #[.int .i64 n0, .int .i64 n1, .int .i64 n2, .int .i64 n3, .int .i64 n4, .int .i64 n5] 25) (by simp)
              have c0 := cell6_0 hh
              have c1 := cell6_1 hh
              have c2 := cell6_2 hh
              have c3 := cell6_3 hh
              have c4 := cell6_4 hh
              have c5 := cell6_5 hh
              go_simp
              have hK2 := hK ((.agg #[.int .i64 n0, .int .i64 n1, .int .i64 n2, .int .i64 n3, .int .i64 n4, .int .i64 n5])) _ (Below.refl _ _) rfl
              simp (config := { decide := true }) only [upd, if_true, if_false, dd16] at hK2
              exact hK2
            refine ⟨?_, ?_⟩
            · refine SlotStep.below hMup (mkI_up _ _) ?_
              intro ys W9 hR9 hd hK_ hK
              have dd16 : ys 16 = (.bool false) := hd 16 (by kernel_rfl) (by decide)
              have hh := hR9.2 EO (.cells #[.int .i64 x, .int .i64 y, .int .i64 zz, .int .i64 1] 29) (by simp)
              have c0 := cell4_0 hh
              have c1 := cell4_1 hh
              have c2 := cell4_2 hh
              have c3 := cell4_3 hh
              go_simp
              have hK2 := hK ((.agg #[.int .i64 x, .int .i64 y, .int .i64 zz, .int .i64 1])) _ (Below.refl _ _) rfl
              simp (config := { decide := true }) only [upd, if_true, if_false, dd16] at hK2
              exact hK2
            refine ⟨?_, ?_⟩
            · refine SlotStep.below hMup (mkI_up _ _) ?_
              intro ys W9 hR9 hd hK_ hK
              have dd16 : ys 16 = (.bool false) := hd 16 (by kernel_rfl) (by decide)
              have dd18 : ys 18 = ((.agg #[.int .i64 x, .int .i64 y, .int .i64 zz, .int .i64 1])) := hd 18 (by kernel_rfl) (by decide)
              go_simp
              refine (SZN.out W9).mono ?_
              rintro e w5 ⟨rfl, hb5⟩
              have hK2 := hK ((.agg #[.int .i64 n0, .int .i64 n1, .int .i64 n2, .int .i64 n3, .int .i64 n4, .int .i64 n5])) _ hb5 rfl
              simp (config := { decide := true }) only [upd, if_true, if_false, dd16, dd18] at hK2
              exact hK2
            refine ⟨?_, ?_⟩
            · refine SlotStep.below hMup (mkI_up _ _) ?_
              intro ys W9 hR9 hd hK_ hK
              have dd16 : ys 16 = (.bool false) := hd 16 (by kernel_rfl) (by decide)
              have dd17 : ys 17 = ((.agg #[.int .i64 n0, .int .i64 n1, .int .i64 n2, .int .i64 n3, .int .i64 n4, .int .i64 n5])) := hd 17 (by kernel_rfl) (by decide)
              have dd19 : ys 19 = ((.agg #[.int .i64 n0, .int .i64 n1, .int .i64 n2, .int .i64 n3, .int .i64 n4, .int .i64 n5])) := hd 19 (by kernel_rfl) (by decide)
              go_simp
              have hK2 := hK (.bool false) _ (Below.refl _ _) rfl
              simp (config := { decide := true }) only [upd, if_true, if_false, dd16, dd17, dd19] at hK2
              exact hK2
            refine ⟨?_, ?_⟩
            · refine SlotStep.below hMup (mkI_up _ _) ?_
              intro ys W9 hR9 hd hK_ hK
              have dd13 : ys 13 = (.bool true) := hd 13 (by kernel_rfl) (by decide)
              have dd16 : ys 16 = (.bool false) := hd 16 (by kernel_rfl) (by decide)
              have dd20 : ys 20 = (.bool false) := hd 20 (by kernel_rfl) (by decide)
              go_simp
              have hK2 := hK (.bool false) _ (Below.refl _ _) rfl
              simp (config := { decide := true }) only [upd, if_true, if_false, dd13, dd16, dd20] at hK2
              exact hK2
            refine ⟨?_, ?_⟩
            · refine SlotStep.below hMup (mkI_up _ _) ?_
              intro ys W9 hR9 hd hK_ hK
              have dd11 : ys 11 = (.bool false) := hd 11 (by kernel_rfl) (by decide)
              have dd13 : ys 13 = (.bool true) := hd 13 (by kernel_rfl) (by decide)
              have dd21 : ys 21 = (.bool false) := hd 21 (by kernel_rfl) (by decide)
              go_simp
              have hK2 := hK (.bool false) _ (Below.refl _ _) rfl
              simp (config := { decide := true }) only [upd, if_true, if_false, dd11, dd13, dd21] at hK2
              exact hK2
            refine ⟨?_, ?_⟩
            · refine SlotStep.below hMup (mkI_up _ _) ?_
              intro ys W9 hR9 hd hK_ hK
              have dd11 : ys 11 = (.bool false) := hd 11 (by kernel_rfl) (by decide)
              have dd22 : ys 22 = (.bool false) := hd 22 (by kernel_rfl) (by decide)
              go_simp
              have hK2 := hK (.bool false) _ (Below.refl _ _) rfl
              simp (config := { decide := true }) only [upd, if_true, if_false, dd11, dd22] at hK2
              exact hK2
            trivial
            intro L ys W8 hL hI
            obtain ⟨hR8, hj⟩ := hI
            have yl : ys 23 = (.bool false) := hj 23 (by decide) (hL 23 (by decide))
            have hw8 := hR8.1
            have hR8_ : W8.heap[D + 1]? = some (.cells #[.int .i64 r0, .int .i64 r1] 44) := hR8.2 (D + 1) (.cells #[.int .i64 r0, .int .i64 r1] 44) (by simp)
            have hO8 : W8.heap[EO]? = some (.cells #[.int .i64 x, .int .i64 y, .int .i64 zz, .int .i64 1] 29) := hR8.2 EO (.cells #[.int .i64 x, .int .i64 y, .int .i64 zz, .int .i64 1] 29) (by simp)
            simp only [yl]
            clear hR8 hj HMR hMup hwZ hRZ hMZ hOZ HZH
            go_upto_region 16 with fail
            obtain ⟨m0, hm0⟩ : ∃ m, IntKind.i64.wrap (-r0) = m := ⟨_, rfl⟩
            obtain ⟨m1, hm1⟩ : ∃ m, IntKind.i64.wrap (-r1) = m := ⟨_, rfl⟩
            have km0 : (m0 = -r0 ∨ r0 = -9223372036854775808 ∧ m0 = r0) := by
              by_cases h : r0 = -9223372036854775808
              · right; refine ⟨h, ?_⟩; rw [← hm0, h]; decide
              · left; rw [← hm0]; exact wrap_in (by omega) (by omega)
            have km1 : (m1 = -r1 ∨ r1 = -9223372036854775808 ∧ m1 = r1) := by
              by_cases h : r1 = -9223372036854775808
              · right; refine ⟨h, ?_⟩; rw [← hm1, h]; decide
              · left; rw [← hm1]; exact wrap_in (by omega) (by omega)
            have mxf := max4 r0 m0 r1 m1
            have ya := cell2_0 hR8_
            have yb := cell2_1 hR8_
            by_cases big : 1000000000 < r0 ∨ 1000000000 < m0 ∨ 1000000000 < r1 ∨ 1000000000 < m1
            · have HW := Lib.hid hw8
              have mx : 1000000000 < max (max (max r0 m0) r1) m1 := by omega
              go_wp2
              go_ret
              exact ⟨rfl, by first | exact HW.out | (rw [hD]; exact HW.out)⟩
            · have mx : ¬ 1000000000 < max (max (max r0 m0) r1) m1 := by omega
              by_cases bad : r0 < 1 ∨ r1 < 1
              · have RE := Lib.hid (fun W => ivratio_err r0 r1 W bad)
                go_wp2_with fail
                refine (RE.out _).mono ?_
                rintro e v101 ⟨rfl, hb_v101⟩
                have hs_v101 := hw8.size
                have cR_v101 : v101.heap[D + 1]? = some (.cells #[.int .i64 r0, .int .i64 r1] 44) := (hb_v101.block (D + 1) (Array.getElem?_eq_some_iff.1 (show W8.heap[D + 1]? = some (.cells #[.int .i64 r0, .int .i64 r1] 44) from hR8_)).1).trans hR8_
                have hw_v101 : Below D w v101 := (hw8).trans (hb_v101.mono (by first | omega | (simp; omega)))
                clear hR8_ hb_v101 hw8 hs_v101
                obtain ⟨EU, hEU⟩ : ∃ E, v101.heap.size = E := ⟨_, rfl⟩
                have ld102 : (v101.alloc (.cells #[.int .i64 0, .int .i64 0, .int .i64 0, .int .i64 0, .int .i64 0, .int .i64 0] 25)).heap[D + 1]? = some (.cells #[.int .i64 r0, .int .i64 r1] 44) := (heap_old (o := .cells #[.int .i64 0, .int .i64 0, .int .i64 0, .int .i64 0, .int .i64 0, .int .i64 0] 25) cR_v101)
                have y102_0 := cell2_0 ld102
                have y102_1 := cell2_1 ld102
                clear ld102
                have ld103 : (v101.alloc (.cells #[.int .i64 0, .int .i64 0, .int .i64 0, .int .i64 0, .int .i64 0, .int .i64 0] 25)).heap[EU]? = some (.cells #[.int .i64 0, .int .i64 0, .int .i64 0, .int .i64 0, .int .i64 0, .int .i64 0] 25) := (heap_new (by first | omega | (simp; omega)))
                have y103_0 := cell6_0 ld103
                have y103_1 := cell6_1 ld103
                have y103_2 := cell6_2 ld103
                have y103_3 := cell6_3 ld103
                have y103_4 := cell6_4 ld103
                have y103_5 := cell6_5 ld103
                clear ld103
                have HW := Lib.hid ((hw_v101.alloc (by have := hw_v101.size; first | omega | (simp; omega)) (.cells #[.int .i64 0, .int .i64 0, .int .i64 0, .int .i64 0, .int .i64 0, .int .i64 0] 25)))
                by_cases b0 : r0 < 1
                · go_wp2
                  go_ret
                  exact ⟨rfl, by first | exact HW.out | (rw [hD]; exact HW.out)⟩
                · have b1 : r1 < 1 := by omega
                  go_wp2
                  go_ret
                  exact ⟨rfl, by first | exact HW.out | (rw [hD]; exact HW.out)⟩
              · obtain ⟨a, ha⟩ : ∃ a : Nat, r0 = (a : Int) := ⟨r0.toNat, by omega⟩
                obtain ⟨b, hb⟩ : ∃ b : Nat, r1 = (b : Int) := ⟨r1.toNat, by omega⟩
                have a0 : 0 < a := by omega
                have b0 : 0 < b := by omega
                have a1 : a ≤ 1000000000 := by omega
                have b1 : b ≤ 1000000000 := by omega
                have ga : ¬ r0 < 1 := by omega
                have gb : ¬ r1 < 1 := by omega
                have RA := Lib.hid (fun W => ivratio_any a b W a0 b0 (by omega) (by omega))
                have RR := Lib.hid (fun W => rratio_any a b W a0 b0 a1 b1)
                rw [← ha, ← hb] at RA RR
                have okr := ra_ok a0 b0 a1 b1
                unfold raN raD raE at RA
                by_cases hrest : Iv.rest a = Iv.rest b
                · simp only [if_pos hrest, (sz_ok okr _).1, (sz_ok okr _).2.1, (sz_ok okr 0).2.2] at RA
                  rw [show decide (Iv.rest a = Iv.rest b) = true from decide_eq_true hrest] at RR
                  obtain ⟨⟨q1, q2⟩, ⟨q3, q4⟩, ⟨q5, q6⟩⟩ := ra_bd a0 b0 a1 b1
                  have SZ := Lib.hid (fun W => lsize_any (Iv.e2 a b) (Iv.e3 a b) (Iv.e5 a b) 1 W (Int.le_trans (by decide) q1) (Int.le_trans q2 (by decide)) (Int.le_trans (by decide) q3) (Int.le_trans q4 (by decide)) (Int.le_trans (by decide) q5) (Int.le_trans q6 (by decide)) (by decide) (by decide))
                  clear q1 q2 q3 q4 q5 q6
                  rw [show (((1 : Nat) : Int)) = 1 from rfl] at RA
                  generalize FracMath.qn (Iv.e2 a b) 1 = v0 at *
                  generalize FracMath.qd (Iv.e2 a b) 1 = v1 at *
                  generalize FracMath.qn (Iv.e3 a b) 1 = v2 at *
                  generalize FracMath.qd (Iv.e3 a b) 1 = v3 at *
                  generalize FracMath.qn (Iv.e5 a b) 1 = v4 at *
                  generalize FracMath.qd (Iv.e5 a b) 1 = v5 at *
                  generalize Iv.e2 a b = g0 at *
                  generalize Iv.e3 a b = g1 at *
                  generalize Iv.e5 a b = g2 at *
                  have hev := eq_size v0 v1 v2 v3 v4 v5
                  clear okr a0 b0 a1 b1 ha hb hrest
                  go_wp2_with fail
                  refine (RA.out _).mono ?_
                  rintro e v141 ⟨rfl, hb_v141⟩
                  have hs_v141 := hw8.size
                  have cR_v141 : v141.heap[D + 1]? = some (.cells #[.int .i64 r0, .int .i64 r1] 44) := (hb_v141.block (D + 1) (Array.getElem?_eq_some_iff.1 (show W8.heap[D + 1]? = some (.cells #[.int .i64 r0, .int .i64 r1] 44) from hR8_)).1).trans hR8_
                  have cO_v141 : v141.heap[EO]? = some (.cells #[.int .i64 x, .int .i64 y, .int .i64 zz, .int .i64 1] 29) := (hb_v141.block (EO) (Array.getElem?_eq_some_iff.1 (show W8.heap[EO]? = some (.cells #[.int .i64 x, .int .i64 y, .int .i64 zz, .int .i64 1] 29) from hO8)).1).trans hO8
                  have hw_v141 : Below D w v141 := (hw8).trans (hb_v141.mono (by first | omega | (simp; omega)))
                  clear hR8_ hO8 hb_v141 hw8 hs_v141
                  obtain ⟨EU, hEU⟩ : ∃ E, v141.heap.size = E := ⟨_, rfl⟩
                  have nUO : EO < EU := by rw [← hEU]; exact (Array.getElem?_eq_some_iff.1 cO_v141).1
                  have ld142 : (v141.alloc (.cells #[.int .i64 v0, .int .i64 v1, .int .i64 v2, .int .i64 v3, .int .i64 v4, .int .i64 v5] 25)).heap[D + 1]? = some (.cells #[.int .i64 r0, .int .i64 r1] 44) := (heap_old (o := .cells #[.int .i64 v0, .int .i64 v1, .int .i64 v2, .int .i64 v3, .int .i64 v4, .int .i64 v5] 25) cR_v141)
                  have y142_0 := cell2_0 ld142
                  have y142_1 := cell2_1 ld142
                  clear ld142
                  go_wp2_with fail
                  refine (RR.out _).mono ?_
                  rintro e v143 ⟨rfl, hb_v143⟩
                  have hs_v143 := hw_v141.size
                  have cR_v143 : v143.heap[D + 1]? = some (.cells #[.int .i64 r0, .int .i64 r1] 44) := (hb_v143.block (D + 1) (Array.getElem?_eq_some_iff.1 (show (v141.alloc (.cells #[.int .i64 v0, .int .i64 v1, .int .i64 v2, .int .i64 v3, .int .i64 v4, .int .i64 v5] 25)).heap[D + 1]? = some (.cells #[.int .i64 r0, .int .i64 r1] 44) from (heap_old (o := .cells #[.int .i64 v0, .int .i64 v1, .int .i64 v2, .int .i64 v3, .int .i64 v4, .int .i64 v5] 25) cR_v141))).1).trans (heap_old (o := .cells #[.int .i64 v0, .int .i64 v1, .int .i64 v2, .int .i64 v3, .int .i64 v4, .int .i64 v5] 25) cR_v141)
                  have cO_v143 : v143.heap[EO]? = some (.cells #[.int .i64 x, .int .i64 y, .int .i64 zz, .int .i64 1] 29) := (hb_v143.block (EO) (Array.getElem?_eq_some_iff.1 (show (v141.alloc (.cells #[.int .i64 v0, .int .i64 v1, .int .i64 v2, .int .i64 v3, .int .i64 v4, .int .i64 v5] 25)).heap[EO]? = some (.cells #[.int .i64 x, .int .i64 y, .int .i64 zz, .int .i64 1] 29) from (heap_old (o := .cells #[.int .i64 v0, .int .i64 v1, .int .i64 v2, .int .i64 v3, .int .i64 v4, .int .i64 v5] 25) cO_v141))).1).trans (heap_old (o := .cells #[.int .i64 v0, .int .i64 v1, .int .i64 v2, .int .i64 v3, .int .i64 v4, .int .i64 v5] 25) cO_v141)
                  have cU_v143 : v143.heap[EU]? = some (.cells #[.int .i64 v0, .int .i64 v1, .int .i64 v2, .int .i64 v3, .int .i64 v4, .int .i64 v5] 25) := (hb_v143.block (EU) (Array.getElem?_eq_some_iff.1 (show (v141.alloc (.cells #[.int .i64 v0, .int .i64 v1, .int .i64 v2, .int .i64 v3, .int .i64 v4, .int .i64 v5] 25)).heap[EU]? = some (.cells #[.int .i64 v0, .int .i64 v1, .int .i64 v2, .int .i64 v3, .int .i64 v4, .int .i64 v5] 25) from (heap_new (by first | omega | (simp; omega))))).1).trans (heap_new (by first | omega | (simp; omega)))
                  have hw_v143 : Below D w v143 := ((hw_v141.alloc (by have := hw_v141.size; first | omega | (simp; omega)) (.cells #[.int .i64 v0, .int .i64 v1, .int .i64 v2, .int .i64 v3, .int .i64 v4, .int .i64 v5] 25))).trans (hb_v143.mono (by first | omega | (simp; omega)))
                  clear cR_v141 cO_v141 hb_v143 y142_0 y142_1 hw_v141 hs_v143
                  have fo0 := free4_0 cO_v143
                  have co0 := cell4_0 cO_v143
                  have fo1 := free4_1 cO_v143
                  have co1 := cell4_1 cO_v143
                  have fo2 := free4_2 cO_v143
                  have co2 := cell4_2 cO_v143
                  have fo3 := free4_3 cO_v143
                  have co3 := cell4_3 cO_v143
                  obtain ⟨Y, hY⟩ : ∃ Y, ((((v143.setCell ⟨EO, 0, none⟩ (.int .i64 g0)).setCell ⟨EO, 1, none⟩ (.int .i64 g1)).setCell ⟨EO, 2, none⟩ (.int .i64 g2)).setCell ⟨EO, 3, none⟩ (.int .i64 1)) = Y := ⟨_, rfl⟩
                  have hwY : Below D w Y := by rw [← hY]; exact ((((hw_v143.setCell (p := ⟨EO, 0, none⟩) (show D ≤ EO by omega) (.int .i64 g0)).setCell (p := ⟨EO, 1, none⟩) (show D ≤ EO by omega) (.int .i64 g1)).setCell (p := ⟨EO, 2, none⟩) (show D ≤ EO by omega) (.int .i64 g2)).setCell (p := ⟨EO, 3, none⟩) (show D ≤ EO by omega) (.int .i64 1))
                  have hOY : Y.heap[EO]? = some (.cells #[.int .i64 g0, .int .i64 g1, .int .i64 g2, .int .i64 1] 29) := by rw [← hY]; exact (set4_3 (x := .int .i64 1) (set4_2 (x := .int .i64 g2) (set4_1 (x := .int .i64 g1) (set4_0 (x := .int .i64 g0) cO_v143))))
                  have hUY : Y.heap[EU]? = some (.cells #[.int .i64 v0, .int .i64 v1, .int .i64 v2, .int .i64 v3, .int .i64 v4, .int .i64 v5] 25) := by rw [← hY]; exact ((set_other (b := EO) (o := 3) (x := .int .i64 1) (show EU ≠ EO by omega)).trans ((set_other (b := EO) (o := 2) (x := .int .i64 g2) (show EU ≠ EO by omega)).trans ((set_other (b := EO) (o := 1) (x := .int .i64 g1) (show EU ≠ EO by omega)).trans ((set_other (b := EO) (o := 0) (x := .int .i64 g0) (show EU ≠ EO by omega)).trans cU_v143))))
                  have HYH := Lib.hid hY
                  clear hY hw_v143 cO_v143 cU_v143 cR_v143
                  go_upto_region 22 with fail
                  rw [HYH.out]
                  go_wp2_with fail
                  have HMR := Lib.hid (show MkR D w [(EU, .cells #[.int .i64 v0, .int .i64 v1, .int .i64 v2, .int .i64 v3, .int .i64 v4, .int .i64 v5] 25), (EO, .cells #[.int .i64 g0, .int .i64 g1, .int .i64 g2, .int .i64 1] 29)] Y from ⟨hwY, fun b o hm => by simp only [List.mem_cons, List.not_mem_nil, or_false, Prod.mk.injEq] at hm; rcases hm with ⟨rfl, rfl⟩ | ⟨rfl, rfl⟩ <;> first | exact hUY | exact hOY⟩)
                  have hMup : ∀ A B : World, Below A.heap.size A B → MkR D w [(EU, .cells #[.int .i64 v0, .int .i64 v1, .int .i64 v2, .int .i64 v3, .int .i64 v4, .int .i64 v5] 25), (EO, .cells #[.int .i64 g0, .int .i64 g1, .int .i64 g2, .int .i64 1] 29)] A → MkR D w [(EU, .cells #[.int .i64 v0, .int .i64 v1, .int .i64 v2, .int .i64 v3, .int .i64 v4, .int .i64 v5] 25), (EO, .cells #[.int .i64 g0, .int .i64 g1, .int .i64 g2, .int .i64 1] 29)] B := fun A B hb h => MkR_up D w [(EU, .cells #[.int .i64 v0, .int .i64 v1, .int .i64 v2, .int .i64 v3, .int .i64 v4, .int .i64 v5] 25), (EO, .cells #[.int .i64 g0, .int .i64 g1, .int .i64 g2, .int .i64 1] 29)] A B hb h (by have := h.1.size; omega)
                  refine wp_region_slots_at rfl rfl (fun base ys => ((((((((base.set 150 (ys 0)).set 151 (ys 1)).set 152 (ys 2)).set 153 (ys 3)).set 154 (ys 4)).set 155 (ys 5)).set 156 (ys 6)).set 157 (ys 7)).set 6 (ys 8)) (BelowI _ (MkR D w [(EU, .cells #[.int .i64 v0, .int .i64 v1, .int .i64 v2, .int .i64 v3, .int .i64 v4, .int .i64 v5] 25), (EO, .cells #[.int .i64 g0, .int .i64 g1, .int .i64 g2, .int .i64 1] 29)]) (mlI (.agg #[.int .i64 v0, .int .i64 v1, .int .i64 v2, .int .i64 v3, .int .i64 v4, .int .i64 v5]) (.agg #[.int .i64 g0, .int .i64 g1, .int .i64 g2, .int .i64 1]))) (fun | 8 => u6 | _ => undef) (by kernel_rfl) (below_start (hMup Y Y.drew ⟨rfl, rfl, rfl, Nat.le_refl _, fun _ _ => rfl⟩ HMR.out)) ?h
                  case h =>
                    intro F hF
                    simp only [List.set_cons_succ, List.set_cons_zero] at hF
                    subst hF
                    refine ⟨rfl, ?_, ?_⟩
                    refine ⟨?_, ?_⟩
                    · refine SlotStep.below hMup (mlI_up _ _) ?_
                      intro ys W9 hR9 hd hK_ hK
                      go_simp
                      have hK2 := hK (.int .i64 0) _ (Below.refl _ _) rfl
                      simp (config := { decide := true }) only [upd, if_true, if_false] at hK2
                      exact hK2
                    refine ⟨?_, ?_⟩
                    · refine SlotStep.below hMup (mlI_up _ _) ?_
                      intro ys W9 hR9 hd hK_ hK
                      have dd0 : ys 0 = (.int .i64 0) := hd 0 (by kernel_rfl) (by decide)
                      go_simp
                      have hK2 := hK (.bool true) _ (Below.refl _ _) rfl
                      simp (config := { decide := true }) only [upd, if_true, if_false, dd0] at hK2
                      exact hK2
                    refine ⟨?_, ?_⟩
                    · refine SlotStep.below hMup (mlI_up _ _) ?_
                      intro ys W9 hR9 hd hK_ hK
                      have dd1 : ys 1 = (.bool true) := hd 1 (by kernel_rfl) (by decide)
                      go_simp
                      have hK2 := hK (.bool true) _ (Below.refl _ _) rfl
                      simp (config := { decide := true }) only [upd, if_true, if_false, dd1] at hK2
                      exact hK2
                    refine ⟨?_, ?_⟩
                    · refine SlotStep.below hMup (mlI_up _ _) ?_
                      intro ys W9 hR9 hd hK_ hK
                      have dd2 : ys 2 = (.bool true) := hd 2 (by kernel_rfl) (by decide)
                      have hh := hR9.2 EU (.cells #[.int .i64 v0, .int .i64 v1, .int .i64 v2, .int .i64 v3, .int .i64 v4, .int .i64 v5] 25) (by simp)
                      have c0 := cell6_0 hh
                      have c1 := cell6_1 hh
                      have c2 := cell6_2 hh
                      have c3 := cell6_3 hh
                      have c4 := cell6_4 hh
                      have c5 := cell6_5 hh
                      go_simp
                      have hK2 := hK ((.agg #[.int .i64 v0, .int .i64 v1, .int .i64 v2, .int .i64 v3, .int .i64 v4, .int .i64 v5])) _ (Below.refl _ _) rfl
                      simp (config := { decide := true }) only [upd, if_true, if_false, dd2] at hK2
                      exact hK2
                    refine ⟨?_, ?_⟩
                    · refine SlotStep.below hMup (mlI_up _ _) ?_
                      intro ys W9 hR9 hd hK_ hK
                      have dd2 : ys 2 = (.bool true) := hd 2 (by kernel_rfl) (by decide)
                      have hh := hR9.2 EO (.cells #[.int .i64 g0, .int .i64 g1, .int .i64 g2, .int .i64 1] 29) (by simp)
                      have c0 := cell4_0 hh
                      have c1 := cell4_1 hh
                      have c2 := cell4_2 hh
                      have c3 := cell4_3 hh
                      go_simp
                      have hK2 := hK ((.agg #[.int .i64 g0, .int .i64 g1, .int .i64 g2, .int .i64 1])) _ (Below.refl _ _) rfl
                      simp (config := { decide := true }) only [upd, if_true, if_false, dd2] at hK2
                      exact hK2
                    refine ⟨?_, ?_⟩
                    · refine SlotStep.below hMup (mlI_up _ _) ?_
                      intro ys W9 hR9 hd hK_ hK
                      have dd2 : ys 2 = (.bool true) := hd 2 (by kernel_rfl) (by decide)
                      have dd4 : ys 4 = ((.agg #[.int .i64 g0, .int .i64 g1, .int .i64 g2, .int .i64 1])) := hd 4 (by kernel_rfl) (by decide)
                      go_simp
                      refine (SZ.out W9).mono ?_
                      rintro e w5 ⟨rfl, hb5⟩
                      have hK2 := hK ((.agg #[.int .i64 v0, .int .i64 v1, .int .i64 v2, .int .i64 v3, .int .i64 v4, .int .i64 v5])) _ hb5 rfl
                      simp (config := { decide := true }) only [upd, if_true, if_false, dd2, dd4] at hK2
                      exact hK2
                    refine ⟨?_, ?_⟩
                    · refine SlotStep.below hMup (mlI_up _ _) ?_
                      intro ys W9 hR9 hd hK_ hK
                      have dd2 : ys 2 = (.bool true) := hd 2 (by kernel_rfl) (by decide)
                      have dd3 : ys 3 = ((.agg #[.int .i64 v0, .int .i64 v1, .int .i64 v2, .int .i64 v3, .int .i64 v4, .int .i64 v5])) := hd 3 (by kernel_rfl) (by decide)
                      have dd5 : ys 5 = ((.agg #[.int .i64 v0, .int .i64 v1, .int .i64 v2, .int .i64 v3, .int .i64 v4, .int .i64 v5])) := hd 5 (by kernel_rfl) (by decide)
                      go_simp
                      have hK2 := hK (.bool true) _ (Below.refl _ _) rfl
                      simp (config := { decide := true }) only [upd, if_true, if_false, dd2, dd3, dd5] at hK2
                      exact hK2
                    refine ⟨?_, ?_⟩
                    · refine SlotStep.below hMup (mlI_up _ _) ?_
                      intro ys W9 hR9 hd hK_ hK
                      have dd2 : ys 2 = (.bool true) := hd 2 (by kernel_rfl) (by decide)
                      have dd6 : ys 6 = (.bool true) := hd 6 (by kernel_rfl) (by decide)
                      go_simp
                      have hK2 := hK (.bool true) _ (Below.refl _ _) rfl
                      simp (config := { decide := true }) only [upd, if_true, if_false, dd2, dd6] at hK2
                      exact hK2
                    refine ⟨?_, ?_⟩
                    · refine SlotStep.below hMup (mlI_up _ _) ?_
                      intro ys W9 hR9 hd hK_ hK
                      have dd7 : ys 7 = (.bool true) := hd 7 (by kernel_rfl) (by decide)
                      go_simp
                      have hK2 := hK (.bool true) _ (Below.refl _ _) rfl
                      simp (config := { decide := true }) only [upd, if_true, if_false, dd7] at hK2
                      exact hK2
                    trivial
                    intro L ys W8 hL hI
                    obtain ⟨hR8, hj⟩ := hI
                    have yl : ys 8 = (.bool true) := hj 8 (by decide) (hL 8 (by decide))
                    have HW := Lib.hid hR8.1
                    clear hR8 hj HMR hMup
                    simp only [yl]
                    go_wp2
                    go_ret
                    exact ⟨rfl, by first | exact HW.out | (rw [hD]; exact HW.out)⟩
                · simp only [if_neg hrest] at RA
                  rw [show decide (Iv.rest a = Iv.rest b) = false from decide_eq_false hrest] at RR
                  generalize Iv.e2 a b = g0 at *
                  generalize Iv.e3 a b = g1 at *
                  generalize Iv.e5 a b = g2 at *
                  clear okr a0 b0 a1 b1 ha hb hrest
                  go_wp2_with fail
                  refine (RA.out _).mono ?_
                  rintro e v141 ⟨rfl, hb_v141⟩
                  have hs_v141 := hw8.size
                  have cR_v141 : v141.heap[D + 1]? = some (.cells #[.int .i64 r0, .int .i64 r1] 44) := (hb_v141.block (D + 1) (Array.getElem?_eq_some_iff.1 (show W8.heap[D + 1]? = some (.cells #[.int .i64 r0, .int .i64 r1] 44) from hR8_)).1).trans hR8_
                  have cO_v141 : v141.heap[EO]? = some (.cells #[.int .i64 x, .int .i64 y, .int .i64 zz, .int .i64 1] 29) := (hb_v141.block (EO) (Array.getElem?_eq_some_iff.1 (show W8.heap[EO]? = some (.cells #[.int .i64 x, .int .i64 y, .int .i64 zz, .int .i64 1] 29) from hO8)).1).trans hO8
                  have hw_v141 : Below D w v141 := (hw8).trans (hb_v141.mono (by first | omega | (simp; omega)))
                  clear hR8_ hO8 hb_v141 hw8 hs_v141
                  obtain ⟨EU, hEU⟩ : ∃ E, v141.heap.size = E := ⟨_, rfl⟩
                  have nUO : EO < EU := by rw [← hEU]; exact (Array.getElem?_eq_some_iff.1 cO_v141).1
                  have ld142 : (v141.alloc (.cells #[.int .i64 0, .int .i64 0, .int .i64 0, .int .i64 0, .int .i64 0, .int .i64 0] 25)).heap[D + 1]? = some (.cells #[.int .i64 r0, .int .i64 r1] 44) := (heap_old (o := .cells #[.int .i64 0, .int .i64 0, .int .i64 0, .int .i64 0, .int .i64 0, .int .i64 0] 25) cR_v141)
                  have y142_0 := cell2_0 ld142
                  have y142_1 := cell2_1 ld142
                  clear ld142
                  go_wp2_with fail
                  refine (RR.out _).mono ?_
                  rintro e v143 ⟨rfl, hb_v143⟩
                  have hs_v143 := hw_v141.size
                  have cR_v143 : v143.heap[D + 1]? = some (.cells #[.int .i64 r0, .int .i64 r1] 44) := (hb_v143.block (D + 1) (Array.getElem?_eq_some_iff.1 (show (v141.alloc (.cells #[.int .i64 0, .int .i64 0, .int .i64 0, .int .i64 0, .int .i64 0, .int .i64 0] 25)).heap[D + 1]? = some (.cells #[.int .i64 r0, .int .i64 r1] 44) from (heap_old (o := .cells #[.int .i64 0, .int .i64 0, .int .i64 0, .int .i64 0, .int .i64 0, .int .i64 0] 25) cR_v141))).1).trans (heap_old (o := .cells #[.int .i64 0, .int .i64 0, .int .i64 0, .int .i64 0, .int .i64 0, .int .i64 0] 25) cR_v141)
                  have cO_v143 : v143.heap[EO]? = some (.cells #[.int .i64 x, .int .i64 y, .int .i64 zz, .int .i64 1] 29) := (hb_v143.block (EO) (Array.getElem?_eq_some_iff.1 (show (v141.alloc (.cells #[.int .i64 0, .int .i64 0, .int .i64 0, .int .i64 0, .int .i64 0, .int .i64 0] 25)).heap[EO]? = some (.cells #[.int .i64 x, .int .i64 y, .int .i64 zz, .int .i64 1] 29) from (heap_old (o := .cells #[.int .i64 0, .int .i64 0, .int .i64 0, .int .i64 0, .int .i64 0, .int .i64 0] 25) cO_v141))).1).trans (heap_old (o := .cells #[.int .i64 0, .int .i64 0, .int .i64 0, .int .i64 0, .int .i64 0, .int .i64 0] 25) cO_v141)
                  have cU_v143 : v143.heap[EU]? = some (.cells #[.int .i64 0, .int .i64 0, .int .i64 0, .int .i64 0, .int .i64 0, .int .i64 0] 25) := (hb_v143.block (EU) (Array.getElem?_eq_some_iff.1 (show (v141.alloc (.cells #[.int .i64 0, .int .i64 0, .int .i64 0, .int .i64 0, .int .i64 0, .int .i64 0] 25)).heap[EU]? = some (.cells #[.int .i64 0, .int .i64 0, .int .i64 0, .int .i64 0, .int .i64 0, .int .i64 0] 25) from (heap_new (by first | omega | (simp; omega))))).1).trans (heap_new (by first | omega | (simp; omega)))
                  have hw_v143 : Below D w v143 := ((hw_v141.alloc (by have := hw_v141.size; first | omega | (simp; omega)) (.cells #[.int .i64 0, .int .i64 0, .int .i64 0, .int .i64 0, .int .i64 0, .int .i64 0] 25))).trans (hb_v143.mono (by first | omega | (simp; omega)))
                  clear cR_v141 cO_v141 hb_v143 y142_0 y142_1 hw_v141 hs_v143
                  have fo0 := free4_0 cO_v143
                  have co0 := cell4_0 cO_v143
                  have fo1 := free4_1 cO_v143
                  have co1 := cell4_1 cO_v143
                  have fo2 := free4_2 cO_v143
                  have co2 := cell4_2 cO_v143
                  have fo3 := free4_3 cO_v143
                  have co3 := cell4_3 cO_v143
                  obtain ⟨Y, hY⟩ : ∃ Y, ((((v143.setCell ⟨EO, 0, none⟩ (.int .i64 g0)).setCell ⟨EO, 1, none⟩ (.int .i64 g1)).setCell ⟨EO, 2, none⟩ (.int .i64 g2)).setCell ⟨EO, 3, none⟩ (.int .i64 1)) = Y := ⟨_, rfl⟩
                  have hwY : Below D w Y := by rw [← hY]; exact ((((hw_v143.setCell (p := ⟨EO, 0, none⟩) (show D ≤ EO by omega) (.int .i64 g0)).setCell (p := ⟨EO, 1, none⟩) (show D ≤ EO by omega) (.int .i64 g1)).setCell (p := ⟨EO, 2, none⟩) (show D ≤ EO by omega) (.int .i64 g2)).setCell (p := ⟨EO, 3, none⟩) (show D ≤ EO by omega) (.int .i64 1))
                  have hOY : Y.heap[EO]? = some (.cells #[.int .i64 g0, .int .i64 g1, .int .i64 g2, .int .i64 1] 29) := by rw [← hY]; exact (set4_3 (x := .int .i64 1) (set4_2 (x := .int .i64 g2) (set4_1 (x := .int .i64 g1) (set4_0 (x := .int .i64 g0) cO_v143))))
                  have hUY : Y.heap[EU]? = some (.cells #[.int .i64 0, .int .i64 0, .int .i64 0, .int .i64 0, .int .i64 0, .int .i64 0] 25) := by rw [← hY]; exact ((set_other (b := EO) (o := 3) (x := .int .i64 1) (show EU ≠ EO by omega)).trans ((set_other (b := EO) (o := 2) (x := .int .i64 g2) (show EU ≠ EO by omega)).trans ((set_other (b := EO) (o := 1) (x := .int .i64 g1) (show EU ≠ EO by omega)).trans ((set_other (b := EO) (o := 0) (x := .int .i64 g0) (show EU ≠ EO by omega)).trans cU_v143))))
                  have HYH := Lib.hid hY
                  clear hY hw_v143 cO_v143 cU_v143 cR_v143
                  go_upto_region 22 with fail
                  rw [HYH.out]
                  have yu0 := cell6_0 hUY
                  have yu1 := cell6_1 hUY
                  have yu2 := cell6_2 hUY
                  have yu3 := cell6_3 hUY
                  have yu4 := cell6_4 hUY
                  have yu5 := cell6_5 hUY
                  have HW := Lib.hid hwY
                  go_wp2
                  go_ret
                  exact ⟨rfl, by first | exact HW.out | (rw [hD]; exact HW.out)⟩
end Go.Proofs.YthdoadkdofgenaaGreatDoor
