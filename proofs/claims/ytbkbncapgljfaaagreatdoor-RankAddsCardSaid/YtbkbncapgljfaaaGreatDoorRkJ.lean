/- The law's row: a rank of some pipes with the wind 1. -/
import Derived.Test.YtbkbncapgljfaaaGreatDoorRkE
import Derived.Maps.AppendAt
import Derived.Shelf.Spec.SlicesGrow
import Derived.Test.YtbkbncapgljfaaaGreatDoorProg
namespace Go.Proofs.YtbkbncapgljfaaaGreatDoor
open Go Go.RowKit Go.Shelf

theorem info_int : (Tryz.prog.info? 3).map (fun i => (i.zero, i.size, i.bytes)) = some (some (.int .i64 0), 1, 8) := by kernel_rfl
theorem cell_one_new (w : World) (x0 : Value) (t : TypeId) : ∀ j u, [x0][j]? = some u → (w.alloc (.cells #[x0] t)).cell? ((⟨w.heap.size, 0, none⟩ : Addr).add j) = some u := by
  intro j u hj
  match j, hj with
  | 0, hj => simp at hj; subst hj; simp [Addr.add]
  | _ + 1, hj => simp at hj
/-- Out of a row of one's own: a slice of ints. -/
theorem wd_of {W : World} {base n : Nat} {v : Value} {X : Nat → Int} {xs : List Value} (h : W.ownsRow base 3 1 v n xs) (hx : ∀ k, k < n → xs[k]? = some (.int .i64 (X k))) : Wd W v n X := by
  rcases h.2 with ⟨rfl, rfl⟩ | ⟨g, cap, cur, rfl, h2, h3, h4, h5, h6, h7⟩
  · exact .inl ⟨rfl, _, _, rfl⟩
  · refine .inr ⟨g, 0, cap, rfl, h4, (Array.getElem?_eq_some_iff.1 h3).1, fun k hk => ?_⟩
    have := hx k hk
    rw [← h7, List.getElem?_take_of_lt (by omega)] at this
    simp only [World.cell?, h3, Nat.zero_add]
    simpa using this
theorem cell6_at {W : World} {b : Nat} {c0 c1 c2 c3 c4 c5 : Value} {T : TypeId} (h : W.heap[b]? = some (.cells #[c0, c1, c2, c3, c4, c5] T)) : W.cell? ⟨b, 0, none⟩ = some c0 ∧ W.cell? ⟨b, 1, none⟩ = some c1 ∧ W.cell? ⟨b, 2, none⟩ = some c2 ∧ W.cell? ⟨b, 3, none⟩ = some c3 ∧ W.cell? ⟨b, 4, none⟩ = some c4 ∧ W.cell? ⟨b, 5, none⟩ = some c5 :=
  ⟨cell6_0 h, cell6_1 h, cell6_2 h, cell6_3 h, cell6_4 h, cell6_5 h⟩
theorem free6_at {W : World} {b : Nat} {c0 c1 c2 c3 c4 c5 : Value} {T : TypeId} (h : W.heap[b]? = some (.cells #[c0, c1, c2, c3, c4, c5] T)) : W.frozen? ⟨b, 0, none⟩ = false ∧ W.frozen? ⟨b, 1, none⟩ = false ∧ W.frozen? ⟨b, 2, none⟩ = false ∧ W.frozen? ⟨b, 3, none⟩ = false ∧ W.frozen? ⟨b, 4, none⟩ = false ∧ W.frozen? ⟨b, 5, none⟩ = false :=
  ⟨free6_0 h, free6_1 h, free6_2 h, free6_3 h, free6_4 h, free6_5 h⟩
theorem set6_all {W : World} {b : Nat} {c0 c1 c2 c3 c4 c5 x0 x1 x2 x3 x4 x5 : Value} {T : TypeId} (h : W.heap[b]? = some (.cells #[c0, c1, c2, c3, c4, c5] T)) :
    ((((((W.setCell ⟨b, 0, none⟩ x0).setCell ⟨b, 1, none⟩ x1).setCell ⟨b, 2, none⟩ x2).setCell ⟨b, 3, none⟩ x3).setCell ⟨b, 4, none⟩ x4).setCell ⟨b, 5, none⟩ x5).heap[b]? = some (.cells #[x0, x1, x2, x3, x4, x5] T) :=
  set6_5 (set6_4 (set6_3 (set6_2 (set6_1 (set6_0 h)))))
theorem below6 {B : Nat} {w W : World} {b : Nat} (h : Below B w W) (hb : B ≤ b) (x0 x1 x2 x3 x4 x5 : Value) :
    Below B w ((((((W.setCell ⟨b, 0, none⟩ x0).setCell ⟨b, 1, none⟩ x1).setCell ⟨b, 2, none⟩ x2).setCell ⟨b, 3, none⟩ x3).setCell ⟨b, 4, none⟩ x4).setCell ⟨b, 5, none⟩ x5) :=
  (((((h.setCell (p := ⟨b, 0, none⟩) hb _).setCell (p := ⟨b, 1, none⟩) hb _).setCell (p := ⟨b, 2, none⟩) hb _).setCell (p := ⟨b, 3, none⟩) hb _).setCell (p := ⟨b, 4, none⟩) hb _).setCell (p := ⟨b, 5, none⟩) hb _
theorem other6 {W : World} {b k : Nat} {x0 x1 x2 x3 x4 x5 : Value} (h : k ≠ b) :
    ((((((W.setCell ⟨b, 0, none⟩ x0).setCell ⟨b, 1, none⟩ x1).setCell ⟨b, 2, none⟩ x2).setCell ⟨b, 3, none⟩ x3).setCell ⟨b, 4, none⟩ x4).setCell ⟨b, 5, none⟩ x5).heap[k]? = W.heap[k]? :=
  (set_other h).trans ((set_other h).trans ((set_other h).trans ((set_other h).trans ((set_other h).trans (set_other h)))))
theorem owns_set {W : World} {base k size : Nat} {e : TypeId} {v : Value} {xs : List Value} (h : W.ownsRow base e size v k xs) {b o : Nat} {x : Value} (hb : b < base) : (W.setCell ⟨b, o, none⟩ x).ownsRow base e size v k xs :=
  ⟨h.1, h.2.imp id fun ⟨g, cap, cur, h1, h2, h3, h4⟩ => ⟨g, cap, cur, h1, h2, (set_other (by omega)).trans h3, h4⟩⟩

set_option maxRecDepth 100000 in
set_option maxHeartbeats 4000000 in
theorem row_c (ft f : Int) (p : Nat) (hp : p ≤ 1000) (w : World) :
    Calls Tryz.prog 28 #[.int .i64 ft, .int .i64 f, .int .i64 p] w fun e w' => (∃ v, e = .returned (.agg #[.string ⟨#[82, 111, 119]⟩, .string ⟨#[79, 112, 101, 110]⟩, .int .i64 ft, .int .i64 1, .int .i64 f, v]) ∧ Wd w' v p (fun _ => 1)) ∧ Below w.heap.size w w' := by
  obtain ⟨i0, hi0, hz0, hz1, hz2⟩ := info_parts info_int
  obtain ⟨D, hD⟩ : ∃ D, w.heap.size = D := ⟨_, rfl⟩
  obtain ⟨V, hV⟩ : ∃ V, (w.alloc (.cells #[.string ⟨#[]⟩, .string ⟨#[]⟩, .int .i64 0, .int .i64 0, .int .i64 0, .slice none 0 0] 26)).alloc (.cells #[.string ⟨#[82, 111, 119]⟩, .string ⟨#[79, 112, 101, 110]⟩, .int .i64 ft, .int .i64 1, .int .i64 f, .slice none 0 0] 26) = V := ⟨_, rfl⟩
  have hwV : Below D w V := by rw [← hV]; exact ((Below.refl _ w).alloc (by omega) _).alloc (by simp; omega) _
  have p0 : V.heap[D]? = some (.cells #[.string ⟨#[]⟩, .string ⟨#[]⟩, .int .i64 0, .int .i64 0, .int .i64 0, .slice none 0 0] 26) := by rw [← hV]; exact heap_old (heap_new hD.symm)
  have p1 : V.heap[D + 1]? = some (.cells #[.string ⟨#[82, 111, 119]⟩, .string ⟨#[79, 112, 101, 110]⟩, .int .i64 ft, .int .i64 1, .int .i64 f, .slice none 0 0] 26) := by rw [← hV]; exact heap_new (by simp [hD])
  have HV := Lib.hid (And.intro hwV (And.intro p0 p1))
  have HVE := Lib.hid hV
  clear hwV p0 p1 hV
  go_enter Tryz.func28, Tryz.ntmps28
  go_upto_region 2 with fail
  rw [HVE.out]
  go_wp2_with fail
  go_loopw [8] (fun i wr => ∃ (k : Nat) (v : Value), k ≤ p ∧ i = .int .i64 (k : Int) ∧ Below D w wr ∧ wr.heap[D]? = some (.cells #[.string ⟨#[]⟩, .string ⟨#[]⟩, .int .i64 0, .int .i64 0, .int .i64 0, .slice none 0 0] 26) ∧ wr.heap[D + 1]? = some (.cells #[.string ⟨#[82, 111, 119]⟩, .string ⟨#[79, 112, 101, 110]⟩, .int .i64 ft, .int .i64 1, .int .i64 f, v] 26) ∧ wr.ownsRow (D + 2) 3 1 v k (List.replicate k (.int .i64 1))) (fun i _ => (p - intOf i).toNat)
  case atStart => exact ⟨0, .slice none 0 0, Nat.zero_le _, rfl, HV.out.1, HV.out.2.1, HV.out.2.2, World.ownsRow_nil _ _ _ _⟩
  case round =>
    obtain ⟨k, v, hk, rfl, hw, p0, p1, hrow⟩ := hrel
    obtain ⟨sa, sm, sc, rfl⟩ : ∃ sa m c, v = .slice sa m c := by
      rcases hrow.2 with ⟨h, _⟩ | ⟨g, c, _, h, _⟩
      · exact ⟨_, _, _, h⟩
      · exact ⟨_, _, _, h⟩
    clear HV
    obtain ⟨c0, c1, c2, c3, c4, c5⟩ := cell6_at p1
    have hlt := (Array.getElem?_eq_some_iff.1 p1).1
    by_cases hkp : k < p
    · have hki : (k : Int) < (p : Int) := by omega
      have wk := wrap_in (q := (k : Int) + 1) (by omega) (by omega)
      have HP := Lib.hid (And.intro hw (And.intro p0 p1))
      clear hw p0 p1
      go_wp2_with (at_builtin; refine wpList_append_own _ rfl _ _ 24 rfl (D + 2) 3 i0 (.int .i64 0) 1 8 Tryz.underlying24 hi0 hz0 hz1 hz2 rfl (by decide) _ _ _ rfl (hrow.alloc _) ⟨wr.heap.size, 0, none⟩ 1 1 [.int .i64 1] rfl rfl (cell_one_new _ _ _) (by simp [Value.oneCell']) (by unfold maxLen; omega) (by omega) (by simp; omega) ?_; intro v' w6 hown' hgrow _; obtain ⟨g', cap', rfl⟩ := ownsRow_succ hown'; have hg6 := grown_below (by omega) hrow hgrow; have q1 := (hg6.block (D + 1) (by omega)).trans HP.out.2.2; obtain ⟨d0, d1, d2, d3, d4, d5⟩ := cell6_at q1; obtain ⟨f0, f1, f2, f3, f4, f5⟩ := free6_at q1)
      have q0 := (hg6.block D (by omega)).trans HP.out.2.1
      have hw6 := HP.out.1.trans (hg6.mono (by omega))
      go_roundw
      case rel => exact ⟨k + 1, _, by omega, rfl, hw6.setCell (p := ⟨D + 1, 5, none⟩) (by simp) _, (set_other (by omega)).trans q0, set6_5 q1, by rw [List.replicate_succ']; exact owns_set hown' (by omega)⟩
      case measure => simp [intOf]; omega
    · obtain rfl : k = p := by omega
      have hki : ¬ (k : Int) < (k : Int) := by omega
      obtain ⟨d0, d1, d2, d3, d4, d5⟩ := cell6_at p0
      obtain ⟨f0, f1, f2, f3, f4, f5⟩ := free6_at p0
      have HWd := Lib.hid (wd_of (X := fun _ => 1) hrow (fun j hj => by rw [List.getElem?_replicate, if_pos hj]))
      have hE := set6_all (x0 := .string ⟨#[82, 111, 119]⟩) (x1 := .string ⟨#[79, 112, 101, 110]⟩) (x2 := .int .i64 ft) (x3 := .int .i64 1) (x4 := .int .i64 f) (x5 := (.slice sa sm sc)) p0
      have HW := Lib.hid (below6 hw (Nat.le_refl D) (.string ⟨#[82, 111, 119]⟩) (.string ⟨#[79, 112, 101, 110]⟩) (.int .i64 ft) (.int .i64 1) (.int .i64 f) (.slice sa sm sc))
      obtain ⟨U, hU⟩ : ∃ U, ((((((wr.setCell ⟨D, 0, none⟩ (.string ⟨#[82, 111, 119]⟩)).setCell ⟨D, 1, none⟩ (.string ⟨#[79, 112, 101, 110]⟩)).setCell ⟨D, 2, none⟩ (.int .i64 ft)).setCell ⟨D, 3, none⟩ (.int .i64 1)).setCell ⟨D, 4, none⟩ (.int .i64 f)).setCell ⟨D, 5, none⟩ (.slice sa sm sc)) = U := ⟨_, rfl⟩
      have HU := Lib.hid (show Wd U (.slice sa sm sc) k (fun _ => 1) by
        rw [← hU]
        exact wd_of (X := fun _ => 1) (owns_set (owns_set (owns_set (owns_set (owns_set (owns_set hrow (by omega)) (by omega)) (by omega)) (by omega)) (by omega)) (by omega)) (fun j hj => by rw [List.getElem?_replicate, if_pos hj]))
      rw [hU] at hE HW
      obtain ⟨z0, z1, z2, z3, z4, z5⟩ := cell6_at hE
      have HUU := Lib.hid hU
      clear hU hE p0 p1 hrow hw HWd
      go_wp2
      rw [HUU.out]
      exact bodyPost_ret (v := .agg #[.string ⟨#[82, 111, 119]⟩, .string ⟨#[79, 112, 101, 110]⟩, .int .i64 ft, .int .i64 1, .int .i64 f, (.slice sa sm sc)]) (by simp [results, Tryz.results28, go_sem, z0, z1, z2, z3, z4, z5]) rfl ⟨⟨(.slice sa sm sc), rfl, HU.out⟩, hD ▸ HW.out⟩
end Go.Proofs.YtbkbncapgljfaaaGreatDoor
/- The laying of slices.Grow over ints. -/
namespace Go.Proofs
open Go.Shelf
def Tryz.lays84_ren : Go.Shelf.Ren := ⟨fun | 4 => 56 | n => n, fun | 0 => 0 | 3 => 3 | 4 => 4 | 9 => 9 | 20 => 20 | 22 => 24 | 25 => 3 | n => n, fun | n => n⟩
theorem Tryz.lays84 : Go.Proofs.Lays8.n4 Tryz.prog Tryz.lays84_ren := {
  mixed := by kernel_rfl
  f4 := ⟨"slices.Grow[[]int,int]", by decide, Tryz.func56.trans (congrArg some (by kernel_rfl))⟩
  t0 := Tryz.underlying0
  a0 := Tryz.isAgg0
  z0 := Tryz.sizeOf0
  v0 := Tryz.zeroValue0
  t3 := Tryz.underlying3
  a3 := Tryz.isAgg3
  z3 := Tryz.sizeOf3
  v3 := Tryz.zeroValue3
  t4 := Tryz.underlying4
  a4 := Tryz.isAgg4
  z4 := Tryz.sizeOf4
  v4 := Tryz.zeroValue4
  t9 := Tryz.underlying9
  a9 := Tryz.isAgg9
  z9 := Tryz.sizeOf9
  v9 := Tryz.zeroValue9
  t20 := Tryz.underlying20
  a20 := Tryz.isAgg20
  z20 := Tryz.sizeOf20
  v20 := Tryz.zeroValue20
  t22 := Tryz.underlying24
  a22 := Tryz.isAgg24
  z22 := Tryz.sizeOf24
  v22 := Tryz.zeroValue24 }
end Go.Proofs
/- Contracts of slices.Grow out of nothing and slices.Concat over slices of ints that are not empty. -/
namespace Go.Proofs.YtbkbncapgljfaaaGreatDoor
open Go Go.RowKit Go.Shelf

theorem grow_c (n : Nat) (h0 : 0 < n) (h1 : n ≤ 1000000) (w : World) :
    Calls Tryz.prog 56 #[.slice none 0 0, .int .i64 n] w fun e w' => (∃ g cap, e = .returned (.slice (some ⟨g, 0, none⟩) 0 cap) ∧ w'.ownsRow w.heap.size 3 1 (.slice (some ⟨g, 0, none⟩) 0 cap) 0 []) ∧ Below w.heap.size w w' := by
  obtain ⟨i0, hi0, hz0, hz1, hz2⟩ := info_parts info_int
  refine (Any8.slices_Grow_grow Tryz.lays84 i0 (.int .i64 0) hi0 hz0 (by rw [hz1]; decide) none 0 0 n [] w (Nat.le_refl _) (by omega) (by rw [hz2]; omega) (by omega) (by simp) (fun _ => rfl) (fun a ha => by cases ha)).mono ?_
  rintro e w' ⟨rfl, rfl⟩
  have hge := grownCap_ge w (0 + n) 0 3
  have hle := grownCap_le_maxLen w (0 + n) 0 3 (by unfold maxLen; omega)
  have hren : Tryz.lays84_ren.t 25 = 3 := rfl
  have hge' := hge
  have hle' := hle
  rw [Nat.zero_add] at hge' hle'
  refine ⟨⟨_, _, rfl, rfl, .inr ⟨w.heap.size, _, _, rfl, Nat.le_refl _, World.alloc_heap_new w.drew _, Nat.zero_le _, hle, ?_, ?_⟩⟩, ?_⟩
  · have e : ∀ m, (Builtin.zeroCells (Value.int .i64 0).cells m).size = m := fun m => by simp [size_zeroCells, Value.cells]
    simp only [Array.size_append, e]
    simp only [hren, Nat.zero_add, List.size_toArray, List.length_nil]
    omega
  · simp
  · exact (Below.refl w.heap.size w).drew.alloc (Nat.le_refl _) _

theorem grown_below0 {W w1 : World} {B e size : Nat} {v : Value} {k : Nat} {xs : List Value} (hB : B ≤ W.heap.size) (hrow : W.ownsRow B e size v k xs) (hg : W.grownBy w1 v.ownBlock) : Below B W w1 :=
  (Below.refl B W).grown hg hB (fun g hgv => by
    rcases hrow.2 with ⟨rfl, _⟩ | ⟨g', cap, cur, rfl, h1, _⟩
    · cases hgv
    · simp [Value.ownBlock] at hgv
      omega)
/-- Sums of the lengths, and what the joined slice has. -/
def sumN (N : Nat → Nat) : Nat → Nat
  | 0 => 0
  | j + 1 => sumN N j + N j
def catL (N : Nat → Nat) (X : Nat → Nat → Int) : Nat → List Value
  | 0 => []
  | j + 1 => catL N X j ++ (List.range (N j)).map (fun k => .int .i64 (X j k))
theorem catL_len (N : Nat → Nat) (X : Nat → Nat → Int) : ∀ j, (catL N X j).length = sumN N j
  | 0 => rfl
  | j + 1 => by rw [catL, sumN, List.length_append, catL_len N X j]; simp
theorem sumN_mono (N : Nat → Nat) : ∀ {i j : Nat}, i ≤ j → sumN N i ≤ sumN N j
  | i, 0, h => by obtain rfl : i = 0 := by omega
                  exact Nat.le_refl _
  | i, j + 1, h => by
    by_cases e : i = j + 1
    · subst e; exact Nat.le_refl _
    · have := sumN_mono N (i := i) (j := j) (by omega)
      rw [sumN]; omega

set_option maxRecDepth 100000 in
set_option maxHeartbeats 4000000 in
theorem concat_c (B C m : Nat) (V : Nat → Value) (N : Nat → Nat) (X : Nat → Nat → Int) (hm : 0 < m) (hm2 : m ≤ 1000) (hpos : ∀ j, j < m → 0 < N j) (hT : sumN N m ≤ 1000000) (w : World) (hB : B < w.heap.size)
    (hv : ∀ j, j < m → w.cell? ⟨B, j, none⟩ = some (V j)) (hw : ∀ j, j < m → Wd w (V j) (N j) (X j)) :
    Calls Tryz.prog 49 #[.slice (some ⟨B, 0, none⟩) m C] w fun e w' => (∃ v, e = .returned v ∧ w'.ownsRow w.heap.size 3 1 v (sumN N m) (catL N X m)) ∧ Below w.heap.size w w' := by
  have hs0 : 0 < sumN N m := by
    have h1 := sumN_mono N (i := 1) (j := m) (by omega)
    have h2 := hpos 0 hm
    simp only [sumN] at h1
    omega
  have GR := Lib.hid (fun W => grow_c (sumN N m) hs0 hT W)
  have HV := Lib.hid hv
  have HW := Lib.hid hw
  have HPOS := Lib.hid hpos
  have HM := Lib.hid (fun i (h : i ≤ m) => Nat.le_trans (sumN_mono N h) hT)
  have HS := Lib.hid (fun j => show sumN N (j + 1) = sumN N j + N j from rfl)
  have HC := Lib.hid (fun j => show catL N X (j + 1) = catL N X j ++ (List.range (N j)).map (fun k => .int .i64 (X j k)) from rfl)
  have H0 := Lib.hid (show sumN N 0 = 0 from rfl)
  have HC0 := Lib.hid (show catL N X 0 = [] from rfl)
  obtain ⟨S, hS⟩ : ∃ f, sumN N = f := ⟨_, rfl⟩
  obtain ⟨L, hL⟩ : ∃ f, catL N X = f := ⟨_, rfl⟩
  rw [hS] at GR HM HS H0 hs0 hT
  rw [hL] at HC HC0
  rw [hS, hL]
  clear hv hw hpos hS hL
  obtain ⟨D, hD⟩ : ∃ D, w.heap.size = D := ⟨_, rfl⟩
  rw [hD]
  obtain ⟨i0, hi0, hz0, hz1, hz2⟩ := info_parts info_int
  go_enter Tryz.func49, Tryz.ntmps49
  go_wp2_with fail
  go_loopw [3, 11] (fun s i wr => ∃ j : Nat, j ≤ m ∧ s = .int .i64 (S j : Int) ∧ i = .int .i64 (j : Int) ∧ wr = w) (fun _ i _ => (m - intOf i).toNat)
  case atStart => exact ⟨0, Nat.zero_le _, by rw [H0.out]; rfl, rfl, by first | rfl | trivial⟩
  case round =>
    obtain ⟨j, hj, rfl, rfl, hwr⟩ := hrel
    subst wr
    by_cases hjm : j < m
    · have hji : (j : Int) < (m : Int) := by omega
      have c0 := HV.out j hjm
      obtain ⟨sa, sc, hVj⟩ := (HW.out j hjm).len
      rw [hVj] at c0
      have b1 := HM.out (j + 1) hjm
      rw [HS.out] at b1
      have q1 := wrap_in (q := (S j : Int) + (N j : Int)) (by omega) (by omega)
      have q2 := wrap_in (q := (j : Int) + 1) (by omega) (by omega)
      have q3 : ¬ (S j : Int) + (N j : Int) < 0 := by omega
      clear hVj
      go_wp2_with fail
      go_roundw
      case rel => exact ⟨j + 1, hjm, by rw [HS.out]; congr 1, rfl, by first | rfl | trivial⟩
      case measure => simp [intOf]; omega
    · obtain rfl : j = m := by omega
      have hji : ¬ (j : Int) < (j : Int) := by omega
      go_wp2_with fail
      refine (GR.out _).mono ?_
      rintro e w1 ⟨⟨g1, cap1, rfl, hrow1⟩, hb1⟩
      rw [hD] at hrow1 hb1
      have HR1 := Lib.hid (And.intro hrow1 hb1)
      clear hrow1 hb1
      go_wp2_with fail
      go_loopw [6, 27] (fun v i wr => ∃ t : Nat, t ≤ j ∧ i = .int .i64 (t : Int) ∧ wr.ownsRow D 3 1 v (S t) (L t) ∧ Below D w wr) (fun _ i _ => (j - intOf i).toNat)
      case atStart => exact ⟨0, Nat.zero_le _, rfl, by rw [H0.out, HC0.out]; exact HR1.out.1, HR1.out.2⟩
      case round =>
        obtain ⟨t, ht, rfl, hrow, hb⟩ := hrel
        clear HR1
        by_cases htj : t < j
        · have hti : (t : Int) < (j : Int) := by omega
          have c0 := (hb.cell (p := ⟨B, t, none⟩) (show B < D by omega)).trans (HV.out t htj)
          obtain ⟨g, o, cap, hVt, hcap, hg, hel⟩ : ∃ g o cap, V t = .slice (some ⟨g, o, none⟩) (N t) cap ∧ N t ≤ cap ∧ g < w.heap.size ∧ ∀ k, k < N t → w.cell? ⟨g, o + k, none⟩ = some (.int .i64 (X t k)) := by
            rcases HW.out t htj with ⟨h, _⟩ | h
            · have := HPOS.out t htj; omega
            · exact h
          rw [hVt] at c0
          have b1 := HM.out (t + 1) htj
          rw [HS.out] at b1
          have q2 := wrap_in (q := (t : Int) + 1) (by omega) (by omega)
          have hN : ∀ k u, ((List.range (N t)).map fun k => Value.int .i64 (X t k))[k]? = some u → wr.cell? (({ block := g, off := o } : Addr).add k) = some u := by
            intro k u hu
            have hk : k < N t := by
              have := (List.getElem?_eq_some_iff.1 hu).1
              simpa using this
            simp [hk] at hu
            rw [← hu]
            have hx := (hb.cell (p := ⟨g, o + k, none⟩) (show g < D by omega)).trans (hel k hk)
            by_cases e : k = 0
            · subst e; simpa [Addr.add] using hx
            · simpa [Addr.add, e] using hx
          have h1 : ∀ u ∈ (List.range (N t)).map fun k => Value.int .i64 (X t k), u.oneCell' = true := by
            intro u hu
            obtain ⟨k, _, rfl⟩ := List.mem_map.1 hu
            rfl
          have hDr : D ≤ wr.heap.size := hD ▸ hb.size
          have HEL := Lib.hid (And.intro hN h1)
          have HB1 := Lib.hid hb
          have HR := Lib.hid hrow
          clear hVt hel hb hN h1
          obtain ⟨sa, sm, sc, hv0⟩ : ∃ sa m c, u6 = .slice sa m c := by
            rcases hrow.2 with ⟨h, _⟩ | ⟨g, c, _, h, _⟩
            · exact ⟨_, _, _, h⟩
            · exact ⟨_, _, _, h⟩
          go_wp2_with (at_builtin; refine wpList_append_own _ rfl _ _ 24 rfl D 3 i0 (.int .i64 0) 1 8 Tryz.underlying24 hi0 hz0 hz1 hz2 rfl (by decide) _ _ _ rfl HR.out ⟨g, o, none⟩ (N t) _ _ rfl (by simp) HEL.out.1 HEL.out.2 (by unfold maxLen; omega) (by omega) hDr ?_; intro v' w6 hown' hgrow _)
          have hb6 := HB1.out.trans (grown_below0 hDr HR.out hgrow)
          go_roundw
          case rel => exact ⟨t + 1, htj, rfl, by rw [HS.out, HC.out]; exact hown', hb6⟩
          case measure => simp [intOf]; omega
        · obtain rfl : t = j := by omega
          have hti : ¬ (t : Int) < (t : Int) := by omega
          have HF := Lib.hid (And.intro hrow hb)
          clear hrow hb
          go_wp2_with fail
          exact bodyPost_ret (by simp [results, Tryz.results49, go_sem]) rfl ⟨⟨_, rfl, HF.out.1⟩, HF.out.2⟩
end Go.Proofs.YtbkbncapgljfaaaGreatDoor
/- The contract of rank's changed. -/
namespace Go.Proofs.YtbkbncapgljfaaaGreatDoor
open Go Go.RowKit Go.Shelf

theorem owns_base {W : World} {A B n size : Nat} {e : TypeId} {v : Value} {xs : List Value} (h : W.ownsRow A e size v n xs) (hb : B ≤ A) : W.ownsRow B e size v n xs :=
  ⟨h.1, h.2.imp id fun ⟨g, cap, cur, h1, h2, h3⟩ => ⟨g, cap, cur, h1, Nat.le_trans hb h2, h3⟩⟩
theorem owns_below {W U : World} {B n size : Nat} {e : TypeId} {v : Value} {xs : List Value} (h : W.ownsRow B e size v n xs) (hb : Below W.heap.size W U) : U.ownsRow B e size v n xs :=
  ⟨h.1, h.2.imp id fun ⟨g, cap, cur, h1, h2, h3, h4⟩ => ⟨g, cap, cur, h1, h2, (hb.block g (Array.getElem?_eq_some_iff.1 h3).1).trans h3, h4⟩⟩
theorem owns_open {W : World} {A B n size : Nat} {e : TypeId} {v : Value} {xs : List Value} (hb : B ≤ A) (h : W.ownsRow A e size v n xs) : ∃ sa sm sc, v = .slice sa sm sc ∧ W.ownsRow B e size (.slice sa sm sc) n xs := by
  have h := owns_base h hb
  rcases h.2 with ⟨rfl, _⟩ | ⟨g, cap, cur, rfl, _⟩
  · exact ⟨_, _, _, rfl, h⟩
  · exact ⟨_, _, _, rfl, h⟩

def chI (D : Nat) (nm tn : ByteArray) (a b f : Int) (bk m cp T : Nat) (XS : List Value) : Nat → Value → World → Prop
  | 0, v, _ => v = .pointer (some ⟨D, 0, none⟩)
  | 1, v, _ => v = .string nm
  | 2, v, _ => v = .pointer (some ⟨D, 1, none⟩)
  | 3, v, _ => v = .string tn
  | 4, v, _ => v = .pointer (some ⟨D, 2, none⟩)
  | 5, v, _ => v = .agg #[.int .i64 a, .int .i64 b]
  | 6, v, _ => v = .int .i64 f
  | 7, v, _ => v = .slice (some ⟨bk, 0, none⟩) m cp
  | 8, v, W => ∃ sa sm sc, v = .slice sa sm sc ∧ W.ownsRow (D + 2) 3 1 (.slice sa sm sc) T XS
  | 9, v, W => ∃ sa sm sc, v = .agg #[.string nm, .string tn, .int .i64 a, .int .i64 b, .int .i64 f, .slice sa sm sc] ∧ W.ownsRow (D + 2) 3 1 (.slice sa sm sc) T XS
  | _, _, _ => True
theorem chI_up (D : Nat) (nm tn : ByteArray) (a b f : Int) (bk m cp T : Nat) (XS : List Value) : ∀ (j : Nat) (v : Value) (A B : World), Below A.heap.size A B → chI D nm tn a b f bk m cp T XS j v A → chI D nm tn a b f bk m cp T XS j v B
  | 0, _, _, _, _, h => h
  | 1, _, _, _, _, h => h
  | 2, _, _, _, _, h => h
  | 3, _, _, _, _, h => h
  | 4, _, _, _, _, h => h
  | 5, _, _, _, _, h => h
  | 6, _, _, _, _, h => h
  | 7, _, _, _, _, h => h
  | 8, _, _, _, hb, h => (by obtain ⟨sa, sm, sc, h1, h2⟩ := h; exact ⟨sa, sm, sc, h1, owns_below h2 hb⟩)
  | 9, _, _, _, hb, h => (by obtain ⟨sa, sm, sc, h1, h2⟩ := h; exact ⟨sa, sm, sc, h1, owns_below h2 hb⟩)
  | 10, _, _, _, _, h => h
  | _ + 11, _, _, _, _, _ => trivial

set_option maxRecDepth 100000 in
set_option maxHeartbeats 4000000 in
theorem changed_c (nm tn : ByteArray) (a b g f : Int) (v0 : Value) (bk cp m : Nat) (V : Nat → Value) (N : Nat → Nat) (X : Nat → Nat → Int) (hv0 : ∃ x y z, v0 = .slice x y z) (hm : 0 < m) (hm2 : m ≤ 1000) (hpos : ∀ j, j < m → 0 < N j) (hT : sumN N m ≤ 1000000) (w : World) (hB : bk < w.heap.size)
    (hv : ∀ j, j < m → w.cell? ⟨bk, j, none⟩ = some (V j)) (hw : ∀ j, j < m → Wd w (V j) (N j) (X j)) :
    Calls Tryz.prog 42 #[.agg #[.string nm, .string tn, .int .i64 a, .int .i64 b, .int .i64 g, v0], .int .i64 f, .slice (some ⟨bk, 0, none⟩) m cp] w fun e w' => (∃ sa sm sc, e = .returned (.agg #[.string nm, .string tn, .int .i64 a, .int .i64 b, .int .i64 f, .slice sa sm sc]) ∧ w'.ownsRow w.heap.size 3 1 (.slice sa sm sc) (sumN N m) (catL N X m)) ∧ Below w.heap.size w w' := by
  have CC := Lib.hid (fun (W : World) (h : Below w.heap.size w W) => concat_c bk cp m V N X hm hm2 hpos hT W (Nat.lt_of_lt_of_le hB h.size) (fun j hj => (h.cell (p := ⟨bk, j, none⟩) hB).trans (hv j hj)) (fun j hj => (hw j hj).below h))
  clear hv hw hpos hm hm2 hT
  obtain ⟨x0, y0, z0, rfl⟩ := hv0
  obtain ⟨T, hTT⟩ : ∃ T, sumN N m = T := ⟨_, rfl⟩
  obtain ⟨XS, hXS⟩ : ∃ T, catL N X m = T := ⟨_, rfl⟩
  rw [hTT, hXS] at CC
  rw [hTT, hXS]
  clear hTT hXS
  obtain ⟨D, hD⟩ : ∃ D, w.heap.size = D := ⟨_, rfl⟩
  rw [hD] at hB CC
  rw [hD]
  obtain ⟨V1, hV⟩ : ∃ V1, (w.alloc (.cells #[.string nm, .string tn, .int .i64 a, .int .i64 b, .int .i64 g, .slice x0 y0 z0] 26)).alloc (.cells #[.string ⟨#[]⟩, .string ⟨#[]⟩, .int .i64 0, .int .i64 0, .int .i64 0, .slice none 0 0] 26) = V1 := ⟨_, rfl⟩
  have hwV : Below D w V1 := by rw [← hV]; exact ((Below.refl _ w).alloc (by omega) _).alloc (by simp; omega) _
  have p0 : V1.heap[D]? = some (.cells #[.string nm, .string tn, .int .i64 a, .int .i64 b, .int .i64 g, .slice x0 y0 z0] 26) := by rw [← hV]; exact heap_old (heap_new hD.symm)
  have p1 : V1.heap[D + 1]? = some (.cells #[.string ⟨#[]⟩, .string ⟨#[]⟩, .int .i64 0, .int .i64 0, .int .i64 0, .slice none 0 0] 26) := by rw [← hV]; exact heap_new (by simp [hD])
  have HV := Lib.hid (And.intro hwV (And.intro p0 p1))
  have HVE := Lib.hid hV
  have hVs := hwV.size
  clear hwV p0 p1 hV
  go_enter Tryz.func42, Tryz.ntmps42
  go_upto_region 1 with fail
  rw [HVE.out]
  refine wp_region_slots_at rfl rfl (fun base ys => (((((((((base.set 7 (ys 0)).set 8 (ys 1)).set 9 (ys 2)).set 10 (ys 3)).set 11 (ys 4)).set 12 (ys 5)).set 13 (ys 6)).set 14 (ys 7)).set 15 (ys 8)).set 16 (ys 9)) (LastI _ (Below V1.heap.size V1) (chI D nm tn a b f bk m cp T XS) (fun A => ∃ sa sm sc, A.ownsRow (D + 2) 3 1 (.slice sa sm sc) T XS ∧ A.heap[D + 1]? = some (.cells #[.string nm, .string tn, .int .i64 a, .int .i64 b, .int .i64 f, .slice sa sm sc] 26) ∧ Below D w A)) (fun _ => undef) (by kernel_rfl) (last_start (by decide) ((Below.refl _ _).trans ⟨rfl, rfl, rfl, Nat.le_refl _, fun _ _ => rfl⟩)) ?h
  case h =>
    intro FF hFF
    simp only [List.set_cons_succ, List.set_cons_zero] at hFF
    subst hFF
    refine ⟨rfl, ?_, ?_⟩
    refine ⟨?_, ?_⟩
    · refine SlotStep.lastB (by kernel_rfl) rfl (by decide) (fun A B hb h => h.trans (hb.mono h.size)) (chI_up D nm tn a b f bk m cp T XS) ?_
      intro ys W hR hd K hK
      go_simp
      have hK2 := hK (.pointer (some ⟨D, 0, none⟩)) _ (Below.refl _ _) rfl
      simp (config := { decide := true }) only [upd, if_true, if_false] at hK2
      exact hK2
    refine ⟨?_, ?_⟩
    · refine SlotStep.lastB (by kernel_rfl) rfl (by decide) (fun A B hb h => h.trans (hb.mono h.size)) (chI_up D nm tn a b f bk m cp T XS) ?_
      intro ys W hR hd K hK
      have dd0 : ys 0 = (.pointer (some ⟨D, 0, none⟩)) := hd 0 (by kernel_rfl) (by decide)
      have hl := (hR.block D (Array.getElem?_eq_some_iff.1 HV.out.2.1).1).trans HV.out.2.1
      have c0 := cell6_0 hl
      have c1 := cell6_1 hl
      have c2 := cell6_2 hl
      have c3 := cell6_3 hl
      have c4 := cell6_4 hl
      have c5 := cell6_5 hl
      go_simp
      have hK2 := hK (.string nm) _ (Below.refl _ _) rfl
      simp (config := { decide := true }) only [upd, if_true, if_false, dd0] at hK2
      exact hK2
    refine ⟨?_, ?_⟩
    · refine SlotStep.lastB (by kernel_rfl) rfl (by decide) (fun A B hb h => h.trans (hb.mono h.size)) (chI_up D nm tn a b f bk m cp T XS) ?_
      intro ys W hR hd K hK
      go_simp
      have hK2 := hK (.pointer (some ⟨D, 1, none⟩)) _ (Below.refl _ _) rfl
      simp (config := { decide := true }) only [upd, if_true, if_false] at hK2
      exact hK2
    refine ⟨?_, ?_⟩
    · refine SlotStep.lastB (by kernel_rfl) rfl (by decide) (fun A B hb h => h.trans (hb.mono h.size)) (chI_up D nm tn a b f bk m cp T XS) ?_
      intro ys W hR hd K hK
      have dd2 : ys 2 = (.pointer (some ⟨D, 1, none⟩)) := hd 2 (by kernel_rfl) (by decide)
      have hl := (hR.block D (Array.getElem?_eq_some_iff.1 HV.out.2.1).1).trans HV.out.2.1
      have c0 := cell6_0 hl
      have c1 := cell6_1 hl
      have c2 := cell6_2 hl
      have c3 := cell6_3 hl
      have c4 := cell6_4 hl
      have c5 := cell6_5 hl
      go_simp
      have hK2 := hK (.string tn) _ (Below.refl _ _) rfl
      simp (config := { decide := true }) only [upd, if_true, if_false, dd2] at hK2
      exact hK2
    refine ⟨?_, ?_⟩
    · refine SlotStep.lastB (by kernel_rfl) rfl (by decide) (fun A B hb h => h.trans (hb.mono h.size)) (chI_up D nm tn a b f bk m cp T XS) ?_
      intro ys W hR hd K hK
      go_simp
      have hK2 := hK (.pointer (some ⟨D, 2, none⟩)) _ (Below.refl _ _) rfl
      simp (config := { decide := true }) only [upd, if_true, if_false] at hK2
      exact hK2
    refine ⟨?_, ?_⟩
    · refine SlotStep.lastB (by kernel_rfl) rfl (by decide) (fun A B hb h => h.trans (hb.mono h.size)) (chI_up D nm tn a b f bk m cp T XS) ?_
      intro ys W hR hd K hK
      have dd4 : ys 4 = (.pointer (some ⟨D, 2, none⟩)) := hd 4 (by kernel_rfl) (by decide)
      have hl := (hR.block D (Array.getElem?_eq_some_iff.1 HV.out.2.1).1).trans HV.out.2.1
      have c0 := cell6_0 hl
      have c1 := cell6_1 hl
      have c2 := cell6_2 hl
      have c3 := cell6_3 hl
      have c4 := cell6_4 hl
      have c5 := cell6_5 hl
      go_simp
      have hK2 := hK (.agg #[.int .i64 a, .int .i64 b]) _ (Below.refl _ _) rfl
      simp (config := { decide := true }) only [upd, if_true, if_false, dd4] at hK2
      exact hK2
    refine ⟨?_, ?_⟩
    · refine SlotStep.lastB (by kernel_rfl) rfl (by decide) (fun A B hb h => h.trans (hb.mono h.size)) (chI_up D nm tn a b f bk m cp T XS) ?_
      intro ys W hR hd K hK
      go_simp
      have hK2 := hK (.int .i64 f) _ (Below.refl _ _) rfl
      simp (config := { decide := true }) only [upd, if_true, if_false] at hK2
      exact hK2
    refine ⟨?_, ?_⟩
    · refine SlotStep.lastB (by kernel_rfl) rfl (by decide) (fun A B hb h => h.trans (hb.mono h.size)) (chI_up D nm tn a b f bk m cp T XS) ?_
      intro ys W hR hd K hK
      go_simp
      have hK2 := hK (.slice (some ⟨bk, 0, none⟩) m cp) _ (Below.refl _ _) rfl
      simp (config := { decide := true }) only [upd, if_true, if_false] at hK2
      exact hK2
    refine ⟨?_, ?_⟩
    · refine SlotStep.lastB (by kernel_rfl) rfl (by decide) (fun A B hb h => h.trans (hb.mono h.size)) (chI_up D nm tn a b f bk m cp T XS) ?_
      intro ys W hR hd K hK
      have dd7 : ys 7 = (.slice (some ⟨bk, 0, none⟩) m cp) := hd 7 (by kernel_rfl) (by decide)
      go_simp
      refine (CC.out W (HV.out.1.trans (hR.mono (by have := HV.out.1.size; omega)))).mono ?_
      rintro e w5 ⟨⟨v5, rfl, hm5⟩, hb5⟩
      have hK2 := hK (v5) _ hb5 (owns_open (by have := HV.out.1.size; have := (Array.getElem?_eq_some_iff.1 HV.out.2.2).1; have := hR.size; omega) hm5)
      simp (config := { decide := true }) only [upd, if_true, if_false, dd7] at hK2
      exact hK2
    refine ⟨?_, ?_⟩
    · refine SlotStep.lastB (by kernel_rfl) rfl (by decide) (fun A B hb h => h.trans (hb.mono h.size)) (chI_up D nm tn a b f bk m cp T XS) ?_
      intro ys W hR hd K hK
      have dd1 : ys 1 = (.string nm) := hd 1 (by kernel_rfl) (by decide)
      have dd3 : ys 3 = (.string tn) := hd 3 (by kernel_rfl) (by decide)
      have dd5 : ys 5 = (.agg #[.int .i64 a, .int .i64 b]) := hd 5 (by kernel_rfl) (by decide)
      have dd6 : ys 6 = (.int .i64 f) := hd 6 (by kernel_rfl) (by decide)
      obtain ⟨sa, sm, sc, dd8, hw8⟩ : ∃ sa sm sc, ys 8 = .slice sa sm sc ∧ W.ownsRow (D + 2) 3 1 (.slice sa sm sc) T XS := hd 8 (by kernel_rfl) (by decide)
      have HW8 := Lib.hid hw8
      clear hw8
      go_simp
      have hK2 := hK (.agg #[.string nm, .string tn, .int .i64 a, .int .i64 b, .int .i64 f, .slice sa sm sc]) _ (Below.refl _ _) ⟨sa, sm, sc, rfl, HW8.out⟩
      simp (config := { decide := true }) only [upd, if_true, if_false, dd1, dd3, dd5, dd6, dd8] at hK2
      exact hK2
    refine ⟨?_, ?_⟩
    · refine SlotStep.lastS rfl rfl ?_
      intro ys W hR hd K hK
      obtain ⟨sa, sm, sc, dd9, hw9⟩ : ∃ sa sm sc, ys 9 = .agg #[.string nm, .string tn, .int .i64 a, .int .i64 b, .int .i64 f, .slice sa sm sc] ∧ W.ownsRow (D + 2) 3 1 (.slice sa sm sc) T XS := hd 9 (by kernel_rfl) (by decide)
      have hl := (hR.block (D + 1) (Array.getElem?_eq_some_iff.1 HV.out.2.2).1).trans HV.out.2.2
      obtain ⟨c0, c1, c2, c3, c4, c5⟩ := cell6_at hl
      obtain ⟨f0, f1, f2, f3, f4, f5⟩ := free6_at hl
      have HW9 := Lib.hid hw9
      have HL := Lib.hid hl
      have HWW := Lib.hid (HV.out.1.trans (hR.mono (by have := HV.out.1.size; omega)))
      clear hw9 hl
      go_simp
      have hK2 := hK undef _ ⟨sa, sm, sc, owns_set (owns_set (owns_set (owns_set (owns_set (owns_set HW9.out (by omega)) (by omega)) (by omega)) (by omega)) (by omega)) (by omega), set6_all HL.out, below6 HWW.out (by omega) _ _ _ _ _ _⟩
      simp (config := { decide := true }) only [upd, if_true, if_false, dd9] at hK2
      exact hK2
    trivial
    · intro L5 ys5 U hL5 hI5
      obtain ⟨sa, sm, sc, hw9, hp9, hb9⟩ := last_end (by decide) hL5 hI5
      have HF := Lib.hid (And.intro hw9 hb9)
      obtain ⟨d0, d1, d2, d3, d4, d5⟩ := cell6_at hp9
      clear hw9 hb9 hI5 hL5 hp9
      go_wp2
      exact bodyPost_ret (v := .agg #[.string nm, .string tn, .int .i64 a, .int .i64 b, .int .i64 f, .slice sa sm sc]) (by simp [results, Tryz.results42, go_sem, d0, d1, d2, d3, d4, d5]) rfl ⟨⟨sa, sm, sc, rfl, owns_base HF.out.1 (by omega)⟩, HF.out.2⟩
end Go.Proofs.YtbkbncapgljfaaaGreatDoor
/- Contracts of rank's checkFurther, Below, Repitch. -/
namespace Go.Proofs.YtbkbncapgljfaaaGreatDoor
open Go Go.RowKit Go.Shelf

/-- checkFurther's answer. -/
def cfE (k z : Int) (n m : Nat) : Int := if k = 0 then (if z = 0 then (if 128 < n + m then 4 else 0) else z) else k
theorem cf_ok {k z : Int} {n m : Nat} (h : cfE k z n m = 0) : k = 0 ∧ z = 0 ∧ n + m ≤ 128 := by
  unfold cfE at h
  split at h
  · rename_i h1
    split at h
    · rename_i h2
      split at h
      · cases h
      · exact ⟨h1, h2, by omega⟩
    · exact absurd h ‹_›
  · exact absurd h ‹_›


set_option maxRecDepth 100000 in
set_option maxHeartbeats 4000000 in
theorem further_bad (nm tn : ByteArray) (a b f : Int) (sa : Option Addr) (n cp : Nat) (X : Nat → Int) (sb : Option Addr) (m cq : Nat) (Y : Nat → Int) (s1 : nm.size ≤ 1099511627776) (s2 : tn.size ≤ 1099511627776) (hn : n ≤ 1099511627776) (hm : m ≤ 1099511627776) (z : Int) (h1 : rkE nm tn a b f n X = z) (h2 : ¬ z = 0) (w : World) (hW1 : Wd w (.slice sa n cp) n X) (hW2 : Wd w (.slice sb m cq) m Y) :
    Calls Tryz.prog 43 #[.agg #[.string nm, .string tn, .int .i64 a, .int .i64 b, .int .i64 f, .slice sa n cp], .slice sb m cq] w fun e w' => e = .returned (.int .i64 z) ∧ Below w.heap.size w w' := by
  have CK := Lib.hid (fun W h => rcheck_c nm tn a b f (.slice sa n cp) n X s1 s2 hn W h)
  have CW := Lib.hid (fun (W : World) h => show Calls Tryz.prog 36 #[.slice sb m cq] W (fun e w' => e = .returned (.int .i64 (wdE Y m)) ∧ Below W.heap.size W w') from (checkWind_c (.slice sb m cq) m Y hm W h).mono (by rintro e w' ⟨h1, rfl⟩; exact ⟨h1, Below.refl _ _⟩))
  have hW := Lib.hid hW1
  have hY := Lib.hid hW2
  clear hW1 hW2
  obtain ⟨D, hD⟩ : ∃ D, w.heap.size = D := ⟨_, rfl⟩
  rw [h1] at CK
  clear h1
  go_enter Tryz.func43, Tryz.ntmps43
  have ld1 : (w.alloc (.cells #[.string nm, .string tn, .int .i64 a, .int .i64 b, .int .i64 f, .slice sa n cp] 26)).heap[D]? = some (.cells #[.string nm, .string tn, .int .i64 a, .int .i64 b, .int .i64 f, .slice sa n cp] 26) := (heap_new (by first | omega | (simp; omega)))
  have y1_0 := cell6_0 ld1
  have y1_1 := cell6_1 ld1
  have y1_2 := cell6_2 ld1
  have y1_3 := cell6_3 ld1
  have y1_4 := cell6_4 ld1
  have y1_5 := cell6_5 ld1
  clear ld1
  have W1 : Wd (w.alloc (.cells #[.string nm, .string tn, .int .i64 a, .int .i64 b, .int .i64 f, .slice sa n cp] 26)) (.slice sa n cp) n X := hW.out.below (by first | exact ((Below.refl _ w).alloc (by first | omega | (simp; omega)) (.cells #[.string nm, .string tn, .int .i64 a, .int .i64 b, .int .i64 f, .slice sa n cp] 26)) | (rw [hD]; exact ((Below.refl _ w).alloc (by first | omega | (simp; omega)) (.cells #[.string nm, .string tn, .int .i64 a, .int .i64 b, .int .i64 f, .slice sa n cp] 26))))
  go_wp2_with fail
  refine (CK.out _ W1).mono ?_
  rintro e v2 ⟨rfl, hb_v2⟩
  have cR_v2 : v2.heap[D]? = some (.cells #[.string nm, .string tn, .int .i64 a, .int .i64 b, .int .i64 f, .slice sa n cp] 26) := (hb_v2.block (D) (Array.getElem?_eq_some_iff.1 (show (w.alloc (.cells #[.string nm, .string tn, .int .i64 a, .int .i64 b, .int .i64 f, .slice sa n cp] 26)).heap[D]? = some (.cells #[.string nm, .string tn, .int .i64 a, .int .i64 b, .int .i64 f, .slice sa n cp] 26) from (heap_new (by first | omega | (simp; omega))))).1).trans (heap_new (by first | omega | (simp; omega)))
  have hw_v2 : Below D w v2 := (((Below.refl _ w).alloc (by first | omega | (simp; omega)) (.cells #[.string nm, .string tn, .int .i64 a, .int .i64 b, .int .i64 f, .slice sa n cp] 26))).trans (hb_v2.mono (by first | omega | (simp; omega)))
  clear hb_v2 y1_0 y1_1 y1_2 y1_3 y1_4 y1_5
  have HW := Lib.hid (hw_v2)
  go_wp2
  go_ret
  exact ⟨rfl, by first | exact HW.out | (rw [hD]; exact HW.out)⟩

set_option maxRecDepth 100000 in
set_option maxHeartbeats 4000000 in
theorem further_wind (nm tn : ByteArray) (a b f : Int) (sa : Option Addr) (n cp : Nat) (X : Nat → Int) (sb : Option Addr) (m cq : Nat) (Y : Nat → Int) (s1 : nm.size ≤ 1099511627776) (s2 : tn.size ≤ 1099511627776) (hn : n ≤ 1099511627776) (hm : m ≤ 1099511627776) (z : Int) (h1 : rkE nm tn a b f n X = 0) (h2 : wdE Y m = z) (h3 : ¬ z = 0) (w : World) (hW1 : Wd w (.slice sa n cp) n X) (hW2 : Wd w (.slice sb m cq) m Y) :
    Calls Tryz.prog 43 #[.agg #[.string nm, .string tn, .int .i64 a, .int .i64 b, .int .i64 f, .slice sa n cp], .slice sb m cq] w fun e w' => e = .returned (.int .i64 z) ∧ Below w.heap.size w w' := by
  have CK := Lib.hid (fun W h => rcheck_c nm tn a b f (.slice sa n cp) n X s1 s2 hn W h)
  have CW := Lib.hid (fun (W : World) h => show Calls Tryz.prog 36 #[.slice sb m cq] W (fun e w' => e = .returned (.int .i64 (wdE Y m)) ∧ Below W.heap.size W w') from (checkWind_c (.slice sb m cq) m Y hm W h).mono (by rintro e w' ⟨h1, rfl⟩; exact ⟨h1, Below.refl _ _⟩))
  have hW := Lib.hid hW1
  have hY := Lib.hid hW2
  clear hW1 hW2
  obtain ⟨D, hD⟩ : ∃ D, w.heap.size = D := ⟨_, rfl⟩
  rw [h1] at CK
  rw [h2] at CW
  clear h1 h2
  go_enter Tryz.func43, Tryz.ntmps43
  have ld1 : (w.alloc (.cells #[.string nm, .string tn, .int .i64 a, .int .i64 b, .int .i64 f, .slice sa n cp] 26)).heap[D]? = some (.cells #[.string nm, .string tn, .int .i64 a, .int .i64 b, .int .i64 f, .slice sa n cp] 26) := (heap_new (by first | omega | (simp; omega)))
  have y1_0 := cell6_0 ld1
  have y1_1 := cell6_1 ld1
  have y1_2 := cell6_2 ld1
  have y1_3 := cell6_3 ld1
  have y1_4 := cell6_4 ld1
  have y1_5 := cell6_5 ld1
  clear ld1
  have W2 : Wd (w.alloc (.cells #[.string nm, .string tn, .int .i64 a, .int .i64 b, .int .i64 f, .slice sa n cp] 26)) (.slice sa n cp) n X := hW.out.below (by first | exact ((Below.refl _ w).alloc (by first | omega | (simp; omega)) (.cells #[.string nm, .string tn, .int .i64 a, .int .i64 b, .int .i64 f, .slice sa n cp] 26)) | (rw [hD]; exact ((Below.refl _ w).alloc (by first | omega | (simp; omega)) (.cells #[.string nm, .string tn, .int .i64 a, .int .i64 b, .int .i64 f, .slice sa n cp] 26))))
  go_wp2_with fail
  refine (CK.out _ W2).mono ?_
  rintro e v2 ⟨rfl, hb_v2⟩
  have cR_v2 : v2.heap[D]? = some (.cells #[.string nm, .string tn, .int .i64 a, .int .i64 b, .int .i64 f, .slice sa n cp] 26) := (hb_v2.block (D) (Array.getElem?_eq_some_iff.1 (show (w.alloc (.cells #[.string nm, .string tn, .int .i64 a, .int .i64 b, .int .i64 f, .slice sa n cp] 26)).heap[D]? = some (.cells #[.string nm, .string tn, .int .i64 a, .int .i64 b, .int .i64 f, .slice sa n cp] 26) from (heap_new (by first | omega | (simp; omega))))).1).trans (heap_new (by first | omega | (simp; omega)))
  have hw_v2 : Below D w v2 := (((Below.refl _ w).alloc (by first | omega | (simp; omega)) (.cells #[.string nm, .string tn, .int .i64 a, .int .i64 b, .int .i64 f, .slice sa n cp] 26))).trans (hb_v2.mono (by first | omega | (simp; omega)))
  clear hb_v2 y1_0 y1_1 y1_2 y1_3 y1_4 y1_5
  have W3 : Wd v2 (.slice sb m cq) m Y := hY.out.below (by first | exact hw_v2 | (rw [hD]; exact hw_v2))
  go_wp2_with fail
  refine (CW.out _ W3).mono ?_
  rintro e v3 ⟨rfl, hb_v3⟩
  have hs_v3 := hw_v2.size
  have cR_v3 : v3.heap[D]? = some (.cells #[.string nm, .string tn, .int .i64 a, .int .i64 b, .int .i64 f, .slice sa n cp] 26) := (hb_v3.block (D) (Array.getElem?_eq_some_iff.1 (show v2.heap[D]? = some (.cells #[.string nm, .string tn, .int .i64 a, .int .i64 b, .int .i64 f, .slice sa n cp] 26) from cR_v2)).1).trans cR_v2
  have hw_v3 : Below D w v3 := (hw_v2).trans (hb_v3.mono (by first | omega | (simp; omega)))
  clear cR_v2 hb_v3 hw_v2 hs_v3
  have HW := Lib.hid (hw_v3)
  go_wp2
  go_ret
  exact ⟨rfl, by first | exact HW.out | (rw [hD]; exact HW.out)⟩

set_option maxRecDepth 100000 in
set_option maxHeartbeats 4000000 in
theorem further_limit (nm tn : ByteArray) (a b f : Int) (sa : Option Addr) (n cp : Nat) (X : Nat → Int) (sb : Option Addr) (m cq : Nat) (Y : Nat → Int) (s1 : nm.size ≤ 1099511627776) (s2 : tn.size ≤ 1099511627776) (hn : n ≤ 1099511627776) (hm : m ≤ 1099511627776) (h1 : rkE nm tn a b f n X = 0) (h2 : wdE Y m = 0) (h3 : 128 < n + m) (w : World) (hW1 : Wd w (.slice sa n cp) n X) (hW2 : Wd w (.slice sb m cq) m Y) :
    Calls Tryz.prog 43 #[.agg #[.string nm, .string tn, .int .i64 a, .int .i64 b, .int .i64 f, .slice sa n cp], .slice sb m cq] w fun e w' => e = .returned (.int .i64 4) ∧ Below w.heap.size w w' := by
  have CK := Lib.hid (fun W h => rcheck_c nm tn a b f (.slice sa n cp) n X s1 s2 hn W h)
  have CW := Lib.hid (fun (W : World) h => show Calls Tryz.prog 36 #[.slice sb m cq] W (fun e w' => e = .returned (.int .i64 (wdE Y m)) ∧ Below W.heap.size W w') from (checkWind_c (.slice sb m cq) m Y hm W h).mono (by rintro e w' ⟨h1, rfl⟩; exact ⟨h1, Below.refl _ _⟩))
  have hW := Lib.hid hW1
  have hY := Lib.hid hW2
  clear hW1 hW2
  obtain ⟨D, hD⟩ : ∃ D, w.heap.size = D := ⟨_, rfl⟩
  rw [h1] at CK
  rw [h2] at CW
  have q1 := wrap_in (q := (n : Int) + (m : Int)) (by omega) (by omega)
  have q2 : (128 : Int) < (n : Int) + (m : Int) := by omega
  clear h1 h2 h3
  go_enter Tryz.func43, Tryz.ntmps43
  have ld1 : (w.alloc (.cells #[.string nm, .string tn, .int .i64 a, .int .i64 b, .int .i64 f, .slice sa n cp] 26)).heap[D]? = some (.cells #[.string nm, .string tn, .int .i64 a, .int .i64 b, .int .i64 f, .slice sa n cp] 26) := (heap_new (by first | omega | (simp; omega)))
  have y1_0 := cell6_0 ld1
  have y1_1 := cell6_1 ld1
  have y1_2 := cell6_2 ld1
  have y1_3 := cell6_3 ld1
  have y1_4 := cell6_4 ld1
  have y1_5 := cell6_5 ld1
  clear ld1
  have W4 : Wd (w.alloc (.cells #[.string nm, .string tn, .int .i64 a, .int .i64 b, .int .i64 f, .slice sa n cp] 26)) (.slice sa n cp) n X := hW.out.below (by first | exact ((Below.refl _ w).alloc (by first | omega | (simp; omega)) (.cells #[.string nm, .string tn, .int .i64 a, .int .i64 b, .int .i64 f, .slice sa n cp] 26)) | (rw [hD]; exact ((Below.refl _ w).alloc (by first | omega | (simp; omega)) (.cells #[.string nm, .string tn, .int .i64 a, .int .i64 b, .int .i64 f, .slice sa n cp] 26))))
  go_wp2_with fail
  refine (CK.out _ W4).mono ?_
  rintro e v2 ⟨rfl, hb_v2⟩
  have cR_v2 : v2.heap[D]? = some (.cells #[.string nm, .string tn, .int .i64 a, .int .i64 b, .int .i64 f, .slice sa n cp] 26) := (hb_v2.block (D) (Array.getElem?_eq_some_iff.1 (show (w.alloc (.cells #[.string nm, .string tn, .int .i64 a, .int .i64 b, .int .i64 f, .slice sa n cp] 26)).heap[D]? = some (.cells #[.string nm, .string tn, .int .i64 a, .int .i64 b, .int .i64 f, .slice sa n cp] 26) from (heap_new (by first | omega | (simp; omega))))).1).trans (heap_new (by first | omega | (simp; omega)))
  have hw_v2 : Below D w v2 := (((Below.refl _ w).alloc (by first | omega | (simp; omega)) (.cells #[.string nm, .string tn, .int .i64 a, .int .i64 b, .int .i64 f, .slice sa n cp] 26))).trans (hb_v2.mono (by first | omega | (simp; omega)))
  clear hb_v2 y1_0 y1_1 y1_2 y1_3 y1_4 y1_5
  have W5 : Wd v2 (.slice sb m cq) m Y := hY.out.below (by first | exact hw_v2 | (rw [hD]; exact hw_v2))
  go_wp2_with fail
  refine (CW.out _ W5).mono ?_
  rintro e v3 ⟨rfl, hb_v3⟩
  have hs_v3 := hw_v2.size
  have cR_v3 : v3.heap[D]? = some (.cells #[.string nm, .string tn, .int .i64 a, .int .i64 b, .int .i64 f, .slice sa n cp] 26) := (hb_v3.block (D) (Array.getElem?_eq_some_iff.1 (show v2.heap[D]? = some (.cells #[.string nm, .string tn, .int .i64 a, .int .i64 b, .int .i64 f, .slice sa n cp] 26) from cR_v2)).1).trans cR_v2
  have hw_v3 : Below D w v3 := (hw_v2).trans (hb_v3.mono (by first | omega | (simp; omega)))
  clear cR_v2 hb_v3 hw_v2 hs_v3
  have ld4 : v3.heap[D]? = some (.cells #[.string nm, .string tn, .int .i64 a, .int .i64 b, .int .i64 f, .slice sa n cp] 26) := cR_v3
  have y4_0 := cell6_0 ld4
  have y4_1 := cell6_1 ld4
  have y4_2 := cell6_2 ld4
  have y4_3 := cell6_3 ld4
  have y4_4 := cell6_4 ld4
  have y4_5 := cell6_5 ld4
  clear ld4
  have HW := Lib.hid (hw_v3)
  go_wp2
  go_ret
  exact ⟨rfl, by first | exact HW.out | (rw [hD]; exact HW.out)⟩

set_option maxRecDepth 100000 in
set_option maxHeartbeats 4000000 in
theorem further_ok (nm tn : ByteArray) (a b f : Int) (sa : Option Addr) (n cp : Nat) (X : Nat → Int) (sb : Option Addr) (m cq : Nat) (Y : Nat → Int) (s1 : nm.size ≤ 1099511627776) (s2 : tn.size ≤ 1099511627776) (hn : n ≤ 1099511627776) (hm : m ≤ 1099511627776) (h1 : rkE nm tn a b f n X = 0) (h2 : wdE Y m = 0) (h3 : ¬ 128 < n + m) (w : World) (hW1 : Wd w (.slice sa n cp) n X) (hW2 : Wd w (.slice sb m cq) m Y) :
    Calls Tryz.prog 43 #[.agg #[.string nm, .string tn, .int .i64 a, .int .i64 b, .int .i64 f, .slice sa n cp], .slice sb m cq] w fun e w' => e = .returned (.int .i64 0) ∧ Below w.heap.size w w' := by
  have CK := Lib.hid (fun W h => rcheck_c nm tn a b f (.slice sa n cp) n X s1 s2 hn W h)
  have CW := Lib.hid (fun (W : World) h => show Calls Tryz.prog 36 #[.slice sb m cq] W (fun e w' => e = .returned (.int .i64 (wdE Y m)) ∧ Below W.heap.size W w') from (checkWind_c (.slice sb m cq) m Y hm W h).mono (by rintro e w' ⟨h1, rfl⟩; exact ⟨h1, Below.refl _ _⟩))
  have hW := Lib.hid hW1
  have hY := Lib.hid hW2
  clear hW1 hW2
  obtain ⟨D, hD⟩ : ∃ D, w.heap.size = D := ⟨_, rfl⟩
  rw [h1] at CK
  rw [h2] at CW
  have q1 := wrap_in (q := (n : Int) + (m : Int)) (by omega) (by omega)
  have q2 : ¬ (128 : Int) < (n : Int) + (m : Int) := by omega
  clear h1 h2 h3
  go_enter Tryz.func43, Tryz.ntmps43
  have ld1 : (w.alloc (.cells #[.string nm, .string tn, .int .i64 a, .int .i64 b, .int .i64 f, .slice sa n cp] 26)).heap[D]? = some (.cells #[.string nm, .string tn, .int .i64 a, .int .i64 b, .int .i64 f, .slice sa n cp] 26) := (heap_new (by first | omega | (simp; omega)))
  have y1_0 := cell6_0 ld1
  have y1_1 := cell6_1 ld1
  have y1_2 := cell6_2 ld1
  have y1_3 := cell6_3 ld1
  have y1_4 := cell6_4 ld1
  have y1_5 := cell6_5 ld1
  clear ld1
  have W6 : Wd (w.alloc (.cells #[.string nm, .string tn, .int .i64 a, .int .i64 b, .int .i64 f, .slice sa n cp] 26)) (.slice sa n cp) n X := hW.out.below (by first | exact ((Below.refl _ w).alloc (by first | omega | (simp; omega)) (.cells #[.string nm, .string tn, .int .i64 a, .int .i64 b, .int .i64 f, .slice sa n cp] 26)) | (rw [hD]; exact ((Below.refl _ w).alloc (by first | omega | (simp; omega)) (.cells #[.string nm, .string tn, .int .i64 a, .int .i64 b, .int .i64 f, .slice sa n cp] 26))))
  go_wp2_with fail
  refine (CK.out _ W6).mono ?_
  rintro e v2 ⟨rfl, hb_v2⟩
  have cR_v2 : v2.heap[D]? = some (.cells #[.string nm, .string tn, .int .i64 a, .int .i64 b, .int .i64 f, .slice sa n cp] 26) := (hb_v2.block (D) (Array.getElem?_eq_some_iff.1 (show (w.alloc (.cells #[.string nm, .string tn, .int .i64 a, .int .i64 b, .int .i64 f, .slice sa n cp] 26)).heap[D]? = some (.cells #[.string nm, .string tn, .int .i64 a, .int .i64 b, .int .i64 f, .slice sa n cp] 26) from (heap_new (by first | omega | (simp; omega))))).1).trans (heap_new (by first | omega | (simp; omega)))
  have hw_v2 : Below D w v2 := (((Below.refl _ w).alloc (by first | omega | (simp; omega)) (.cells #[.string nm, .string tn, .int .i64 a, .int .i64 b, .int .i64 f, .slice sa n cp] 26))).trans (hb_v2.mono (by first | omega | (simp; omega)))
  clear hb_v2 y1_0 y1_1 y1_2 y1_3 y1_4 y1_5
  have W7 : Wd v2 (.slice sb m cq) m Y := hY.out.below (by first | exact hw_v2 | (rw [hD]; exact hw_v2))
  go_wp2_with fail
  refine (CW.out _ W7).mono ?_
  rintro e v3 ⟨rfl, hb_v3⟩
  have hs_v3 := hw_v2.size
  have cR_v3 : v3.heap[D]? = some (.cells #[.string nm, .string tn, .int .i64 a, .int .i64 b, .int .i64 f, .slice sa n cp] 26) := (hb_v3.block (D) (Array.getElem?_eq_some_iff.1 (show v2.heap[D]? = some (.cells #[.string nm, .string tn, .int .i64 a, .int .i64 b, .int .i64 f, .slice sa n cp] 26) from cR_v2)).1).trans cR_v2
  have hw_v3 : Below D w v3 := (hw_v2).trans (hb_v3.mono (by first | omega | (simp; omega)))
  clear cR_v2 hb_v3 hw_v2 hs_v3
  have ld4 : v3.heap[D]? = some (.cells #[.string nm, .string tn, .int .i64 a, .int .i64 b, .int .i64 f, .slice sa n cp] 26) := cR_v3
  have y4_0 := cell6_0 ld4
  have y4_1 := cell6_1 ld4
  have y4_2 := cell6_2 ld4
  have y4_3 := cell6_3 ld4
  have y4_4 := cell6_4 ld4
  have y4_5 := cell6_5 ld4
  clear ld4
  have HW := Lib.hid (hw_v3)
  go_wp2
  go_ret
  exact ⟨rfl, by first | exact HW.out | (rw [hD]; exact HW.out)⟩

theorem further_c (nm tn : ByteArray) (a b f : Int) (sa : Option Addr) (n cp : Nat) (X : Nat → Int) (sb : Option Addr) (m cq : Nat) (Y : Nat → Int) (s1 : nm.size ≤ 1099511627776) (s2 : tn.size ≤ 1099511627776) (hn : n ≤ 1099511627776) (hm : m ≤ 1099511627776) (w : World) (hW1 : Wd w (.slice sa n cp) n X) (hW2 : Wd w (.slice sb m cq) m Y) :
    Calls Tryz.prog 43 #[.agg #[.string nm, .string tn, .int .i64 a, .int .i64 b, .int .i64 f, .slice sa n cp], .slice sb m cq] w fun e w' => e = .returned (.int .i64 (cfE (rkE nm tn a b f n X) (wdE Y m) n m)) ∧ Below w.heap.size w w' := by
  by_cases h1 : rkE nm tn a b f n X = 0
  · by_cases h2 : wdE Y m = 0
    · by_cases h3 : 128 < n + m
      · rw [show cfE (rkE nm tn a b f n X) (wdE Y m) n m = 4 by unfold cfE; rw [if_pos h1, if_pos h2, if_pos h3]]
        exact further_limit nm tn a b f sa n cp X sb m cq Y s1 s2 hn hm h1 h2 h3 w hW1 hW2
      · rw [show cfE (rkE nm tn a b f n X) (wdE Y m) n m = 0 by unfold cfE; rw [if_pos h1, if_pos h2, if_neg h3]]
        exact further_ok nm tn a b f sa n cp X sb m cq Y s1 s2 hn hm h1 h2 h3 w hW1 hW2
    · rw [show cfE (rkE nm tn a b f n X) (wdE Y m) n m = wdE Y m by unfold cfE; rw [if_pos h1, if_neg h2]]
      exact further_wind nm tn a b f sa n cp X sb m cq Y s1 s2 hn hm _ h1 rfl h2 w hW1 hW2
  · rw [show cfE (rkE nm tn a b f n X) (wdE Y m) n m = rkE nm tn a b f n X by unfold cfE; rw [if_neg h1]]
    exact further_bad nm tn a b f sa n cp X sb m cq Y s1 s2 hn hm _ rfl h1 w hW1 hW2


set_option maxRecDepth 100000 in
set_option maxHeartbeats 4000000 in
theorem below_bad (nm tn : ByteArray) (a b f : Int) (sa : Option Addr) (n cp : Nat) (X : Nat → Int) (sb : Option Addr) (m cq : Nat) (Y : Nat → Int) (s1 : nm.size ≤ 1099511627776) (s2 : tn.size ≤ 1099511627776) (hn : n ≤ 1099511627776) (hm : m ≤ 1099511627776) (z : Int) (h1 : cfE (rkE nm tn a b f n X) (wdE Y m) n m = z) (h2 : ¬ z = 0) (w : World) (hW1 : Wd w (.slice sa n cp) n X) (hW2 : Wd w (.slice sb m cq) m Y) :
    Calls Tryz.prog 25 #[.agg #[.string nm, .string tn, .int .i64 a, .int .i64 b, .int .i64 f, .slice sa n cp], .slice sb m cq] w fun e w' => e = .returned (.tuple #[.agg #[.string ⟨#[]⟩, .string ⟨#[]⟩, .int .i64 0, .int .i64 0, .int .i64 0, .slice none 0 0], .int .i64 z]) ∧ Below w.heap.size w w' := by
  have CF := Lib.hid (fun W h h' => further_c nm tn a b f sa n cp X sb m cq Y s1 s2 hn hm W h h')
  have hW := Lib.hid hW1
  have hY := Lib.hid hW2
  clear hW1 hW2
  obtain ⟨D, hD⟩ : ∃ D, w.heap.size = D := ⟨_, rfl⟩
  rw [h1] at CF
  clear h1
  go_enter Tryz.func25, Tryz.ntmps25
  have ld1 : ((w.alloc (.cells #[.string nm, .string tn, .int .i64 a, .int .i64 b, .int .i64 f, .slice sa n cp] 26)).alloc (.cells #[.string ⟨#[]⟩, .string ⟨#[]⟩, .int .i64 0, .int .i64 0, .int .i64 0, .slice none 0 0] 26)).heap[D]? = some (.cells #[.string nm, .string tn, .int .i64 a, .int .i64 b, .int .i64 f, .slice sa n cp] 26) := (heap_old (o := .cells #[.string ⟨#[]⟩, .string ⟨#[]⟩, .int .i64 0, .int .i64 0, .int .i64 0, .slice none 0 0] 26) (heap_new (by first | omega | (simp; omega))))
  have y1_0 := cell6_0 ld1
  have y1_1 := cell6_1 ld1
  have y1_2 := cell6_2 ld1
  have y1_3 := cell6_3 ld1
  have y1_4 := cell6_4 ld1
  have y1_5 := cell6_5 ld1
  clear ld1
  have W8 : Wd ((w.alloc (.cells #[.string nm, .string tn, .int .i64 a, .int .i64 b, .int .i64 f, .slice sa n cp] 26)).alloc (.cells #[.string ⟨#[]⟩, .string ⟨#[]⟩, .int .i64 0, .int .i64 0, .int .i64 0, .slice none 0 0] 26)) (.slice sa n cp) n X := hW.out.below (by first | exact (((Below.refl _ w).alloc (by first | omega | (simp; omega)) (.cells #[.string nm, .string tn, .int .i64 a, .int .i64 b, .int .i64 f, .slice sa n cp] 26)).alloc (by first | omega | (simp; omega)) (.cells #[.string ⟨#[]⟩, .string ⟨#[]⟩, .int .i64 0, .int .i64 0, .int .i64 0, .slice none 0 0] 26)) | (rw [hD]; exact (((Below.refl _ w).alloc (by first | omega | (simp; omega)) (.cells #[.string nm, .string tn, .int .i64 a, .int .i64 b, .int .i64 f, .slice sa n cp] 26)).alloc (by first | omega | (simp; omega)) (.cells #[.string ⟨#[]⟩, .string ⟨#[]⟩, .int .i64 0, .int .i64 0, .int .i64 0, .slice none 0 0] 26))))
  have W9 : Wd ((w.alloc (.cells #[.string nm, .string tn, .int .i64 a, .int .i64 b, .int .i64 f, .slice sa n cp] 26)).alloc (.cells #[.string ⟨#[]⟩, .string ⟨#[]⟩, .int .i64 0, .int .i64 0, .int .i64 0, .slice none 0 0] 26)) (.slice sb m cq) m Y := hY.out.below (by first | exact (((Below.refl _ w).alloc (by first | omega | (simp; omega)) (.cells #[.string nm, .string tn, .int .i64 a, .int .i64 b, .int .i64 f, .slice sa n cp] 26)).alloc (by first | omega | (simp; omega)) (.cells #[.string ⟨#[]⟩, .string ⟨#[]⟩, .int .i64 0, .int .i64 0, .int .i64 0, .slice none 0 0] 26)) | (rw [hD]; exact (((Below.refl _ w).alloc (by first | omega | (simp; omega)) (.cells #[.string nm, .string tn, .int .i64 a, .int .i64 b, .int .i64 f, .slice sa n cp] 26)).alloc (by first | omega | (simp; omega)) (.cells #[.string ⟨#[]⟩, .string ⟨#[]⟩, .int .i64 0, .int .i64 0, .int .i64 0, .slice none 0 0] 26))))
  go_wp2_with fail
  refine (CF.out _ W8 W9).mono ?_
  rintro e v2 ⟨rfl, hb_v2⟩
  have cR_v2 : v2.heap[D]? = some (.cells #[.string nm, .string tn, .int .i64 a, .int .i64 b, .int .i64 f, .slice sa n cp] 26) := (hb_v2.block (D) (Array.getElem?_eq_some_iff.1 (show ((w.alloc (.cells #[.string nm, .string tn, .int .i64 a, .int .i64 b, .int .i64 f, .slice sa n cp] 26)).alloc (.cells #[.string ⟨#[]⟩, .string ⟨#[]⟩, .int .i64 0, .int .i64 0, .int .i64 0, .slice none 0 0] 26)).heap[D]? = some (.cells #[.string nm, .string tn, .int .i64 a, .int .i64 b, .int .i64 f, .slice sa n cp] 26) from (heap_old (o := .cells #[.string ⟨#[]⟩, .string ⟨#[]⟩, .int .i64 0, .int .i64 0, .int .i64 0, .slice none 0 0] 26) (heap_new (by first | omega | (simp; omega)))))).1).trans (heap_old (o := .cells #[.string ⟨#[]⟩, .string ⟨#[]⟩, .int .i64 0, .int .i64 0, .int .i64 0, .slice none 0 0] 26) (heap_new (by first | omega | (simp; omega))))
  have cZ_v2 : v2.heap[D + 1]? = some (.cells #[.string ⟨#[]⟩, .string ⟨#[]⟩, .int .i64 0, .int .i64 0, .int .i64 0, .slice none 0 0] 26) := (hb_v2.block (D + 1) (Array.getElem?_eq_some_iff.1 (show ((w.alloc (.cells #[.string nm, .string tn, .int .i64 a, .int .i64 b, .int .i64 f, .slice sa n cp] 26)).alloc (.cells #[.string ⟨#[]⟩, .string ⟨#[]⟩, .int .i64 0, .int .i64 0, .int .i64 0, .slice none 0 0] 26)).heap[D + 1]? = some (.cells #[.string ⟨#[]⟩, .string ⟨#[]⟩, .int .i64 0, .int .i64 0, .int .i64 0, .slice none 0 0] 26) from (heap_new (by first | omega | (simp; omega))))).1).trans (heap_new (by first | omega | (simp; omega)))
  have hw_v2 : Below D w v2 := ((((Below.refl _ w).alloc (by first | omega | (simp; omega)) (.cells #[.string nm, .string tn, .int .i64 a, .int .i64 b, .int .i64 f, .slice sa n cp] 26)).alloc (by first | omega | (simp; omega)) (.cells #[.string ⟨#[]⟩, .string ⟨#[]⟩, .int .i64 0, .int .i64 0, .int .i64 0, .slice none 0 0] 26))).trans (hb_v2.mono (by first | omega | (simp; omega)))
  clear hb_v2 y1_0 y1_1 y1_2 y1_3 y1_4 y1_5
  have hp := cZ_v2
  obtain ⟨f0, f1, f2, f3, f4, f5⟩ := free6_at hp
  obtain ⟨g0, g1, g2, g3, g4, g5⟩ := cell6_at hp
  have hE := set6_all (x0 := .string ⟨#[]⟩) (x1 := .string ⟨#[]⟩) (x2 := .int .i64 0) (x3 := .int .i64 0) (x4 := .int .i64 0) (x5 := .slice none 0 0) hp
  have HW := Lib.hid (below6 (hw_v2) (show D ≤ D + 1 by omega) (.string ⟨#[]⟩) (.string ⟨#[]⟩) (.int .i64 0) (.int .i64 0) (.int .i64 0) (.slice none 0 0))
  obtain ⟨U, hU⟩ : ∃ U, ((((((v2.setCell ⟨D + 1, 0, none⟩ (.string ⟨#[]⟩)).setCell ⟨D + 1, 1, none⟩ (.string ⟨#[]⟩)).setCell ⟨D + 1, 2, none⟩ (.int .i64 0)).setCell ⟨D + 1, 3, none⟩ (.int .i64 0)).setCell ⟨D + 1, 4, none⟩ (.int .i64 0)).setCell ⟨D + 1, 5, none⟩ (.slice none 0 0)) = U := ⟨_, rfl⟩
  rw [hU] at hE HW
  obtain ⟨z0, z1, z2, z3, z4, z5⟩ := cell6_at hE
  have HUU := Lib.hid hU
  clear hU hE hp
  go_wp2
  rw [HUU.out]
  exact bodyPost_ret (v := .tuple #[.agg #[.string ⟨#[]⟩, .string ⟨#[]⟩, .int .i64 0, .int .i64 0, .int .i64 0, .slice none 0 0], .int .i64 z]) (by simp [results, Tryz.results25, go_sem, z0, z1, z2, z3, z4, z5]) rfl ⟨rfl, by first | exact HW.out | (rw [hD]; exact HW.out)⟩
end Go.Proofs.YtbkbncapgljfaaaGreatDoor
