/- Text: the names of a set's notes, joined by blanks. -/
import Derived.Test.YtibdnfcbgcbdeaaDoorNsE
import Derived.Maps.AppendAt
namespace Go.Proofs.YtibdnfcbgcbdeaaDoor
open Go Go.RowKit Go.Shelf
attribute [local go_sem] Oper.semAt_some wide_fn wide_depth

theorem name_any (n : Nat) (h : n < 128) (w : World) (G : Gl w) :
    Calls Tryd.prog 14 #[.int .i64 n] w fun e w' => e = .returned (.tuple #[.string (nameOf n), .int .i64 0]) ∧ Below w.heap.size w w' := by
  by_cases h0 : n < 12
  · exact name_low n h0 w G
  · exact (name_high n (by omega) h w G).mono fun _ _ ⟨a, k, b⟩ => ⟨a, b ▸ below_drewN (Below.refl _ _) k⟩
theorem count_below (lo hi : Nat) (hl : lo < 18446744073709551616) (hh : hi < 18446744073709551616) (w : World) :
    Calls Tryd.prog 29 #[.agg #[.int .u64 lo, .int .u64 hi]] w fun e w' => e = .returned (.int .i64 (Ns.pc lo + Ns.pc hi : Nat)) ∧ Below w.heap.size w w' :=
  (count_any lo hi hl hh w).mono fun _ _ ⟨a, k, b⟩ => ⟨a, b ▸ below_drewN ((Below.refl _ _).alloc (Nat.le_refl _) _) k⟩

theorem boxed_step {A B : World} {b k : Nat} {t u : TypeId} {v : Value} (h : Boxed A k u v) (hu : u ≠ t) (st : Step b t A B) : Boxed B k u v := st.same k _ u _ h hu
theorem ownsRow_step {A B : World} {b base k size : Nat} {t e : TypeId} {v : Value} {xs : List Value} (h : A.ownsRow base e size v k xs) (he : e ≠ t) (st : Step b t A B) : B.ownsRow base e size v k xs :=
  ⟨h.1, h.2.imp id fun ⟨g, cap, cur, h1, h2, h3, h4⟩ => ⟨g, cap, cur, h1, h2, st.same g _ _ _ h3 he, h4⟩⟩
theorem appended_round {W w1 : World} {n₀ B : Nat} {t u e : TypeId} {size : Nat} {v v' : Value} {k : Nat} {xs : List Value} {tmp : Obj}
    (hv : Boxed W B u v) (hu : u ≠ t) (he : e ≠ t) (hrow : W.ownsRow n₀ e size v k xs) (hgrow : (W.alloc tmp).grownBy w1 v.ownBlock) : Round t W (w1.setCell ⟨B, 0, none⟩ v') where
  size := by
    have := hgrow.size
    simp [World.setCell] at this ⊢
    omega
  same := fun i o hi ho => by
    have hil := (Array.getElem?_eq_some_iff.1 hi).1
    have h1 : (W.alloc tmp).heap[i]? = some o := (Below.heap_alloc _ _ _ hil).trans hi
    have hr : some i ≠ v.ownBlock := fun ei => by
      rcases hrow.2 with ⟨rfl, _⟩ | ⟨g, cap, cur, rfl, _, hg, _⟩
      · cases ei
      · simp [Value.ownBlock] at ei
        subst ei
        rw [hg] at hi
        cases hi
        rcases ho with ho | ⟨c, ho⟩
        · simp [Obj.isCells] at ho
        · cases ho; exact he rfl
    have h2 : w1.heap[i]? = some o := (hgrow.block i (by simp; omega) hr).trans h1
    have hB : i ≠ B := fun ei => by
      subst ei
      rw [show W.heap[i]? = _ from hv] at hi
      cases hi
      rcases ho with ho | ⟨c, ho⟩
      · simp [Obj.isCells] at ho
      · cases ho; exact hu rfl
    exact (Below.heap_setCell _ _ _ _ hB).trans h2

theorem info_string : (Tryd.prog.info? 9).map (fun i => (i.zero, i.size, i.bytes)) = some (some (.string ⟨#[]⟩), 1, 16) := by kernel_rfl

def names (l : List Nat) : List Value := l.map fun n => .string (nameOf n)
def textOf (lo hi : Nat) : ByteArray := ⟨(Lib.join ((Ns.notes lo hi).map fun n => (nameOf n).data.toList) [32]).toArray⟩

theorem nameOf_size (n : Nat) (h : n < 128) : (nameOf n).size ≤ 4 := by
  have : ∀ n, n < 128 → (nameOf n).size ≤ 4 := by decide +kernel
  exact this n h
theorem join_le (l : List ByteArray) (h : ∀ y, y ∈ l → y.size ≤ 4) : (Lib.join (l.map (·.data.toList)) [32]).length ≤ 5 * l.length := by
  have hs : ∀ l : List ByteArray, (∀ y, y ∈ l → y.size ≤ 4) → Lib.lens (l.map (·.data.toList)) ≤ 4 * l.length := fun l h => by
    induction l with
    | nil => simp [Lib.lens]
    | cons a r ih =>
      have h1 := ih (fun y hy => h y (List.mem_cons_of_mem _ hy))
      have h2 := h a (List.mem_cons_self ..)
      have h3 : a.data.size = a.size := rfl
      simp [Lib.lens] at h1 ⊢
      omega
  cases l with
  | nil => simp [Lib.join_nil]
  | cons a r =>
    have h1 := hs (a :: r) h
    have h2 := Lib.join_length a.data.toList (r.map (·.data.toList)) [32]
    rw [List.map_cons] at h1 ⊢
    rw [h2]
    simp at h1 ⊢
    omega

set_option maxRecDepth 100000 in
set_option maxHeartbeats 2000000 in
theorem text_any (lo hi : Nat) (hl : lo < 18446744073709551616) (hh : hi < 18446744073709551616) (w : World) (G : Gl w) :
    Calls Tryd.prog 38 #[.agg #[.int .u64 lo, .int .u64 hi]] w fun e w' => e = .returned (.string (textOf lo hi)) ∧ Below w.heap.size w w' := by
  obtain ⟨i0, hi0, hz0, hz1, hz2⟩ := info_parts info_string
  have p1 := pc_le lo
  have p2 := pc_le hi
  have hG := G.size
  have ct := fun W => count_below lo hi hl hh W
  obtain ⟨m, hm⟩ : ∃ m, Ns.pc lo + Ns.pc hi = m := ⟨_, rfl⟩
  have hm8 : m ≤ 128 := by omega
  rw [hm] at ct
  have CT := Lib.hid ct
  clear ct hm p1 p2
  refine (callsIn_wide (n := 5)).1 ?_
  refine callsIn_of_wp_marks Tryd.func38 rfl trivial ?_ rfl
  simp only [Tryd.ntmps38, List.size_toArray, List.length_cons, List.length_nil, Nat.reduceAdd, Nat.reduceSub, Array.replicate_succ, Array.replicate_zero, List.push_toArray, List.append_toArray, List.nil_append, List.cons_append]
  gi_wp2_with fail
  refine (callsIn_wide.2 (CT.out _)).mono ?_
  rintro e w1 ⟨rfl, hb1⟩
  have hz1' := hb1.size
  have c10 := (bcell hb1).1 w.heap.size 0 (by simp)
  have c11 := (bcell hb1).1 w.heap.size 1 (by simp)
  simp at hz1' c10 c11
  gi_wp2_with (first
    | (gi_at_make; refine wpListIn_make_own _ rfl _ _ 59 rfl w.heap.size 9 i0 (.string ⟨#[]⟩) 1 Tryd.underlying59 hi0 hz0 hz1 .i64 .i64 (m : Int) m rfl rfl rfl (by rw [hz2]; omega) (by unfold maxLen; omega) (by omega) ?_; intro w2 hrow2 hgrow2; have c20 := (World.cell?_of_block (a := ⟨w.heap.size, 0, none⟩) (hgrow2.block w.heap.size (by omega) (by simp))).trans c10; have c21 := (World.cell?_of_block (a := ⟨w.heap.size, 1, none⟩) (hgrow2.block w.heap.size (by omega) (by simp))).trans c11; have hz2' : w.heap.size < w2.heap.size := Nat.lt_of_lt_of_le (by omega) hgrow2.size)
    | (gi_at_call 52; refine (callsIn_wide.2 (members_any lo hi _)).mono ?_; rintro e w' ⟨rfl, rfl⟩))
  obtain ⟨V, hV⟩ : ∃ V, ((w2.alloc (.cells #[.slice (some ⟨w1.heap.size, 0, none⟩) 0 m] 59)).alloc (.cells #[.int .u64 lo, .int .u64 hi] 34)) = V := ⟨_, rfl⟩
  have hwV : Below w.heap.size w V := by
    rw [← hV]
    exact (((((Below.refl _ _).alloc (Nat.le_refl _) _).trans (hb1.mono (by simp))).grown hgrow2 (by omega) (fun k e => by cases e)).alloc (by omega) _).alloc (by simp; omega) _
  have GV : Gl V := G.below hwV
  have hSV : SetAt V (w2.heap.size + 1) lo hi := by rw [← hV]; simpa using SetAt.new (w2.alloc (.cells #[.slice (some ⟨w1.heap.size, 0, none⟩) 0 m] 59)) lo hi
  have hNV : Boxed V w2.heap.size 59 (.slice (some ⟨w1.heap.size, 0, none⟩) 0 m) := by rw [← hV]; exact (Boxed.new w2 _ _).alloc _
  have hrV : V.ownsRow w.heap.size 9 1 (.slice (some ⟨w1.heap.size, 0, none⟩) 0 m) 0 [] := by rw [← hV]; exact (hrow2.alloc _).alloc _
  have hzV : w2.heap.size + 2 = V.heap.size := by rw [← hV]; simp
  rw [hV]
  clear hV hgrow2 hrow2 c20 c21 hb1 c10 c11 CT
  refine range_all rfl (by omega) (gf := 60) (lb := #[.pointer (some ⟨w2.heap.size + 1, 0, none⟩)]) rfl trivial (enters_of Tryd.func60 (by kernel_rfl) rfl)
    (n₀ := w.heap.size) (by omega) (members_gives lo hi hl hh 4 (w2.heap.size + 1) w.heap.size V GV hG (by omega) hSV) rfl
    (fun pre W => (∃ v, Boxed W w2.heap.size 59 v ∧ W.ownsRow w.heap.size 9 1 v pre.length (names pre)) ∧ Below w.heap.size w W)
    (fun s A B ⟨⟨v, hv, hr⟩, hb⟩ st => ⟨⟨v, boxed_step hv (by decide) st, ownsRow_step hr (by decide) st⟩, hb.trans (st.below.mono (by omega))⟩)
    ⟨⟨_, hNV, hrV⟩, hwV⟩
    (fun x => { tmps := #[.agg #[.int .u64 lo, .int .u64 hi], .pointer (some ⟨w.heap.size, 0, none⟩), .string ⟨#[]⟩, .pointer (some ⟨w2.heap.size, 0, none⟩), .int .i64 (x : Nat), undef, undef,
      .agg #[.int .u64 lo, .int .u64 hi], .int .i64 m, .slice (some ⟨w1.heap.size, 0, none⟩) 0 m, .agg #[.int .u64 lo, .int .u64 hi], .func (.func 60) #[] #[.pointer (some ⟨w2.heap.size + 1, 0, none⟩)],
      .int .i64 (x : Nat), undef, undef, undef, undef, undef, undef, undef, undef, undef, undef, undef], defers := [] }) ?assign ?body ?done
  case assign =>
    intro l x W K hK
    gi_wp2
    exact hK
  case body =>
    rintro l pre x W ⟨⟨v, hv, hrow⟩, hB⟩ ⟨post, hpost⟩
    have hx : x < 128 := Ns.notes_lt (lo := lo) (hi := hi) (by rw [hpost]; simp)
    have hlen : pre.length < 128 := by
      have := Ns.notes_length lo hi
      rw [hpost] at this
      simp at this
      omega
    have GW : Gl W := G.below hB
    have hzW := hB.size
    clear hpost
    gi_wp2_with (first
      | (gi_at_call 14; refine (CallsIn.inRound l (callsIn_wide.2 (name_any x hx _ GW))).mono ?_; rintro e w5 ⟨rfl, hb5⟩; have hv5 : Boxed w5 w2.heap.size 59 v := (hb5.block _ hv.lt).trans hv; have hrow5 := ownsRow_step hrow (t := 34) (b := 0) (by decide) (Step.of_below (Nat.zero_le _) hb5); have hc5 := hv5.cell; have hz5 := hb5.size)
      | (gi_at_builtin; refine wpListIn_append_own _ rfl _ _ 59 rfl w.heap.size 9 i0 (.string ⟨#[]⟩) 1 16 Tryd.underlying59 hi0 hz0 hz1 hz2 rfl (by decide) _ _ _ rfl (hrow5.alloc _) ⟨w5.heap.size, 0, none⟩ 1 1 [.string (nameOf x)] rfl rfl (cell_one_new _ _ _) (by simp [Value.oneCell']) (by unfold maxLen; omega) (by omega) (by simp; omega) ?_; intro v' w6 hown' hgrow _; have hrd := appended_round (t := 34) (v' := v') hv5 (by decide) (by decide) hrow5 hgrow; obtain ⟨g', cap', rfl⟩ := ownsRow_succ hown'; obtain ⟨hv6, hv7, hr7, hk7, hb7⟩ := hv5.appended (by decide) hrow5 (by omega) (by omega) hown' hgrow; have hc6 := hv6.cell; have hf6 := hv6.frozen))
    exact ⟨(Round.of_below hb5).trans hrd, (hb5.mono (by omega)).trans hb7, ⟨_, hv7, by simpa [names] using hr7⟩, hB.trans ((hb5.mono (by omega)).trans hb7)⟩
  case done =>
    rintro D W hD ⟨⟨v, hv, hrow⟩, hB⟩ hK
    have hc := hv.cell
    have hzW := hB.size
    have hlen := Ns.notes_length lo hi
    have hDW : D < W.heap.size := (Array.getElem?_eq_some_iff.1 hK).1
    rcases hrow.2 with ⟨rfl, hn⟩ | ⟨g, cap, cur, rfl, hgb, hg, hnc, hcm, hcs, htk⟩
    · have e0 : textOf lo hi = ⟨#[]⟩ := by
        unfold textOf
        rw [List.length_eq_zero_iff.1 hn]
        rfl
      gi_wp2_with ((gi_at_call 56; refine (callsIn_wide.2 (Any.strings_Join_none Tryd.lays156 Tryd.Builder_Extra_156 none 0 ⟨#[32]⟩ _)).mono ?_; rintro e w8 ⟨rfl, rfl⟩))
      refine ⟨by simp, .inl ⟨_, _, rfl, run_takeDeferred hK, ?_⟩⟩
      exact ⟨_, results_tmp rfl _ _ _, by rw [e0]; rfl, hB.trans (belowK_b (w := w) (Nat.le_refl _) w8 D _ _ (by omega) hK rfl rfl)⟩
    · have hgl : g < W.heap.size := (Array.getElem?_eq_some_iff.1 hg).1
      have hcl : ∀ (j : Nat) (y : ByteArray), ((Ns.notes lo hi).map nameOf)[j]? = some y → W.cell? ⟨g, 0 + j, none⟩ = some (.string y) := fun j y hy =>
        (show W.cell? ((⟨g, 0, none⟩ : Addr).add j) = some (.string y) → W.cell? ⟨g, 0 + j, none⟩ = some (.string y) from fun h => by by_cases hj : j = 0 <;> simpa [Addr.add, hj] using h) <| hrow.cells (g := g) rfl j (.string y) (by
          unfold names
          rw [List.getElem?_map] at hy ⊢
          cases hn : (Ns.notes lo hi)[j]? with
          | none => rw [hn] at hy; cases hy
          | some z => rw [hn] at hy; cases hy; rfl)
      have hJ := Any.strings_Join Tryd.lays156 Tryd.Builder_Extra_156 g 0 cap ((Ns.notes lo hi).map nameOf) ⟨#[32]⟩ W hcl hgl (by simp; omega) (by simpa using hnc) (Nat.le_trans (join_le _ (fun y hy => by
          obtain ⟨z, hz, rfl⟩ := List.mem_map.1 hy
          exact nameOf_size z (Ns.notes_lt hz))) (by simp; omega))
      rw [List.length_map] at hJ
      have HJ := Lib.hid hJ
      clear hJ hcl
      gi_wp2_with fail
      refine (callsIn_wide.2 HJ.out).mono ?_
      rintro e w8 ⟨rfl, hb8⟩
      have hK8 : w8.heap[D]? = some (.deferred (some [])) := (hb8.block D hDW).trans hK
      have hz8 := hb8.size
      gi_wp2
      refine ⟨by simp, .inl ⟨_, _, rfl, run_takeDeferred hK8, ?_⟩⟩
      exact ⟨_, results_tmp rfl _ _ _, by unfold textOf; rfl, (hB.trans (hb8.mono (by omega))).trans (belowK_b (w := w) (Nat.le_refl _) w8 D _ _ (by omega) hK8 rfl rfl)⟩
end Go.Proofs.YtibdnfcbgcbdeaaDoor
