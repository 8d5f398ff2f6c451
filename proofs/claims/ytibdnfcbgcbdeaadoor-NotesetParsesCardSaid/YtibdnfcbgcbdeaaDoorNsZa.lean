/- Members: the notes of a set in a list of its own. -/
import Derived.Test.YtibdnfcbgcbdeaaDoorNsF
namespace Go.Proofs.YtibdnfcbgcbdeaaDoor
open Go Go.RowKit Go.Shelf
attribute [local go_sem] Oper.semAt_some wide_fn wide_depth

theorem info_int : (Tryd.prog.info? 3).map (fun i => (i.zero, i.size, i.bytes)) = some (some (.int .i64 0), 1, 8) := by kernel_rfl
theorem ownsRow_mono {w : World} {base base' : Nat} {e : TypeId} {size : Nat} {v : Value} {n : Nat} {xs : List Value} (h : w.ownsRow base e size v n xs) (hb : base' ≤ base) : w.ownsRow base' e size v n xs :=
  ⟨h.1, h.2.imp id fun ⟨g, cap, cur, h1, h2, r⟩ => ⟨g, cap, cur, h1, Nat.le_trans hb h2, r⟩⟩
def ints (l : List Nat) : List Value := l.map fun n => .int .i64 (n : Nat)

set_option maxRecDepth 100000 in
set_option maxHeartbeats 2000000 in
theorem appendSeq_any (lo hi Bs : Nat) (hl : lo < 18446744073709551616) (hh : hi < 18446744073709551616) (w : World) (G : Gl w) (hS : SetAt w Bs lo hi) :
    Calls Tryd.prog 59 #[.slice none 0 0, .func (.func 60) #[] #[.pointer (some ⟨Bs, 0, none⟩)]] w fun e w' => (∃ v, e = .returned v ∧ w'.ownsRow w.heap.size 3 1 v (Ns.notes lo hi).length (ints (Ns.notes lo hi))) ∧ Below w.heap.size w w' := by
  obtain ⟨i0, hi0, hz0, hz1, hz2⟩ := info_parts info_int
  have hG := G.size
  refine (callsIn_wide (n := 5)).1 ?_
  refine callsIn_of_wp_marks Tryd.func59 rfl trivial ?_ rfl
  simp only [Tryd.ntmps59, List.size_toArray, List.length_cons, List.length_nil, Nat.reduceAdd, Nat.reduceSub, Array.replicate_succ, Array.replicate_zero, List.push_toArray, List.append_toArray, List.nil_append, List.cons_append]
  gi_wp2_with fail
  obtain ⟨V, hV⟩ : ∃ V, (w.alloc (.cells #[.slice none 0 0] 31)) = V := ⟨_, rfl⟩
  have hwV : Below w.heap.size w V := by
    rw [← hV]
    exact (Below.refl _ _).alloc (Nat.le_refl _) _
  have GV : Gl V := G.below hwV
  have hSV : SetAt V Bs lo hi := hS.below hS.lt hwV
  have hNV : Boxed V w.heap.size 31 (.slice none 0 0) := by rw [← hV]; exact Boxed.new w _ _
  have hrV : V.ownsRow w.heap.size 3 1 (.slice none 0 0) 0 [] := World.ownsRow_nil _ _ _ _
  have hzV : w.heap.size + 1 = V.heap.size := by rw [← hV]; simp
  rw [hV]
  clear hV
  refine range_all rfl (by omega) (gf := 60) (lb := #[.pointer (some ⟨Bs, 0, none⟩)]) rfl trivial (enters_of Tryd.func60 (by kernel_rfl) rfl)
    (n₀ := w.heap.size) (by omega) (members_gives lo hi hl hh 4 Bs w.heap.size V GV hG (by omega) hSV) rfl
    (fun pre W => (∃ v, Boxed W w.heap.size 31 v ∧ W.ownsRow w.heap.size 3 1 v pre.length (ints pre)) ∧ Below w.heap.size w W)
    (fun s A B ⟨⟨v, hv, hr⟩, hb⟩ st => ⟨⟨v, boxed_step hv (by decide) st, ownsRow_step hr (by decide) st⟩, hb.trans (st.below.mono (by omega))⟩)
    ⟨⟨_, hNV, hrV⟩, hwV⟩
    (fun x => { tmps := #[.slice none 0 0, .func (.func 60) #[] #[.pointer (some ⟨Bs, 0, none⟩)], .pointer (some ⟨w.heap.size, 0, none⟩), undef, .slice none 0 0, .int .i64 (x : Nat), .func (.func 60) #[] #[.pointer (some ⟨Bs, 0, none⟩)], .int .i64 (x : Nat), undef, undef, undef, undef, undef], defers := [] }) ?assign ?body ?done
  case assign =>
    intro l x W K hK
    gi_wp2
    exact hK
  case body =>
    rintro l pre x W ⟨⟨v, hv, hrow⟩, hB⟩ ⟨post, hpost⟩
    have hx : x < 128 := Ns.notes_lt (lo := lo) (hi := hi) (by rw [hpost]; simp)
    have hlen : pre.length < 128 := by
      have := Ns.notes_length lo hi
      rw [hpost] at this
      simp at this
      omega
    have hzW := hB.size
    have hc := hv.cell
    clear hpost
    gi_wp2_with (gi_at_builtin; refine wpListIn_append_own _ rfl _ _ 31 rfl w.heap.size 3 i0 (.int .i64 0) 1 8 Tryd.underlying31 hi0 hz0 hz1 hz2 rfl (by decide) _ _ _ rfl (hrow.alloc _) ⟨W.heap.size, 0, none⟩ 1 1 [.int .i64 (x : Nat)] rfl rfl (cell_one_new _ _ _) (by simp [Value.oneCell']) (by unfold maxLen; omega) (by omega) (by simp; omega) ?_; intro v' w6 hown' hgrow _; have hrd := appended_round (t := 34) (v' := v') hv (by decide) (by decide) hrow hgrow; obtain ⟨g', cap', rfl⟩ := ownsRow_succ hown'; obtain ⟨hv6, hv7, hr7, hk7, hb7⟩ := hv.appended (by decide) hrow (by omega) (by omega) hown' hgrow; have hc6 := hv6.cell; have hf6 := hv6.frozen)
    exact ⟨hrd, hb7, ⟨_, hv7, by simpa [ints] using hr7⟩, hB.trans hb7⟩
  case done =>
    rintro D W hD ⟨⟨v, hv, hrow⟩, hB⟩ hK
    have hc := hv.cell
    gi_wp2
    refine ⟨by simp, .inl ⟨_, _, rfl, run_takeDeferred hK, ?_⟩⟩
    exact ⟨_, results_tmp rfl _ _ _, ⟨v, rfl, ownsRow_putObj hrow _ hK rfl⟩, hB.trans (belowK_b (w := w) (Nat.le_refl _) W D _ _ (by omega) hK rfl rfl)⟩

theorem collect_any (lo hi Bs : Nat) (hl : lo < 18446744073709551616) (hh : hi < 18446744073709551616) (w : World) (G : Gl w) (hS : SetAt w Bs lo hi) :
    Calls Tryd.prog 51 #[.func (.func 60) #[] #[.pointer (some ⟨Bs, 0, none⟩)]] w fun e w' => (∃ v, e = .returned v ∧ w'.ownsRow w.heap.size 3 1 v (Ns.notes lo hi).length (ints (Ns.notes lo hi))) ∧ Below w.heap.size w w' := by
  have A := Lib.hid (appendSeq_any lo hi Bs hl hh w G hS)
  go_enter Tryd.func51, Tryd.ntmps51
  go_wp2_with fail
  refine A.out.mono ?_
  rintro e w' ⟨⟨v, rfl, hr⟩, hb⟩
  go_wp2
  go_ret
  exact ⟨⟨_, rfl, hr⟩, hb⟩

theorem memberList_any (lo hi : Nat) (hl : lo < 18446744073709551616) (hh : hi < 18446744073709551616) (w : World) (G : Gl w) :
    Calls Tryd.prog 28 #[.agg #[.int .u64 lo, .int .u64 hi]] w fun e w' => (∃ v, e = .returned v ∧ w'.ownsRow w.heap.size 3 1 v (Ns.notes lo hi).length (ints (Ns.notes lo hi))) ∧ Below w.heap.size w w' := by
  have M := Lib.hid (fun W => members_any lo hi W)
  have C := Lib.hid (fun Bs W => collect_any lo hi Bs hl hh W)
  have b1 : Below w.heap.size w (w.alloc (.cells #[.int .u64 lo, .int .u64 hi] 34)) := (Below.refl _ _).alloc (Nat.le_refl _) _
  have b2 : Below w.heap.size w ((w.alloc (.cells #[.int .u64 lo, .int .u64 hi] 34)).alloc (.cells #[.int .u64 lo, .int .u64 hi] 34)) := b1.alloc (by simp) _
  have hs : SetAt ((w.alloc (.cells #[.int .u64 lo, .int .u64 hi] 34)).alloc (.cells #[.int .u64 lo, .int .u64 hi] 34)) (w.heap.size + 1) lo hi := by
    simpa using SetAt.new (w.alloc (.cells #[.int .u64 lo, .int .u64 hi] 34)) lo hi
  have B := Lib.hid (And.intro b2 hs)
  clear b1 b2 hs
  go_enter Tryd.func28, Tryd.ntmps28
  go_wp2_with fail
  refine (M.out _).mono ?_
  rintro e w' ⟨rfl, rfl⟩
  go_wp2_with fail
  refine (C.out _ _ (G.below B.out.1) B.out.2).mono ?_
  rintro e w' ⟨⟨v, rfl, hr⟩, hb⟩
  go_wp2
  go_ret
  exact ⟨⟨_, rfl, ownsRow_mono hr B.out.1.size⟩, B.out.1.trans (hb.mono B.out.1.size)⟩
end Go.Proofs.YtibdnfcbgcbdeaaDoor
