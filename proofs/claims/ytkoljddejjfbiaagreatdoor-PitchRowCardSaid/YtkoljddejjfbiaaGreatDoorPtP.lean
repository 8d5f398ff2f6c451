/- The usual feet: the iterator over them, and pitch's Feet. -/
import Derived.Test.YtkoljddejjfbiaaGreatDoorPtJ
import Derived.Test.YtkoljddejjfbiaaGreatDoorPtRn
import Derived.Test.YtkoljddejjfbiaaGreatDoorSlI
import Derived.Test.YtkoljddejjfbiaaGreatDoorImH
namespace Go.Proofs.YtkoljddejjfbiaaGreatDoor
open Go Go.RowKit Go.Shelf
attribute [local go_sem] Oper.semAt_some
attribute [local go_sem] wide_fn wide_depth

/-- The usual feet, with their shifts on 8. -/
def us : List (Int × Int × Int) := [(64, 1, -36), (32, 1, -24), (64, 3, -17), (16, 1, -12), (64, 5, -8), (32, 3, -5), (8, 1, 0), (32, 5, 4), (16, 3, 7), (4, 1, 12), (16, 5, 16), (8, 3, 19), (16, 7, 22), (2, 1, 24), (8, 5, 28), (4, 3, 31), (8, 7, 34), (1, 1, 36), (4, 5, 40), (2, 3, 43), (1, 2, 48), (1, 4, 60)]
def usC : Array Value := #[.int .i64 64, .int .i64 1, .int .i64 32, .int .i64 1, .int .i64 64, .int .i64 3, .int .i64 16, .int .i64 1, .int .i64 64, .int .i64 5, .int .i64 32, .int .i64 3, .int .i64 8, .int .i64 1, .int .i64 32, .int .i64 5, .int .i64 16, .int .i64 3, .int .i64 4, .int .i64 1, .int .i64 16, .int .i64 5, .int .i64 8, .int .i64 3, .int .i64 16, .int .i64 7, .int .i64 2, .int .i64 1, .int .i64 8, .int .i64 5, .int .i64 4, .int .i64 3, .int .i64 8, .int .i64 7, .int .i64 1, .int .i64 1, .int .i64 4, .int .i64 5, .int .i64 2, .int .i64 3, .int .i64 1, .int .i64 2, .int .i64 1, .int .i64 4]
/-- The usual feet lie as they were laid. -/
def Us (W : World) : Prop := ∃ T fr, W.heap[0]? = some (.cells usC T fr)
theorem Us.below {w w' : World} (h : Us w) (hb : Below w.heap.size w w') : Us w' := by
  obtain ⟨T, fr, h⟩ := h
  exact ⟨T, fr, (hb.block _ (Array.getElem?_eq_some_iff.1 h).1).trans h⟩
/-- What is known of one of the usual feet. -/
structure UsOk (x y s : Int) : Prop where
  pk : pk x y = 0
  sh : ShI (8 * y) (1 * x) s
  low : FracMath.qn x y = x ∧ FracMath.qd x y = y
theorem uidx : ∀ (k : Nat), k < 22 → ∃ (x y s : Int), us.drop k = (x, y, s) :: us.drop (k + 1) ∧ UsOk x y s ∧ ∀ W, Sem.run Tryz.prog (Instr.index 89 (.agg usC) (.int .i64 (k : Int))) W = .ok (.agg #[.int .i64 x, .int .i64 y]) W
  | 0, _ => ⟨64, 1, -36, rfl, ⟨by decide +kernel, Pt.sh_lit 8 64 3 0 0 (by decide +kernel) (by decide +kernel) (by decide +kernel) (by decide +kernel) (by decide +kernel) (by decide +kernel), by decide +kernel⟩, fun W => by kernel_rfl⟩
  | 1, _ => ⟨32, 1, -24, rfl, ⟨by decide +kernel, Pt.sh_lit 8 32 2 0 0 (by decide +kernel) (by decide +kernel) (by decide +kernel) (by decide +kernel) (by decide +kernel) (by decide +kernel), by decide +kernel⟩, fun W => by kernel_rfl⟩
  | 2, _ => ⟨64, 3, -17, rfl, ⟨by decide +kernel, Pt.sh_lit 24 64 2 0 7 (by decide +kernel) (by decide +kernel) (by decide +kernel) (by decide +kernel) (by decide +kernel) (by decide +kernel), by decide +kernel⟩, fun W => by kernel_rfl⟩
  | 3, _ => ⟨16, 1, -12, rfl, ⟨by decide +kernel, Pt.sh_lit 8 16 1 0 0 (by decide +kernel) (by decide +kernel) (by decide +kernel) (by decide +kernel) (by decide +kernel) (by decide +kernel), by decide +kernel⟩, fun W => by kernel_rfl⟩
  | 4, _ => ⟨64, 5, -8, rfl, ⟨by decide +kernel, Pt.sh_lit 40 64 1 0 4 (by decide +kernel) (by decide +kernel) (by decide +kernel) (by decide +kernel) (by decide +kernel) (by decide +kernel), by decide +kernel⟩, fun W => by kernel_rfl⟩
  | 5, _ => ⟨32, 3, -5, rfl, ⟨by decide +kernel, Pt.sh_lit 24 32 1 0 7 (by decide +kernel) (by decide +kernel) (by decide +kernel) (by decide +kernel) (by decide +kernel) (by decide +kernel), by decide +kernel⟩, fun W => by kernel_rfl⟩
  | 6, _ => ⟨8, 1, 0, rfl, ⟨by decide +kernel, Pt.sh_lit 8 8 0 0 0 (by decide +kernel) (by decide +kernel) (by decide +kernel) (by decide +kernel) (by decide +kernel) (by decide +kernel), by decide +kernel⟩, fun W => by kernel_rfl⟩
  | 7, _ => ⟨32, 5, 4, rfl, ⟨by decide +kernel, Pt.sh_lit 40 32 0 0 4 (by decide +kernel) (by decide +kernel) (by decide +kernel) (by decide +kernel) (by decide +kernel) (by decide +kernel), by decide +kernel⟩, fun W => by kernel_rfl⟩
  | 8, _ => ⟨16, 3, 7, rfl, ⟨by decide +kernel, Pt.sh_lit 24 16 0 0 7 (by decide +kernel) (by decide +kernel) (by decide +kernel) (by decide +kernel) (by decide +kernel) (by decide +kernel), by decide +kernel⟩, fun W => by kernel_rfl⟩
  | 9, _ => ⟨4, 1, 12, rfl, ⟨by decide +kernel, Pt.sh_lit 8 4 0 1 0 (by decide +kernel) (by decide +kernel) (by decide +kernel) (by decide +kernel) (by decide +kernel) (by decide +kernel), by decide +kernel⟩, fun W => by kernel_rfl⟩
  | 10, _ => ⟨16, 5, 16, rfl, ⟨by decide +kernel, Pt.sh_lit 40 16 0 1 4 (by decide +kernel) (by decide +kernel) (by decide +kernel) (by decide +kernel) (by decide +kernel) (by decide +kernel), by decide +kernel⟩, fun W => by kernel_rfl⟩
  | 11, _ => ⟨8, 3, 19, rfl, ⟨by decide +kernel, Pt.sh_lit 24 8 0 1 7 (by decide +kernel) (by decide +kernel) (by decide +kernel) (by decide +kernel) (by decide +kernel) (by decide +kernel), by decide +kernel⟩, fun W => by kernel_rfl⟩
  | 12, _ => ⟨16, 7, 22, rfl, ⟨by decide +kernel, Pt.sh_lit 56 16 0 1 10 (by decide +kernel) (by decide +kernel) (by decide +kernel) (by decide +kernel) (by decide +kernel) (by decide +kernel), by decide +kernel⟩, fun W => by kernel_rfl⟩
  | 13, _ => ⟨2, 1, 24, rfl, ⟨by decide +kernel, Pt.sh_lit 8 2 0 2 0 (by decide +kernel) (by decide +kernel) (by decide +kernel) (by decide +kernel) (by decide +kernel) (by decide +kernel), by decide +kernel⟩, fun W => by kernel_rfl⟩
  | 14, _ => ⟨8, 5, 28, rfl, ⟨by decide +kernel, Pt.sh_lit 40 8 0 2 4 (by decide +kernel) (by decide +kernel) (by decide +kernel) (by decide +kernel) (by decide +kernel) (by decide +kernel), by decide +kernel⟩, fun W => by kernel_rfl⟩
  | 15, _ => ⟨4, 3, 31, rfl, ⟨by decide +kernel, Pt.sh_lit 24 4 0 2 7 (by decide +kernel) (by decide +kernel) (by decide +kernel) (by decide +kernel) (by decide +kernel) (by decide +kernel), by decide +kernel⟩, fun W => by kernel_rfl⟩
  | 16, _ => ⟨8, 7, 34, rfl, ⟨by decide +kernel, Pt.sh_lit 56 8 0 2 10 (by decide +kernel) (by decide +kernel) (by decide +kernel) (by decide +kernel) (by decide +kernel) (by decide +kernel), by decide +kernel⟩, fun W => by kernel_rfl⟩
  | 17, _ => ⟨1, 1, 36, rfl, ⟨by decide +kernel, Pt.sh_lit 8 1 0 3 0 (by decide +kernel) (by decide +kernel) (by decide +kernel) (by decide +kernel) (by decide +kernel) (by decide +kernel), by decide +kernel⟩, fun W => by kernel_rfl⟩
  | 18, _ => ⟨4, 5, 40, rfl, ⟨by decide +kernel, Pt.sh_lit 40 4 0 3 4 (by decide +kernel) (by decide +kernel) (by decide +kernel) (by decide +kernel) (by decide +kernel) (by decide +kernel), by decide +kernel⟩, fun W => by kernel_rfl⟩
  | 19, _ => ⟨2, 3, 43, rfl, ⟨by decide +kernel, Pt.sh_lit 24 2 0 3 7 (by decide +kernel) (by decide +kernel) (by decide +kernel) (by decide +kernel) (by decide +kernel) (by decide +kernel), by decide +kernel⟩, fun W => by kernel_rfl⟩
  | 20, _ => ⟨1, 2, 48, rfl, ⟨by decide +kernel, Pt.sh_lit 16 1 0 4 0 (by decide +kernel) (by decide +kernel) (by decide +kernel) (by decide +kernel) (by decide +kernel) (by decide +kernel), by decide +kernel⟩, fun W => by kernel_rfl⟩
  | 21, _ => ⟨1, 4, 60, rfl, ⟨by decide +kernel, Pt.sh_lit 32 1 0 5 0 (by decide +kernel) (by decide +kernel) (by decide +kernel) (by decide +kernel) (by decide +kernel) (by decide +kernel), by decide +kernel⟩, fun W => by kernel_rfl⟩
  | k + 22, h => by omega
theorem us_len : us.length = 22 := rfl
theorem us_ok {x y s : Int} (h : (x, y, s) ∈ us) : UsOk x y s := by
  obtain ⟨k, hk, e⟩ := List.getElem_of_mem h
  obtain ⟨x', y', s', h1, h2, _⟩ := uidx k hk
  have : us.drop k = us[k] :: us.drop (k + 1) := List.drop_eq_getElem_cons hk
  rw [h1] at this
  injection this with e1 _
  rw [← e1] at e
  cases e
  exact h2
theorem us_split {k : Nat} {t : Int × Int × Int} (hd : us.drop k = t :: us.drop (k + 1)) (_ : k < 22) : us = us.take k ++ t :: us.drop (k + 1) ∧ us.take (k + 1) = us.take k ++ [t] := by
  refine ⟨by rw [← hd, List.take_append_drop], ?_⟩
  have : us[k]? = some t := by
    have h := congrArg List.head? hd
    rw [List.head?_drop] at h
    simpa using h
  rw [List.take_add_one, this]
  rfl

theorem wpListIn_load_row {F : Fence} {n : Nat} {P : Program} {ops : Array Oper} {rest : List Oper} {o : Oper} {a : Act} {w : World} {Q : Exit → Act → World → Prop} (hgd : o.guard = none) (ty : TypeId) (x : Operand) (ho : o.op = .load ty x)
    (g : Nat) (hx : a.eval x = .pointer (some ⟨g, 0, none⟩)) (t : TypeId) (cs : Array Value) (fr : Nat × Nat) (d : TypeDesc) (hg : w.heap[g]? = some (.cells cs t fr))
    (hu : P.underlying ty = some d) (hd : (match d with | .struct _ | .array _ _ => true | _ => false) = true) (hi : (P.info? ty).map (·.size) = some cs.size)
    (h : wpListIn F n P ops Q rest (a.put o.dst (.agg cs)) w) : wpListIn F n P ops Q (o :: rest) a w := by
  refine wpListIn_plain hgd fun K hK => ?_
  unfold Oper.wpIn
  refine ⟨?_, ?_⟩
  · simp [Oper.about, ho]
  · rw [Oper.semAt_plain F _ _ (by rw [ho]; intro c hc'; cases hc')]
    simp only [execOp, ho, hx, Instr.loadAt, Instr.sureAddr, Sem.run_bind, Sem.run_pure, Result.andThen_ok, run_loadVar_row w g t ty cs fr d hg hu hd hi]
    exact hK _ _ h

theorem low_c (w : World) : Calls Tryz.prog 44 #[] w fun e w' => e = .returned (.func (.func 65) #[] #[]) ∧ w' = w := by
  go_enter Tryz.func44, Tryz.ntmps44
  go_wp2
  go_ret
  exact ⟨rfl, rfl⟩

set_option maxRecDepth 100000 in
set_option maxHeartbeats 4000000 in
theorem low_gives (n₁ n : Nat) (w : World) (hn : n₁ ≤ w.heap.size) :
    Rn.Gives n₁ Fence.wide n Tryz.prog 65 #[] (fun t : Int × Int × Int => #[.agg #[.int .i64 t.1, .int .i64 t.2.1]]) us w Us := by
  intro l J Jx W hbW hJ hJx hJK hY h0
  have hz := hbW.size
  obtain ⟨TN, fr, hU⟩ := hJK _ _ h0
  show CallsIn Fence.wide n Tryz.prog 65 #[.func (.yield l) #[] #[]] W _
  refine callsIn_of_wp Tryz.func65 rfl trivial ?_ rfl
  simp only [Tryz.ntmps65, List.size_toArray, List.length_cons, List.length_nil, Nat.reduceAdd, Nat.reduceSub, Array.replicate_succ, Array.replicate_zero, List.push_toArray, List.append_toArray, List.nil_append, List.cons_append]
  gi_wp2_with (refine wpListIn_load_row rfl 89 _ rfl 0 rfl TN _ fr _ hU Tryz.underlying89 rfl (by kernel_rfl) ?_)
  clear hU
  gi_loopw [5] (fun i wr => ∃ k : Nat, k ≤ 22 ∧ i = .int .i64 (k : Int) ∧ W.heap.size ≤ wr.heap.size ∧ J (us.take k) wr) (fun i _ => (22 - intOf i).toNat)
  case atStart => exact ⟨0, by omega, rfl, Nat.le_refl _, h0⟩
  case round =>
    obtain ⟨k, hk, rfl, hsz, hJs⟩ := hrel
    by_cases h22 : k < 22
    · have hki : (k : Int) < 22 := by omega
      obtain ⟨x, y, s, hd, _, hix⟩ := uidx k h22
      obtain ⟨hsp, hst⟩ := us_split hd h22
      have hxk := hix wr
      obtain ⟨V, hV⟩ : ∃ V, wr.alloc (.cells #[.int .i64 x, .int .i64 y] 23) = V := ⟨_, rfl⟩
      have hbV : Below wr.heap.size wr V := by rw [← hV]; exact (Below.refl _ _).alloc (Nat.le_refl _) _
      have hzV : V.heap.size = wr.heap.size + 1 := by rw [← hV]; simp
      have hpV : V.heap[wr.heap.size]? = some (.cells #[.int .i64 x, .int .i64 y] 23) := by rw [← hV]; exact heap_new rfl
      obtain ⟨E, hE⟩ : ∃ E, wr.heap.size = E := ⟨_, rfl⟩
      rw [hE] at hpV
      have c0 := cell2_0 hpV
      have c1 := cell2_1 hpV
      have hJV := hJ _ _ V hJs (Rn.Step.of_below (by omega) hbV)
      obtain ⟨fn, tmps, assign, body, hy, hR⟩ := hY (us.take k) (x, y, s) V hJV ⟨_, hsp⟩
      rw [← hst] at hR
      have HSP := Lib.hid (show ∃ post, us = us.take (k + 1) ++ post from ⟨_, (List.take_append_drop (k + 1) us).symm⟩)
      have HJX := Lib.hid hJx
      have wk := wrap_in (q := (k : Int) + 1) (by omega) (by omega)
      dsimp only at hy
      clear hd hsp hst hix hJx
      gi_wp2_with fail
      refine hR.mono ?_
      rintro e W3 (⟨rfl, hJ3, hr3⟩ | ⟨rfl, hJx3, _⟩)
      · have hz3 := hr3.size
        gi_wp2
        go_roundw
        case rel => exact ⟨k + 1, by omega, rfl, by omega, hJ3⟩
        case measure => simp [intOf]; omega
      · gi_wp2
        refine bodyPost_ret (results_none rfl _ _ _) rfl ?_
        exact ⟨⟨_, rfl⟩, .inr ⟨_, HSP.out, hJx3⟩⟩
    · obtain rfl : k = 22 := by omega
      have hJe : J us wr := hJs
      have hm : ¬ ((22 : Nat) : Int) < 22 := by omega
      gi_wp2
      go_end0
      exact ⟨⟨_, rfl⟩, .inl hJe⟩
end Go.Proofs.YtkoljddejjfbiaaGreatDoor
