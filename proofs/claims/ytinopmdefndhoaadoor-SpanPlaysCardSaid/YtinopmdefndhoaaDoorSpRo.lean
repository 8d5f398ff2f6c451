/- Range of a right compass. -/
import Derived.Test.YtinopmdefndhoaaDoorSpHh
import Derived.Test.YtinopmdefndhoaaDoorNsM
namespace Go.Proofs.YtinopmdefndhoaaDoor
open Go Go.RowKit Go.Shelf

/-- What a cell reads. -/
def cellAt (W : World) (b o : Nat) : Value := (W.cell? ⟨b, o, none⟩).getD undef

set_option maxHeartbeats 2000000 in
theorem range_ok (l h : Int) (h1 : 0 ≤ l) (h2 : l ≤ h) (h3 : h ≤ 127) (w : World) :
    Calls Tryd.prog 61 #[.agg #[.int .i64 l, .int .i64 h]] w fun e w' => e = .returned (.tuple #[.agg #[.int .u64 (rgLo l h : Nat), .int .u64 (rgHi l h : Nat)], .int .i64 0]) ∧ Below w.heap.size w w' := by
  have C := Lib.hid (fun W => check_any l h W)
  rw [show compE l h = 0 by unfold compE; rw [if_neg (by omega), if_neg (by omega)]] at C
  have hlt := Ns.sh_lt 18446744073709551615 18446744073709551615 (h - l - 127) (by decide) (by decide)
  have S1 := Lib.hid (fun W => shift_full (h - l - 127) W)
  have S2 := Lib.hid (fun W => shift_any _ (Ns.shHi 18446744073709551615 18446744073709551615 (h - l - 127)) l hlt.1 W)
  rw [show rgLo l h = Ns.shLo (Ns.shLo 18446744073709551615 18446744073709551615 (h - l - 127)) (Ns.shHi 18446744073709551615 18446744073709551615 (h - l - 127)) l by rfl, show rgHi l h = Ns.shHi (Ns.shLo 18446744073709551615 18446744073709551615 (h - l - 127)) (Ns.shHi 18446744073709551615 18446744073709551615 (h - l - 127)) l by rfl]
  generalize Ns.shLo 18446744073709551615 18446744073709551615 (h - l - 127) = x at S1 S2 ⊢
  generalize Ns.shHi 18446744073709551615 18446744073709551615 (h - l - 127) = y at S1 S2 ⊢
  generalize Ns.shLo x y l = x' at S2 ⊢
  generalize Ns.shHi x y l = y' at S2 ⊢
  clear hlt
  have e1 : IntKind.i64.wrap (h - l) = h - l := by rw [IntKind.wrap_i64]; omega
  have e2 : IntKind.i64.wrap (h - l - 127) = h - l - 127 := by rw [IntKind.wrap_i64]; omega
  go_enter Tryd.func61, Tryd.ntmps61
  go_wp2_with fail
  refine (C.out _).mono ?_
  rintro e w1 ⟨rfl, rfl⟩
  go_wp2_with fail
  have hR1 : RangeR w l h (((((w.alloc (.cells #[.int .i64 l, .int .i64 h] 45)).alloc (.cells #[.int .u64 0, .int .u64 0] 26)).alloc (.cells #[.int .i64 l, .int .i64 h] 45)).alloc (.cells #[.int .u64 18446744073709551615, .int .u64 18446744073709551615] 26))) := by
    refine ⟨?_, ?_, ⟨0, 0, ?_⟩, (((((Below.refl _ _).alloc (Nat.le_refl _) _).alloc (by simp) _).alloc (by simp; omega) _).alloc (by simp; omega) _)⟩
    · exact ((Below.heap_alloc _ _ _ (by simp; omega)).trans ((Below.heap_alloc _ _ _ (by simp; omega)).trans (Below.heap_alloc _ _ _ (by simp)))).trans (World.alloc_heap_new w _)
    · have := SetAt.new (((w.alloc (.cells #[.int .i64 l, .int .i64 h] 45)).alloc (.cells #[.int .u64 0, .int .u64 0] 26)).alloc (.cells #[.int .i64 l, .int .i64 h] 45)) 18446744073709551615 18446744073709551615
      simpa using this
    · have := SetAt.new (w.alloc (.cells #[.int .i64 l, .int .i64 h] 45)) 0 0
      have h2 : SetAt ((w.alloc (.cells #[.int .i64 l, .int .i64 h] 45)).alloc (.cells #[.int .u64 0, .int .u64 0] 26)) (w.heap.size + 1) 0 0 := by simpa using this
      exact (h2.below (B := w.heap.size + 1 + 1) (by omega) (((Below.refl _ _).alloc (by simp) _).alloc (by simp) _))
  have HS := Lib.hid (show ∀ W : World, RangeR w l h W → (W.cell? ⟨w.heap.size, 0, none⟩ = some (.int .i64 l) ∧ W.cell? ⟨w.heap.size, 1, none⟩ = some (.int .i64 h) ∧ W.cell? ⟨w.heap.size + 1 + 1 + 1, 0, none⟩ = some (.int .u64 18446744073709551615) ∧ W.cell? ⟨w.heap.size + 1 + 1 + 1, 1, none⟩ = some (.int .u64 18446744073709551615) ∧ W.cell? ⟨w.heap.size + 1, 0, none⟩ = some (cellAt W (w.heap.size + 1) 0) ∧ W.cell? ⟨w.heap.size + 1, 1, none⟩ = some (cellAt W (w.heap.size + 1) 1) ∧ W.frozen? ⟨w.heap.size + 1, 0, none⟩ = false ∧ W.frozen? ⟨w.heap.size + 1, 1, none⟩ = false ∧ RangeR w l h W) from fun W hW => ⟨by simp [World.cell?, hW.c], by simp [World.cell?, hW.c], hW.a.fst, hW.a.snd, by obtain ⟨u, v, hr⟩ := hW.r; simp [cellAt, hr.fst], by obtain ⟨u, v, hr⟩ := hW.r; simp [cellAt, hr.snd], by obtain ⟨u, v, hr⟩ := hW.r; exact hr.f0, by obtain ⟨u, v, hr⟩ := hW.r; exact hr.f1, hW⟩)
  have HN := Lib.hid (show ∀ W W' : World, Below W.heap.size W W' → (W.cell? ⟨w.heap.size, 0, none⟩ = some (.int .i64 l) ∧ W.cell? ⟨w.heap.size, 1, none⟩ = some (.int .i64 h) ∧ W.cell? ⟨w.heap.size + 1 + 1 + 1, 0, none⟩ = some (.int .u64 18446744073709551615) ∧ W.cell? ⟨w.heap.size + 1 + 1 + 1, 1, none⟩ = some (.int .u64 18446744073709551615) ∧ W.cell? ⟨w.heap.size + 1, 0, none⟩ = some (cellAt W (w.heap.size + 1) 0) ∧ W.cell? ⟨w.heap.size + 1, 1, none⟩ = some (cellAt W (w.heap.size + 1) 1) ∧ W.frozen? ⟨w.heap.size + 1, 0, none⟩ = false ∧ W.frozen? ⟨w.heap.size + 1, 1, none⟩ = false ∧ RangeR w l h W) → RangeR w l h W' from fun W W' hb h => h.2.2.2.2.2.2.2.2.call hb)
  go_region_held3 (fun W => W.cell? ⟨w.heap.size, 0, none⟩ = some (.int .i64 l) ∧ W.cell? ⟨w.heap.size, 1, none⟩ = some (.int .i64 h) ∧ W.cell? ⟨w.heap.size + 1 + 1 + 1, 0, none⟩ = some (.int .u64 18446744073709551615) ∧ W.cell? ⟨w.heap.size + 1 + 1 + 1, 1, none⟩ = some (.int .u64 18446744073709551615) ∧ W.cell? ⟨w.heap.size + 1, 0, none⟩ = some (cellAt W (w.heap.size + 1) 0) ∧ W.cell? ⟨w.heap.size + 1, 1, none⟩ = some (cellAt W (w.heap.size + 1) 1) ∧ W.frozen? ⟨w.heap.size + 1, 0, none⟩ = false ∧ W.frozen? ⟨w.heap.size + 1, 1, none⟩ = false ∧ RangeR w l h W) ((refine HS.out _ ?_; repeat' (first | (with_reducible exact hR3) | (with_reducible exact hR2) | (with_reducible exact hR1) | (with_reducible refine RangeR.drew ?_) | (with_reducible refine RangeR.put ?_ _ _))))
    (first
    | (go_at_call_of 35 (Value.agg #[.int .u64 18446744073709551615, .int .u64 18446744073709551615]); refine (S1.out _).mono ?_; rintro e w2 ⟨rfl, hb2⟩; have hR2 := HN.out _ _ hb2 (by assumption))
    | (go_at_call 35; refine (S2.out _).mono ?_; rintro e w3 ⟨rfl, hb3⟩; have hR3 := HN.out _ _ hb3 (by assumption)))
  go_wp2
  obtain ⟨u, v, hs⟩ := hR3.r
  have hq := hs.put x' y'
  have q0 := hq.fst
  have q1 := hq.snd
  refine bodyPost_ret (v := .tuple #[.agg #[.int .u64 (x' : Nat), .int .u64 (y' : Nat)], .int .i64 0]) (by simp [results, Tryd.results61, go_sem, q0, q1]) rfl ⟨rfl, ?_⟩
  exact (hR3.put x' y').b
end Go.Proofs.YtinopmdefndhoaaDoor
