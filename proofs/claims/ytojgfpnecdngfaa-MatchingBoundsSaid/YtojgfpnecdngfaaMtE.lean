/- slices.Repeat of one int. -/
import Derived.Test.YtojgfpnecdngfaaMtD
import Derived.Test.YtojgfpnecdngfaaMtShelf
import Derived.Laws.CopyOwn
import Derived.Laws.MakeOwn
namespace Go.Proofs.Ytojgfpnecdngfaa
open Go Go.RowKit

theorem splice_rep {α : Type} (k c m : Nat) (v z : α) (hm : m = min k (c - k)) : splice (List.replicate k v ++ List.replicate (c - k) z) k (List.replicate m v) = List.replicate (k + m) v ++ List.replicate (c - (k + m)) z := by
  unfold splice
  rw [List.take_append_of_le_length (by simp), List.take_of_length_le (by simp), List.length_replicate, List.drop_append, List.drop_eq_nil_of_le (by simp), List.nil_append, List.length_replicate, ← List.append_assoc, List.replicate_append_replicate]
  congr 1
  rw [List.drop_replicate]
  congr 1
  omega
theorem splice_one {α : Type} (c : Nat) (v z : α) : splice (List.replicate c z) 0 [v] = List.replicate 1 v ++ List.replicate (c - 1) z := by
  unfold splice
  simp [List.drop_replicate]
theorem made_rep (z : Value) (c : Nat) (hz : z.cells = #[z]) : madeCells z.cells c = (List.replicate c z).toArray := by
  rw [hz]
  unfold madeCells
  apply Array.ext
  · simp
  · intro i h1 h2
    simp [Nat.mod_one]
theorem hmk_int (n : Nat) (hn : n ≤ 1000000) (w : World) :
    (Instr.makeSlice 27 (.int .i64 (n : Int)) (.int .i64 (n : Int))).run Try.prog w = .ok (.slice (some ⟨w.heap.size, 0, none⟩) n n) (w.alloc (.cells (madeCells (Value.int .i64 0).cells n) 3)) := by
  obtain ⟨i0, hi0, hz0, hz1, hz2⟩ := info_parts info_int
  have h := run_make (P := Try.prog) (w := w) 27 3 i0 (.int .i64 0) Try.underlying27 hi0 hz0 .i64 .i64 (n : Int) (n : Int) (by omega) (by omega) (by rw [hz2]; omega) (by omega)
  rw [hz1, Int.toNat_natCast, Nat.mul_one] at h
  exact h
theorem hmk_bool (n : Nat) (hn : n ≤ 1000000) (w : World) :
    (Instr.makeSlice 49 (.int .i64 (n : Int)) (.int .i64 (n : Int))).run Try.prog w = .ok (.slice (some ⟨w.heap.size, 0, none⟩) n n) (w.alloc (.cells (madeCells (Value.bool false).cells n) 4)) := by
  obtain ⟨i0, hi0, hz0, hz1, hz2⟩ := info_parts info_bool
  have h := run_make (P := Try.prog) (w := w) 49 4 i0 (.bool false) Try.underlying49 hi0 hz0 .i64 .i64 (n : Int) (n : Int) (by omega) (by omega) (by rw [hz2]; omega) (by omega)
  rw [hz1, Int.toNat_natCast, Nat.mul_one] at h
  exact h
theorem rep_row {w : World} {g n : Nat} {v : Int} (h : w.heap[g]? = some (.cells (List.replicate n (Value.int .i64 v)).toArray 3 (0, 0))) : IR w g n (fun _ => v) :=
  ⟨_, h, by simp, fun i hi => by simp [hi]⟩

set_option maxRecDepth 100000 in
set_option maxHeartbeats 1000000 in
theorem repeat_c (xb c : Nat) (v : Int) (w : World) (hc : c ≤ 1000000) (hx : w.cell? ⟨xb, 0, none⟩ = some (.int .i64 v)) (hxl : xb < w.heap.size) :
    Calls Try.prog 41 #[.slice (some ⟨xb, 0, none⟩) 1 1, .int .i64 (c : Int)] w fun e w' => e = .returned (.slice (some ⟨w.heap.size, 0, none⟩) c c) ∧ IR w' w.heap.size c (fun _ => v) ∧ Below w.heap.size w w' := by
  have MU := Lib.hid (fun W => Try.bits_Mul 1 c (by omega) (by omega) W)
  have hmk := hmk_int c hc
  have q1 : (1 * c / 18446744073709551616 : Nat) = 0 := by omega
  have q2 : (1 * c % 18446744073709551616 : Nat) = c := by omega
  have MU2 := Lib.hid (show ∀ W, Calls Try.prog 52 #[.int .u64 (1 : Nat), .int .u64 (c : Nat)] W fun e w' => e = .returned (.tuple #[.int .u64 ((0 : Nat) : Int), .int .u64 (c : Int)]) ∧ W = w' from fun W => by have := MU.out W; rw [q1, q2] at this; exact this.mono fun _ _ h => ⟨h.1, h.2.symm⟩)
  clear q1 q2 MU
  rw [made_rep _ _ rfl] at hmk
  obtain ⟨i0, hi0, hz0, hz1, hz2⟩ := info_parts info_int
  have hsz : (Try.prog.info? 3).map (·.size) = some 1 := by rw [hi0]; simp [hz1]
  have HSZ := Lib.hid hsz
  clear hi0 hz0 hz1 hz2 hsz
  have h64 : IntKind.u64.wrap (c : Int) = c := by rw [IntKind.wrap_u64]; omega
  obtain ⟨Z0, hZ0⟩ : ∃ Z0, (List.replicate c (Value.int .i64 0)).toArray = Z0 := ⟨_, rfl⟩
  rw [hZ0] at hmk
  have hg0 : (w.alloc (.cells Z0 3)).heap[w.heap.size]? = some (.cells (List.replicate c (Value.int .i64 0)).toArray 3 (0, 0)) := by rw [hZ0]; exact heap_newM _ _
  have hb0 : Below w.heap.size w (w.alloc (.cells Z0 3)) := (Below.refl _ _).alloc (Nat.le_refl _) _
  have hx0 : (w.alloc (.cells Z0 3)).cell? ⟨xb, 0, none⟩ = some (.int .i64 v) := (hb0.cell (p := ⟨xb, 0, none⟩) hxl).trans hx
  have HG0 := Lib.hid (And.intro hg0 (And.intro hb0 hx0))
  clear hg0 hb0 hx0 hZ0
  by_cases hc0 : 0 < c
  · go_enter Try.func41, Try.ntmps41
    go_wp2_with (first
      | (go_at_call 52; refine (MU2.out _).mono ?_; rintro e w1 ⟨rfl, rfl⟩)
      | (with_reducible refine wpList_copy_splice rfl (.tmp 31) (.tmp 32) 27 27 rfl 3 Try.underlying27 HSZ.out _ _ _ _ _ _ rfl rfl w.heap.size 0 (List.replicate c (Value.int .i64 0)) 3 HG0.out.1 [.int .i64 v] ?c1 ?c2 ?c3 ?c4 w.heap.size w HG0.out.2.1 (Nat.le_refl _) ?c5))
    case c1 => exact (Nat.min_eq_left hc0).symm
    case c2 =>
      intro j u hu
      have : j = 0 := by have := (List.getElem?_eq_some_iff.1 hu).1; simp at this; omega
      subst this
      simp at hu
      subst hu
      exact hx
    case c3 => simp; omega
    case c4 => intro u hu; simp at hu; subst hu; rfl
    case c5 =>
      intro w1 hg1 hb1
      have G1 : Hid (w1.heap[w.heap.size]? = some (.cells (List.replicate 1 (Value.int .i64 v) ++ List.replicate (c - 1) (Value.int .i64 0)).toArray 3 (0, 0))) := by rw [← splice_one c]; exact hg1
      have HB1 := Lib.hid hb1
      clear hg1 hb1
      go_wp2_with fail
      go_loopw [8] (fun i wr => ∃ k : Nat, 1 ≤ k ∧ k ≤ c ∧ i = .int .i64 (k : Int) ∧ wr.heap[w.heap.size]? = some (.cells (List.replicate k (Value.int .i64 v) ++ List.replicate (c - k) (Value.int .i64 0)).toArray 3 (0, 0)) ∧ Below w.heap.size w wr) (fun i _ => c - (intOf i).toNat)
      case atStart => exact ⟨1, Nat.le_refl _, by omega, rfl, G1.out, HB1.out⟩
      case round =>
        obtain ⟨k, hk1, hk, rfl, hg, hb⟩ := hrel
        have HG := Lib.hid hg
        have HB := Lib.hid hb
        have HGd := Lib.hid (show wr.drew.heap[w.heap.size]? = some (.cells (List.replicate k (Value.int .i64 v) ++ List.replicate (c - k) (Value.int .i64 0)).toArray 3 (0, 0)) from hg)
        have HBd := Lib.hid hb.drew
        clear hg hb
        by_cases hkc : k < c
        · have hki : (k : Int) < (c : Int) := by omega
          have hne : ¬ c = k := by omega
          obtain ⟨mm, hmm⟩ : ∃ mm, mm = min k (c - k) := ⟨_, rfl⟩
          have HMM := Lib.hid hmm
          have hm1 : 1 ≤ mm := by omega
          have hm2 : k + mm ≤ c := by omega
          clear hmm
          have q1 := wrap_in (q := (k : Int) + (mm : Int)) (by omega) (by omega)
          have hcp := run_copy_row (P := Try.prog) wr.drew 27 27 3 3 w.heap.size k (c - k) (c - k) ⟨w.heap.size, 0, none⟩ k c _ 3 (List.replicate mm (Value.int .i64 v)) Try.underlying27 HSZ.out HGd.out (by rw [List.length_replicate]; exact HMM.out)
            (fun j u hu => by
              have hj : j < mm := by have := (List.getElem?_eq_some_iff.1 hu).1; simpa using this
              rw [Addr.add_mid, Nat.zero_add]
              simp [hj] at hu
              subst hu
              have hg := HGd.out
              have hjk : j < k := by have := HMM.out; omega
              simp [World.cell?, hg, List.getElem?_append, hjk])
            (by simp; omega) (fun u hu => by have := List.eq_of_mem_replicate hu; subst this; rfl)
          obtain ⟨W2, hW2⟩ : ∃ W2, W2 = wr.drew.setRow w.heap.size (List.replicate (k + mm) (Value.int .i64 v) ++ List.replicate (c - (k + mm)) (Value.int .i64 0)).toArray := ⟨_, rfl⟩
          have hsp := splice_rep k c mm (Value.int .i64 v) (Value.int .i64 0) HMM.out
          unfold splice at hsp
          rw [List.toList_toArray, List.append_assoc, hsp, ← hW2, List.length_replicate] at hcp
          have hg2 : W2.heap[w.heap.size]? = some (.cells (List.replicate (k + mm) (Value.int .i64 v) ++ List.replicate (c - (k + mm)) (Value.int .i64 0)).toArray 3 (0, 0)) := by rw [hW2]; exact setRow_heap _ _ _ _ _ _ HGd.out
          have hb2 : Below w.heap.size w W2 := by rw [hW2]; exact below_setRow HBd.out (Nat.le_refl _) _
          have HW2 := Lib.hid (And.intro hg2 hb2)
          clear hW2 hg2 hb2 hsp
          have hcp' : Sem.run Try.prog (Builtin.copy_ #[27, 27] 3 #[.slice (some ⟨w.heap.size, k, none⟩) (c - k) (c - k), .slice (some ⟨w.heap.size, 0, none⟩) k c]) wr.drew = .ok (.int .i64 (mm : Int)) W2 := hcp
          clear hcp
          go_wp2_with fail
          go_region
          go_wp2_with fail
          go_roundw
          case rel => exact ⟨k + mm, by omega, hm2, by go_num, HW2.out⟩
          case measure => simp [intOf]; omega
        · obtain rfl : k = c := by omega
          have hki : ¬ (k : Int) < (k : Int) := by omega
          go_wp2_with fail
          go_ret
          refine ⟨rfl, ?_, HB.out⟩
          refine rep_row ?_
          have := HG.out
          rwa [Nat.sub_self, List.replicate_zero, List.append_nil] at this
  · have hcp := run_copy_none (P := Try.prog) (w.alloc (.cells Z0 3)) 27 27 3 3 (some ⟨w.heap.size, 0, none⟩) (some ⟨xb, 0, none⟩) c c 1 1 Try.underlying27 HSZ.out (by rw [show c = 0 by omega]; rfl)
    have hcp' : Sem.run Try.prog (Builtin.copy_ #[27, 27] 3 #[.slice (some ⟨w.heap.size, 0, none⟩) c c, .slice (some ⟨xb, 0, none⟩) 1 1]) (w.alloc (.cells Z0 3)) = .ok (.int .i64 0) (w.alloc (.cells Z0 3)) := hcp
    clear hcp
    have hci : ¬ (0 : Int) < (c : Int) := by omega
    have hlast : IR (w.alloc (.cells Z0 3)) w.heap.size c (fun _ => v) := ⟨_, HG0.out.1, by simp, fun i hi => by omega⟩
    have HL := Lib.hid hlast
    clear hlast
    go_enter Try.func41, Try.ntmps41
    go_wp2_with (first
      | (go_at_call 52; refine (MU2.out _).mono ?_; rintro e w1 ⟨rfl, rfl⟩))
    go_loopw [8] (fun i wr => i = .int .i64 0 ∧ wr = w.alloc (.cells Z0 3)) (fun i _ => 0)
    case atStart => exact ⟨rfl, rfl⟩
    case round =>
      obtain ⟨rfl, hwr⟩ := hrel
      subst hwr
      go_wp2_with fail
      go_ret
      exact ⟨rfl, HL.out, HG0.out.2.1⟩
end Go.Proofs.Ytojgfpnecdngfaa
