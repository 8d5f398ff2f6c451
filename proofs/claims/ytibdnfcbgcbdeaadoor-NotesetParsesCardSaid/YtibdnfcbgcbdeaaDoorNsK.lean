/- The reference's Shift. -/
import Derived.Test.YtibdnfcbgcbdeaaDoorNsJ
namespace Go.Proofs.YtibdnfcbgcbdeaaDoor
open Go Go.RowKit Go.Shelf

set_option maxHeartbeats 4000000 in
theorem rshift_any (a b : Nat) (k : Int) (ha : a < 18446744073709551616) (hb : b < 18446744073709551616) (h1 : -127 ≤ k) (h2 : k ≤ 127) (w : World) :
    Calls Tryd.prog 37 #[.agg #[.int .u64 a, .int .u64 b], .int .i64 k] w fun e w' => e = .returned (.agg #[.int .u64 (Ns.shLo a b k : Nat), .int .u64 (Ns.shHi a b k : Nat)]) ∧ Below w.heap.size w w' := by
  obtain ⟨x, hx⟩ : ∃ x, Ns.shLo a b k = x := ⟨_, rfl⟩
  obtain ⟨y, hy⟩ : ∃ y, Ns.shHi a b k = y := ⟨_, rfl⟩
  have HS := Lib.hid (fun m hm => Ns.has_sh a b m k ha hb hm)
  have HL := Lib.hid (Ns.sh_lt a b k ha hb)
  rw [hx, hy] at HS HL
  rw [hx, hy]
  clear hx hy
  obtain ⟨M, hM⟩ : ∃ M, Ns.movedB a b k = M := ⟨_, rfl⟩
  have M0 := Lib.hid (fun m => Ns.moved_zero a b k m)
  have MH := Lib.hid (fun ol oh n z => Ns.moved_hit a b ol oh k n z)
  have MM := Lib.hid (fun n => Ns.moved_miss a b k n)
  rw [hM] at M0 MH MM HS
  clear hM
  obtain ⟨H, hH⟩ : ∃ H, Ns.has a b = H := ⟨_, rfl⟩
  have RH := Lib.hid (fun n hn W => rhas_any a b n hn ha hb W)
  rw [hH] at RH MH MM
  clear hH
  obtain ⟨W0, hW0⟩ : ∃ W0, (w.alloc (.cells #[.int .u64 a, .int .u64 b] 34)).alloc (.cells #[.int .u64 0, .int .u64 0] 34) = W0 := ⟨_, rfl⟩
  have sA : SetAt W0 w.heap.size a b := by rw [← hW0]; exact (SetAt.new w a b).below (SetAt.new w a b).lt ((Below.refl _ _).alloc (Nat.le_refl _) _)
  have sR : SetAt W0 (w.heap.size + 1) 0 0 := by rw [← hW0]; simpa using SetAt.new (w.alloc (.cells #[.int .u64 a, .int .u64 b] 34)) 0 0
  have sO : SetAt (W0.alloc (.cells #[.int .u64 0, .int .u64 0] 34)) (w.heap.size + 1 + 1) 0 0 := by
    have h := SetAt.new W0 0 0
    rw [show W0.heap.size = w.heap.size + 1 + 1 by rw [← hW0]; simp] at h
    exact h
  have hB0 : Below w.heap.size w W0 := by rw [← hW0]; exact ((Below.refl _ _).alloc (Nat.le_refl _) _).alloc (by simp) _
  have hz0 : W0.heap.size = w.heap.size + 1 + 1 := by rw [← hW0]; simp
  have HZ := Lib.hid hz0
  have HW := Lib.hid hW0
  clear hz0 hW0
  go_enter Tryd.func37, Tryd.ntmps37
  go_wp2
  go_loopw [6] (fun i wr => ∃ (n ol oh : Nat), n ≤ 128 ∧ i = .int .i64 (n : Int) ∧ SetAt wr (w.heap.size + 1 + 1) ol oh ∧ ol < 18446744073709551616 ∧ oh < 18446744073709551616 ∧ Hid (∀ m, m < 128 → Ns.has ol oh m = M n m) ∧
      Below (w.heap.size + 1 + 1) W0 wr) (fun i _ => 128 - (intOf i).toNat)
  case atStart =>
    rw [HW.out]
    exact ⟨0, 0, 0, by omega, rfl, sO, by decide, by decide, fun m hm => by rw [M0.out m]; unfold Ns.has; split <;> exact Nat.zero_testBit _, (Below.refl _ _).alloc (by rw [HZ.out]; exact Nat.le_refl _) _⟩
  case round =>
    obtain ⟨n, ol, oh, hn, rfl, hs, hol, hoh, hI, hw⟩ := hrel
    have r1 := sA.below (by omega) hw
    have a0 := r1.fst
    have a1 := r1.snd
    have r2 := sR.below (by omega) hw
    have g0 := r2.fst
    have g1 := r2.snd
    have g2 := r2.f0
    have g3 := r2.f1
    have o0 := hs.fst
    have o1 := hs.snd
    have o2 := hs.f0
    have o3 := hs.f1
    have o4 := hs.lt
    have hzw : w.heap.size + 1 + 1 ≤ wr.heap.size := by rw [← HZ.out]; exact hw.size
    by_cases hlt : n < 128
    · by_cases hyes : H n = true ∧ 0 ≤ (n : Int) + k ∧ (n : Int) + k ≤ 127
      · obtain ⟨c1, c2, c3⟩ := hyes
        obtain ⟨z, hz⟩ : ∃ z : Nat, (z : Int) = (n : Int) + k := ⟨((n : Int) + k).toNat, by omega⟩
        have hz128 : z < 128 := by omega
        have nI := MH.out ol oh n z hz128 hz c1 hI
        have NI := Lib.hid nI
        have R := Lib.hid (RH.out n hlt)
        rw [c1] at R
        have e1 : IntKind.i64.wrap ((n : Int) + k) = (z : Int) := by rw [IntKind.wrap_i64]; omega
        have hk : k = (z : Int) - n := by omega
        have z0 : (0 : Int) ≤ (z : Int) := by omega
        have z1 : (z : Int) ≤ 127 := by omega
        clear nI hz c1 c2 c3 hI
        have e2 : (n : Int) + k = (z : Int) := by omega
        clear hk
        go_wp2_with fail
        refine (R.out _).mono ?_
        rintro e w2 ⟨rfl, rfl⟩
        have hbA : Below wr.heap.size wr (wr.alloc (.cells #[.int .u64 a, .int .u64 b] 34)) := (Below.refl _ _).alloc (Nat.le_refl _) _
        have t5 := hs.below o4 hbA
        have p0 := t5.fst
        have p1 := t5.snd
        go_wp2_with fail
        refine (with_any ol oh z hz128 hol hoh _).mono ?_
        rintro e w3 ⟨rfl, hb3⟩
        have t6 := t5.below t5.lt hb3
        have y0 := t6.fst
        have y1 := t6.snd
        have y2 := t6.f0
        have y3 := t6.f1
        have y4 := t6.lt
        have hz3 := hb3.size
        simp at hz3
        go_wp2
        have t7 := t6.put (ol ||| Ns.sLo z) (oh ||| Ns.sHi z)
        go_roundw
        case rel =>
          exact ⟨n + 1, _, _, by omega, by go_num, t7, Ns.or_lt hol (Ns.sLo_lt z), Ns.or_lt hoh (Ns.sHi_lt z hz128), NI.out, (((hw.trans (hbA.mono (by omega))).trans (hb3.mono (by simp; omega))).setCell (p := ⟨w.heap.size + 1 + 1, 0, none⟩) (Nat.le_refl _) _).setCell (p := ⟨w.heap.size + 1 + 1, 1, none⟩) (Nat.le_refl _) _⟩
        case measure => simp [intOf]; omega
      · have nI : ∀ m, m < 128 → Ns.has ol oh m = M (n + 1) m := fun m hm => by rw [hI.out m hm, MM.out n hyes m hm]
        have NI := Lib.hid nI
        have R := Lib.hid (RH.out n hlt)
        have hbA : Below wr.heap.size wr (wr.alloc (.cells #[.int .u64 a, .int .u64 b] 34)) := (Below.refl _ _).alloc (Nat.le_refl _) _
        have t5 := hs.below o4 hbA
        have e1 : IntKind.i64.wrap ((n : Int) + k) = (n : Int) + k := by rw [IntKind.wrap_i64]; omega
        clear nI hI
        cases hc : H n with
        | false =>
          rw [hc] at R
          clear hc hyes
          go_wp2_with fail
          refine (R.out _).mono ?_
          rintro e w2 ⟨rfl, rfl⟩
          go_wp2
          go_roundw
          case rel => exact ⟨n + 1, _, _, by omega, by go_num, t5, hol, hoh, NI.out, hw.trans (hbA.mono (by omega))⟩
          case measure => simp [intOf]; omega
        | true =>
          rw [hc] at R hyes
          clear hc
          by_cases hneg : (n : Int) + k < 0
          · clear hyes
            go_wp2_with fail
            refine (R.out _).mono ?_
            rintro e w2 ⟨rfl, rfl⟩
            go_wp2
            go_roundw
            case rel => exact ⟨n + 1, _, _, by omega, by go_num, t5, hol, hoh, NI.out, hw.trans (hbA.mono (by omega))⟩
            case measure => simp [intOf]; omega
          · have hbig : 127 < (n : Int) + k := by
              rcases Int.lt_or_le 127 ((n : Int) + k) with h | h
              · exact h
              · exact absurd ⟨rfl, by omega, h⟩ hyes
            have hpos : (0 : Int) ≤ (n : Int) + k := by omega
            clear hyes
            go_wp2_with fail
            refine (R.out _).mono ?_
            rintro e w2 ⟨rfl, rfl⟩
            go_wp2
            go_roundw
            case rel => exact ⟨n + 1, _, _, by omega, by go_num, t5, hol, hoh, NI.out, hw.trans (hbA.mono (by omega))⟩
            case measure => simp [intOf]; omega
    · obtain rfl : n = 128 := by omega
      have hxy : ol = x ∧ oh = y := Ns.ext hol hoh HL.out.1 HL.out.2 (fun m hm => by rw [hI.out m hm, HS.out m hm])
      obtain ⟨rfl, rfl⟩ := hxy
      go_wp2
      have hq := r2.put ol oh
      have q0 := hq.fst
      have q1 := hq.snd
      refine bodyPost_ret (v := .agg #[.int .u64 (ol : Nat), .int .u64 (oh : Nat)]) (by simp [results, Tryd.results37, go_sem, q0, q1]) rfl ⟨rfl, ?_⟩
      exact ((hB0.trans (hw.mono (by omega))).setCell (p := ⟨w.heap.size + 1, 0, none⟩) (Nat.le_succ _) _).setCell (p := ⟨w.heap.size + 1, 1, none⟩) (Nat.le_succ _) _
end Go.Proofs.YtibdnfcbgcbdeaaDoor
