/- The contract of the law's Same. -/
import Derived.Test.YtbkbncapgljfaaaGreatDoorRkP
namespace Go.Proofs.YtbkbncapgljfaaaGreatDoor
open Go Go.RowKit Go.Shelf


set_option maxRecDepth 100000 in
set_option maxHeartbeats 4000000 in
theorem same_c (nm tn : ByteArray) (a b f : Int) (va : Value) (n : Nat) (X : Nat → Int) (nm2 tn2 : ByteArray) (a2 b2 f2 : Int) (vb : Value) (m : Nat) (Y : Nat → Int) (hn : n ≤ 9223372036854775807) (w : World) (h1 : Wd w va n X) (h2 : Wd w vb m Y) :
    Calls Tryz.prog 30 #[.agg #[.string nm, .string tn, .int .i64 a, .int .i64 b, .int .i64 f, va], .agg #[.string nm2, .string tn2, .int .i64 a2, .int .i64 b2, .int .i64 f2, vb]] w fun e w' => e = .returned (.bool (sameB nm tn a b f n X nm2 tn2 a2 b2 f2 m Y)) ∧ Below w.heap.size w w' := by
  obtain ⟨R, hR⟩ : ∃ R, sameB nm tn a b f n X nm2 tn2 a2 b2 f2 m Y = R := ⟨_, rfl⟩
  rw [hR]
  obtain ⟨sa, cp, rfl⟩ := h1.len
  obtain ⟨sb, cq, rfl⟩ := h2.len
  have hW := Lib.hid h1
  have hY := Lib.hid h2
  clear h1 h2
  obtain ⟨D, hD⟩ : ∃ D, w.heap.size = D := ⟨_, rfl⟩
  by_cases e1 : nm = nm2
  · subst e1
    by_cases e2 : tn = tn2
    · subst e2
      by_cases e3 : a = a2 ∧ b = b2
      · obtain ⟨rfl, rfl⟩ := e3
        have fr := fr_ne1 a b
        by_cases e4 : f = f2
        · subst e4
          obtain rfl : R = eqW n X m Y := by
            rw [← hR]; unfold sameB
            cases hE : eqW n X m Y with
            | true => exact decide_eq_true ⟨rfl, rfl, ⟨rfl, rfl⟩, rfl, rfl⟩
            | false => exact decide_eq_false (by rintro ⟨_, _, _, _, h⟩; cases h)
          clear hR
          by_cases hnm : n = m
          · subst hnm
            obtain ⟨R, hR⟩ : ∃ R, eqW n X n Y = R := ⟨_, rfl⟩
            rw [hR]
            have HR := Lib.hid hR
            clear hR
            go_enter Tryz.func30, Tryz.ntmps30
            have ld1 : ((w.alloc (.cells #[.string nm, .string tn, .int .i64 a, .int .i64 b, .int .i64 f, .slice sa n cp] 26)).alloc (.cells #[.string nm, .string tn, .int .i64 a, .int .i64 b, .int .i64 f, .slice sb n cq] 26)).heap[D]? = some (.cells #[.string nm, .string tn, .int .i64 a, .int .i64 b, .int .i64 f, .slice sa n cp] 26) := (heap_old (o := .cells #[.string nm, .string tn, .int .i64 a, .int .i64 b, .int .i64 f, .slice sb n cq] 26) (heap_new (by first | omega | (simp; omega))))
            have y1_0 := cell6_0 ld1
            have y1_1 := cell6_1 ld1
            have y1_2 := cell6_2 ld1
            have y1_3 := cell6_3 ld1
            have y1_4 := cell6_4 ld1
            have y1_5 := cell6_5 ld1
            clear ld1
            have ld2 : ((w.alloc (.cells #[.string nm, .string tn, .int .i64 a, .int .i64 b, .int .i64 f, .slice sa n cp] 26)).alloc (.cells #[.string nm, .string tn, .int .i64 a, .int .i64 b, .int .i64 f, .slice sb n cq] 26)).heap[D + 1]? = some (.cells #[.string nm, .string tn, .int .i64 a, .int .i64 b, .int .i64 f, .slice sb n cq] 26) := (heap_new (by first | omega | (simp; omega)))
            have y2_0 := cell6_0 ld2
            have y2_1 := cell6_1 ld2
            have y2_2 := cell6_2 ld2
            have y2_3 := cell6_3 ld2
            have y2_4 := cell6_4 ld2
            have y2_5 := cell6_5 ld2
            clear ld2
            have HP := Lib.hid (And.intro (show ((w.alloc (.cells #[.string nm, .string tn, .int .i64 a, .int .i64 b, .int .i64 f, .slice sa n cp] 26)).alloc (.cells #[.string nm, .string tn, .int .i64 a, .int .i64 b, .int .i64 f, .slice sb n cq] 26)).heap[D]? = some (.cells #[.string nm, .string tn, .int .i64 a, .int .i64 b, .int .i64 f, .slice sa n cp] 26) from (heap_old (o := .cells #[.string nm, .string tn, .int .i64 a, .int .i64 b, .int .i64 f, .slice sb n cq] 26) (heap_new (by first | omega | (simp; omega))))) (And.intro (show ((w.alloc (.cells #[.string nm, .string tn, .int .i64 a, .int .i64 b, .int .i64 f, .slice sa n cp] 26)).alloc (.cells #[.string nm, .string tn, .int .i64 a, .int .i64 b, .int .i64 f, .slice sb n cq] 26)).heap[D + 1]? = some (.cells #[.string nm, .string tn, .int .i64 a, .int .i64 b, .int .i64 f, .slice sb n cq] 26) from (heap_new (by first | omega | (simp; omega)))) (show Below D w (((w.alloc (.cells #[.string nm, .string tn, .int .i64 a, .int .i64 b, .int .i64 f, .slice sa n cp] 26)).alloc (.cells #[.string nm, .string tn, .int .i64 a, .int .i64 b, .int .i64 f, .slice sb n cq] 26))) from (((Below.refl _ w).alloc (by first | omega | (simp; omega)) (.cells #[.string nm, .string tn, .int .i64 a, .int .i64 b, .int .i64 f, .slice sa n cp] 26)).alloc (by first | omega | (simp; omega)) (.cells #[.string nm, .string tn, .int .i64 a, .int .i64 b, .int .i64 f, .slice sb n cq] 26)))))
            go_wp2_with fail
            go_loopw [5] (fun i wr => ∃ k : Nat, k ≤ n ∧ i = .int .i64 (k : Int) ∧ wr.heap[D]? = some (.cells #[.string nm, .string tn, .int .i64 a, .int .i64 b, .int .i64 f, .slice sa n cp] 26) ∧ wr.heap[D + 1]? = some (.cells #[.string nm, .string tn, .int .i64 a, .int .i64 b, .int .i64 f, .slice sb n cq] 26) ∧ Below D w wr ∧ Hid (∀ j, j < k → X j = Y j)) (fun i _ => (n - intOf i).toNat)
            case atStart => exact ⟨0, by omega, rfl, HP.out.1, HP.out.2.1, HP.out.2.2, Lib.hid (fun j hj => absurd hj (Nat.not_lt_zero _))⟩
            case round =>
              obtain ⟨k, hk, rfl, p0, p1, hw, hA⟩ := hrel
              clear HP y1_0 y1_1 y1_2 y1_3 y1_4 y1_5 y2_0 y2_1 y2_2 y2_3 y2_4 y2_5
              obtain ⟨r0, r1, r2, r3, r4, r5⟩ := cell6_at p0
              obtain ⟨t0, t1, t2, t3, t4, t5⟩ := cell6_at p1
              by_cases hkn : k < n
              · have hki : (k : Int) < n := by omega
                obtain ⟨g, o, c, e0, hc, hg, c0⟩ := (hW.out.below (hD ▸ hw)).at hkn
                cases e0
                obtain ⟨g', o', c', e1, hc', hg', c1⟩ := (hY.out.below (hD ▸ hw)).at hkn
                cases e1
                have wk := wrap_in (q := (k : Int) + 1) (by omega) (by omega)
                by_cases he : X k = Y k
                · have HN := Lib.hid (show ∀ j, j < k + 1 → X j = Y j from fun j hj => by
                    by_cases e : j = k
                    · subst e; exact he
                    · exact hA.out j (by omega))
                  have HB := Lib.hid (And.intro p0 (And.intro p1 hw))
                  have hsz : D ≤ wr.heap.size := by have := (Array.getElem?_eq_some_iff.1 p0).1; omega
                  clear hw p0 p1
                  go_wp2_with fail
                  go_quiet (fail)
                  go_wp2_with fail
                  go_roundw
                  case rel => exact ⟨k + 1, by omega, rfl, HB.out.1, HB.out.2.1, HB.out.2.2.trans ((drew_below' _ _).mono hsz), HN⟩
                  case measure => simp [intOf]; omega
                · obtain rfl : R = false := by rw [← HR.out, eqW_at hkn he]
                  have hsz : D ≤ wr.heap.size := by have := (Array.getElem?_eq_some_iff.1 p0).1; omega
                  have HB := Lib.hid (hw.trans ((drew_below' wr 0).mono hsz))
                  have HB := Lib.hid hw
                  clear hw p0 p1
                  go_wp2_with fail
                  go_quiet (fail)
                  go_wp2
                  go_ret
                  exact ⟨rfl, by first | exact HB.out.trans ((drew_below' _ _).mono hsz) | (rw [hD]; exact HB.out.trans ((drew_below' _ _).mono hsz))⟩
              · obtain rfl : k = n := by omega
                obtain rfl : R = true := by rw [← HR.out, eqW_all hA.out]
                have hm : ¬ (k : Int) < k := by omega
                clear p0 p1
                go_wp2
                go_ret
                exact ⟨rfl, by first | exact hw | (rw [hD]; exact hw)⟩
          · rw [eqW_len hnm]
            have hi : ¬ (n : Int) = (m : Int) := by omega
            go_enter Tryz.func30, Tryz.ntmps30
            have ld1 : ((w.alloc (.cells #[.string nm, .string tn, .int .i64 a, .int .i64 b, .int .i64 f, .slice sa n cp] 26)).alloc (.cells #[.string nm, .string tn, .int .i64 a, .int .i64 b, .int .i64 f, .slice sb m cq] 26)).heap[D]? = some (.cells #[.string nm, .string tn, .int .i64 a, .int .i64 b, .int .i64 f, .slice sa n cp] 26) := (heap_old (o := .cells #[.string nm, .string tn, .int .i64 a, .int .i64 b, .int .i64 f, .slice sb m cq] 26) (heap_new (by first | omega | (simp; omega))))
            have y1_0 := cell6_0 ld1
            have y1_1 := cell6_1 ld1
            have y1_2 := cell6_2 ld1
            have y1_3 := cell6_3 ld1
            have y1_4 := cell6_4 ld1
            have y1_5 := cell6_5 ld1
            clear ld1
            have ld2 : ((w.alloc (.cells #[.string nm, .string tn, .int .i64 a, .int .i64 b, .int .i64 f, .slice sa n cp] 26)).alloc (.cells #[.string nm, .string tn, .int .i64 a, .int .i64 b, .int .i64 f, .slice sb m cq] 26)).heap[D + 1]? = some (.cells #[.string nm, .string tn, .int .i64 a, .int .i64 b, .int .i64 f, .slice sb m cq] 26) := (heap_new (by first | omega | (simp; omega)))
            have y2_0 := cell6_0 ld2
            have y2_1 := cell6_1 ld2
            have y2_2 := cell6_2 ld2
            have y2_3 := cell6_3 ld2
            have y2_4 := cell6_4 ld2
            have y2_5 := cell6_5 ld2
            clear ld2
            have HW := Lib.hid (show Below D w (((w.alloc (.cells #[.string nm, .string tn, .int .i64 a, .int .i64 b, .int .i64 f, .slice sa n cp] 26)).alloc (.cells #[.string nm, .string tn, .int .i64 a, .int .i64 b, .int .i64 f, .slice sb m cq] 26))) from (((Below.refl _ w).alloc (by first | omega | (simp; omega)) (.cells #[.string nm, .string tn, .int .i64 a, .int .i64 b, .int .i64 f, .slice sa n cp] 26)).alloc (by first | omega | (simp; omega)) (.cells #[.string nm, .string tn, .int .i64 a, .int .i64 b, .int .i64 f, .slice sb m cq] 26)))
            go_wp2
            go_ret
            exact ⟨rfl, by first | exact HW.out | (rw [hD]; exact HW.out)⟩
        · skip
          obtain rfl : R = false := by rw [← hR]; exact decide_eq_false (by rintro ⟨_, _, _, h, _⟩; exact e4 h)
          clear hR
          go_enter Tryz.func30, Tryz.ntmps30
          have ld1 : ((w.alloc (.cells #[.string nm, .string tn, .int .i64 a, .int .i64 b, .int .i64 f, .slice sa n cp] 26)).alloc (.cells #[.string nm, .string tn, .int .i64 a, .int .i64 b, .int .i64 f2, .slice sb m cq] 26)).heap[D]? = some (.cells #[.string nm, .string tn, .int .i64 a, .int .i64 b, .int .i64 f, .slice sa n cp] 26) := (heap_old (o := .cells #[.string nm, .string tn, .int .i64 a, .int .i64 b, .int .i64 f2, .slice sb m cq] 26) (heap_new (by first | omega | (simp; omega))))
          have y1_0 := cell6_0 ld1
          have y1_1 := cell6_1 ld1
          have y1_2 := cell6_2 ld1
          have y1_3 := cell6_3 ld1
          have y1_4 := cell6_4 ld1
          have y1_5 := cell6_5 ld1
          clear ld1
          have ld2 : ((w.alloc (.cells #[.string nm, .string tn, .int .i64 a, .int .i64 b, .int .i64 f, .slice sa n cp] 26)).alloc (.cells #[.string nm, .string tn, .int .i64 a, .int .i64 b, .int .i64 f2, .slice sb m cq] 26)).heap[D + 1]? = some (.cells #[.string nm, .string tn, .int .i64 a, .int .i64 b, .int .i64 f2, .slice sb m cq] 26) := (heap_new (by first | omega | (simp; omega)))
          have y2_0 := cell6_0 ld2
          have y2_1 := cell6_1 ld2
          have y2_2 := cell6_2 ld2
          have y2_3 := cell6_3 ld2
          have y2_4 := cell6_4 ld2
          have y2_5 := cell6_5 ld2
          clear ld2
          have HW := Lib.hid (show Below D w (((w.alloc (.cells #[.string nm, .string tn, .int .i64 a, .int .i64 b, .int .i64 f, .slice sa n cp] 26)).alloc (.cells #[.string nm, .string tn, .int .i64 a, .int .i64 b, .int .i64 f2, .slice sb m cq] 26))) from (((Below.refl _ w).alloc (by first | omega | (simp; omega)) (.cells #[.string nm, .string tn, .int .i64 a, .int .i64 b, .int .i64 f, .slice sa n cp] 26)).alloc (by first | omega | (simp; omega)) (.cells #[.string nm, .string tn, .int .i64 a, .int .i64 b, .int .i64 f2, .slice sb m cq] 26)))
          go_wp2
          go_ret
          exact ⟨rfl, by first | exact HW.out | (rw [hD]; exact HW.out)⟩
      · skip
        obtain rfl : R = false := by rw [← hR]; exact decide_eq_false (by rintro ⟨_, _, h, _⟩; exact e3 h)
        clear hR
        have fr := fr_ne0 a b a2 b2 e3
        clear e3
        go_enter Tryz.func30, Tryz.ntmps30
        have ld1 : ((w.alloc (.cells #[.string nm, .string tn, .int .i64 a, .int .i64 b, .int .i64 f, .slice sa n cp] 26)).alloc (.cells #[.string nm, .string tn, .int .i64 a2, .int .i64 b2, .int .i64 f2, .slice sb m cq] 26)).heap[D]? = some (.cells #[.string nm, .string tn, .int .i64 a, .int .i64 b, .int .i64 f, .slice sa n cp] 26) := (heap_old (o := .cells #[.string nm, .string tn, .int .i64 a2, .int .i64 b2, .int .i64 f2, .slice sb m cq] 26) (heap_new (by first | omega | (simp; omega))))
        have y1_0 := cell6_0 ld1
        have y1_1 := cell6_1 ld1
        have y1_2 := cell6_2 ld1
        have y1_3 := cell6_3 ld1
        have y1_4 := cell6_4 ld1
        have y1_5 := cell6_5 ld1
        clear ld1
        have ld2 : ((w.alloc (.cells #[.string nm, .string tn, .int .i64 a, .int .i64 b, .int .i64 f, .slice sa n cp] 26)).alloc (.cells #[.string nm, .string tn, .int .i64 a2, .int .i64 b2, .int .i64 f2, .slice sb m cq] 26)).heap[D + 1]? = some (.cells #[.string nm, .string tn, .int .i64 a2, .int .i64 b2, .int .i64 f2, .slice sb m cq] 26) := (heap_new (by first | omega | (simp; omega)))
        have y2_0 := cell6_0 ld2
        have y2_1 := cell6_1 ld2
        have y2_2 := cell6_2 ld2
        have y2_3 := cell6_3 ld2
        have y2_4 := cell6_4 ld2
        have y2_5 := cell6_5 ld2
        clear ld2
        have HW := Lib.hid (show Below D w (((w.alloc (.cells #[.string nm, .string tn, .int .i64 a, .int .i64 b, .int .i64 f, .slice sa n cp] 26)).alloc (.cells #[.string nm, .string tn, .int .i64 a2, .int .i64 b2, .int .i64 f2, .slice sb m cq] 26))) from (((Below.refl _ w).alloc (by first | omega | (simp; omega)) (.cells #[.string nm, .string tn, .int .i64 a, .int .i64 b, .int .i64 f, .slice sa n cp] 26)).alloc (by first | omega | (simp; omega)) (.cells #[.string nm, .string tn, .int .i64 a2, .int .i64 b2, .int .i64 f2, .slice sb m cq] 26)))
        go_wp2
        go_ret
        exact ⟨rfl, by first | exact HW.out | (rw [hD]; exact HW.out)⟩
    · skip
      obtain rfl : R = false := by rw [← hR]; exact decide_eq_false (by rintro ⟨_, h, _⟩; exact e2 h)
      clear hR
      have x1 := str_ne e2
      go_enter Tryz.func30, Tryz.ntmps30
      have ld1 : ((w.alloc (.cells #[.string nm, .string tn, .int .i64 a, .int .i64 b, .int .i64 f, .slice sa n cp] 26)).alloc (.cells #[.string nm, .string tn2, .int .i64 a2, .int .i64 b2, .int .i64 f2, .slice sb m cq] 26)).heap[D]? = some (.cells #[.string nm, .string tn, .int .i64 a, .int .i64 b, .int .i64 f, .slice sa n cp] 26) := (heap_old (o := .cells #[.string nm, .string tn2, .int .i64 a2, .int .i64 b2, .int .i64 f2, .slice sb m cq] 26) (heap_new (by first | omega | (simp; omega))))
      have y1_0 := cell6_0 ld1
      have y1_1 := cell6_1 ld1
      have y1_2 := cell6_2 ld1
      have y1_3 := cell6_3 ld1
      have y1_4 := cell6_4 ld1
      have y1_5 := cell6_5 ld1
      clear ld1
      have ld2 : ((w.alloc (.cells #[.string nm, .string tn, .int .i64 a, .int .i64 b, .int .i64 f, .slice sa n cp] 26)).alloc (.cells #[.string nm, .string tn2, .int .i64 a2, .int .i64 b2, .int .i64 f2, .slice sb m cq] 26)).heap[D + 1]? = some (.cells #[.string nm, .string tn2, .int .i64 a2, .int .i64 b2, .int .i64 f2, .slice sb m cq] 26) := (heap_new (by first | omega | (simp; omega)))
      have y2_0 := cell6_0 ld2
      have y2_1 := cell6_1 ld2
      have y2_2 := cell6_2 ld2
      have y2_3 := cell6_3 ld2
      have y2_4 := cell6_4 ld2
      have y2_5 := cell6_5 ld2
      clear ld2
      have HW := Lib.hid (show Below D w (((w.alloc (.cells #[.string nm, .string tn, .int .i64 a, .int .i64 b, .int .i64 f, .slice sa n cp] 26)).alloc (.cells #[.string nm, .string tn2, .int .i64 a2, .int .i64 b2, .int .i64 f2, .slice sb m cq] 26))) from (((Below.refl _ w).alloc (by first | omega | (simp; omega)) (.cells #[.string nm, .string tn, .int .i64 a, .int .i64 b, .int .i64 f, .slice sa n cp] 26)).alloc (by first | omega | (simp; omega)) (.cells #[.string nm, .string tn2, .int .i64 a2, .int .i64 b2, .int .i64 f2, .slice sb m cq] 26)))
      go_wp2
      go_ret
      exact ⟨rfl, by first | exact HW.out | (rw [hD]; exact HW.out)⟩
  · skip
    obtain rfl : R = false := by rw [← hR]; exact decide_eq_false (by rintro ⟨h, _⟩; exact e1 h)
    clear hR
    have x1 := str_ne e1
    go_enter Tryz.func30, Tryz.ntmps30
    have ld1 : ((w.alloc (.cells #[.string nm, .string tn, .int .i64 a, .int .i64 b, .int .i64 f, .slice sa n cp] 26)).alloc (.cells #[.string nm2, .string tn2, .int .i64 a2, .int .i64 b2, .int .i64 f2, .slice sb m cq] 26)).heap[D]? = some (.cells #[.string nm, .string tn, .int .i64 a, .int .i64 b, .int .i64 f, .slice sa n cp] 26) := (heap_old (o := .cells #[.string nm2, .string tn2, .int .i64 a2, .int .i64 b2, .int .i64 f2, .slice sb m cq] 26) (heap_new (by first | omega | (simp; omega))))
    have y1_0 := cell6_0 ld1
    have y1_1 := cell6_1 ld1
    have y1_2 := cell6_2 ld1
    have y1_3 := cell6_3 ld1
    have y1_4 := cell6_4 ld1
    have y1_5 := cell6_5 ld1
    clear ld1
    have ld2 : ((w.alloc (.cells #[.string nm, .string tn, .int .i64 a, .int .i64 b, .int .i64 f, .slice sa n cp] 26)).alloc (.cells #[.string nm2, .string tn2, .int .i64 a2, .int .i64 b2, .int .i64 f2, .slice sb m cq] 26)).heap[D + 1]? = some (.cells #[.string nm2, .string tn2, .int .i64 a2, .int .i64 b2, .int .i64 f2, .slice sb m cq] 26) := (heap_new (by first | omega | (simp; omega)))
    have y2_0 := cell6_0 ld2
    have y2_1 := cell6_1 ld2
    have y2_2 := cell6_2 ld2
    have y2_3 := cell6_3 ld2
    have y2_4 := cell6_4 ld2
    have y2_5 := cell6_5 ld2
    clear ld2
    have HW := Lib.hid (show Below D w (((w.alloc (.cells #[.string nm, .string tn, .int .i64 a, .int .i64 b, .int .i64 f, .slice sa n cp] 26)).alloc (.cells #[.string nm2, .string tn2, .int .i64 a2, .int .i64 b2, .int .i64 f2, .slice sb m cq] 26))) from (((Below.refl _ w).alloc (by first | omega | (simp; omega)) (.cells #[.string nm, .string tn, .int .i64 a, .int .i64 b, .int .i64 f, .slice sa n cp] 26)).alloc (by first | omega | (simp; omega)) (.cells #[.string nm2, .string tn2, .int .i64 a2, .int .i64 b2, .int .i64 f2, .slice sb m cq] 26)))
    go_wp2
    go_ret
    exact ⟨rfl, by first | exact HW.out | (rw [hD]; exact HW.out)⟩
end Go.Proofs.YtbkbncapgljfaaaGreatDoor
/- The contract of the law's few; the walk of RankEquals. -/
namespace Go.Proofs.YtbkbncapgljfaaaGreatDoor
open Go Go.RowKit Go.Shelf

def fewB (nm tn : ByteArray) (n : Nat) : Bool := decide ((n ≤ 30 ∨ n = 129) ∧ nm.size ≤ 40 ∧ tn.size ≤ 40)


set_option maxRecDepth 100000 in
set_option maxHeartbeats 4000000 in
theorem few_c (nm tn : ByteArray) (a b f : Int) (va : Value) (n : Nat) (X : Nat → Int) (w : World) (h1 : Wd w va n X) :
    Calls Tryz.prog 12 #[.agg #[.string nm, .string tn, .int .i64 a, .int .i64 b, .int .i64 f, va]] w fun e w' => e = .returned (.bool (fewB nm tn n)) ∧ Below w.heap.size w w' := by
  obtain ⟨R, hR⟩ : ∃ R, fewB nm tn n = R := ⟨_, rfl⟩
  rw [hR]
  obtain ⟨sa, cp, rfl⟩ := h1.len
  clear h1
  obtain ⟨D, hD⟩ : ∃ D, w.heap.size = D := ⟨_, rfl⟩
  by_cases h0 : n ≤ 30
  · skip
    by_cases h2 : nm.size ≤ 40
    · by_cases h3 : tn.size ≤ 40
      · skip
        obtain rfl : R = true := by rw [← hR]; exact decide_eq_true ⟨.inl h0, h2, h3⟩
        have g0 : (n : Int) ≤ 30 := by omega
        have g2 : (nm.size : Int) ≤ 40 := by omega
        have g3 : (tn.size : Int) ≤ 40 := by omega
        clear hR
        go_enter Tryz.func12, Tryz.ntmps12
        have ld1 : (w.alloc (.cells #[.string nm, .string tn, .int .i64 a, .int .i64 b, .int .i64 f, .slice sa n cp] 26)).heap[D]? = some (.cells #[.string nm, .string tn, .int .i64 a, .int .i64 b, .int .i64 f, .slice sa n cp] 26) := (heap_new (by first | omega | (simp; omega)))
        have y1_0 := cell6_0 ld1
        have y1_1 := cell6_1 ld1
        have y1_2 := cell6_2 ld1
        have y1_3 := cell6_3 ld1
        have y1_4 := cell6_4 ld1
        have y1_5 := cell6_5 ld1
        clear ld1
        have HW := Lib.hid (show Below D w ((w.alloc (.cells #[.string nm, .string tn, .int .i64 a, .int .i64 b, .int .i64 f, .slice sa n cp] 26))) from ((Below.refl _ w).alloc (by first | omega | (simp; omega)) (.cells #[.string nm, .string tn, .int .i64 a, .int .i64 b, .int .i64 f, .slice sa n cp] 26)))
        go_wp2
        go_ret
        exact ⟨rfl, by first | exact HW.out | (rw [hD]; exact HW.out)⟩
      · skip
        obtain rfl : R = false := by rw [← hR]; exact decide_eq_false (fun h => h3 h.2.2)
        have g0 : (n : Int) ≤ 30 := by omega
        have g2 : (nm.size : Int) ≤ 40 := by omega
        have g3 : ¬ (tn.size : Int) ≤ 40 := by omega
        clear hR
        go_enter Tryz.func12, Tryz.ntmps12
        have ld1 : (w.alloc (.cells #[.string nm, .string tn, .int .i64 a, .int .i64 b, .int .i64 f, .slice sa n cp] 26)).heap[D]? = some (.cells #[.string nm, .string tn, .int .i64 a, .int .i64 b, .int .i64 f, .slice sa n cp] 26) := (heap_new (by first | omega | (simp; omega)))
        have y1_0 := cell6_0 ld1
        have y1_1 := cell6_1 ld1
        have y1_2 := cell6_2 ld1
        have y1_3 := cell6_3 ld1
        have y1_4 := cell6_4 ld1
        have y1_5 := cell6_5 ld1
        clear ld1
        have HW := Lib.hid (show Below D w ((w.alloc (.cells #[.string nm, .string tn, .int .i64 a, .int .i64 b, .int .i64 f, .slice sa n cp] 26))) from ((Below.refl _ w).alloc (by first | omega | (simp; omega)) (.cells #[.string nm, .string tn, .int .i64 a, .int .i64 b, .int .i64 f, .slice sa n cp] 26)))
        go_wp2
        go_ret
        exact ⟨rfl, by first | exact HW.out | (rw [hD]; exact HW.out)⟩
    · skip
      obtain rfl : R = false := by rw [← hR]; exact decide_eq_false (fun h => h2 h.2.1)
      have g0 : (n : Int) ≤ 30 := by omega
      have g2 : ¬ (nm.size : Int) ≤ 40 := by omega
      clear hR
      go_enter Tryz.func12, Tryz.ntmps12
      have ld1 : (w.alloc (.cells #[.string nm, .string tn, .int .i64 a, .int .i64 b, .int .i64 f, .slice sa n cp] 26)).heap[D]? = some (.cells #[.string nm, .string tn, .int .i64 a, .int .i64 b, .int .i64 f, .slice sa n cp] 26) := (heap_new (by first | omega | (simp; omega)))
      have y1_0 := cell6_0 ld1
      have y1_1 := cell6_1 ld1
      have y1_2 := cell6_2 ld1
      have y1_3 := cell6_3 ld1
      have y1_4 := cell6_4 ld1
      have y1_5 := cell6_5 ld1
      clear ld1
      have HW := Lib.hid (show Below D w ((w.alloc (.cells #[.string nm, .string tn, .int .i64 a, .int .i64 b, .int .i64 f, .slice sa n cp] 26))) from ((Below.refl _ w).alloc (by first | omega | (simp; omega)) (.cells #[.string nm, .string tn, .int .i64 a, .int .i64 b, .int .i64 f, .slice sa n cp] 26)))
      go_wp2
      go_ret
      exact ⟨rfl, by first | exact HW.out | (rw [hD]; exact HW.out)⟩
  · by_cases h1 : n = 129
    · skip
      subst h1
      by_cases h2 : nm.size ≤ 40
      · by_cases h3 : tn.size ≤ 40
        · skip
          obtain rfl : R = true := by rw [← hR]; exact decide_eq_true ⟨.inr rfl, h2, h3⟩
          have g2 : (nm.size : Int) ≤ 40 := by omega
          have g3 : (tn.size : Int) ≤ 40 := by omega
          clear hR
          go_enter Tryz.func12, Tryz.ntmps12
          have ld1 : (w.alloc (.cells #[.string nm, .string tn, .int .i64 a, .int .i64 b, .int .i64 f, .slice sa 129 cp] 26)).heap[D]? = some (.cells #[.string nm, .string tn, .int .i64 a, .int .i64 b, .int .i64 f, .slice sa 129 cp] 26) := (heap_new (by first | omega | (simp; omega)))
          have y1_0 := cell6_0 ld1
          have y1_1 := cell6_1 ld1
          have y1_2 := cell6_2 ld1
          have y1_3 := cell6_3 ld1
          have y1_4 := cell6_4 ld1
          have y1_5 := cell6_5 ld1
          clear ld1
          have HW := Lib.hid (show Below D w ((w.alloc (.cells #[.string nm, .string tn, .int .i64 a, .int .i64 b, .int .i64 f, .slice sa 129 cp] 26))) from ((Below.refl _ w).alloc (by first | omega | (simp; omega)) (.cells #[.string nm, .string tn, .int .i64 a, .int .i64 b, .int .i64 f, .slice sa 129 cp] 26)))
          go_wp2
          go_ret
          exact ⟨rfl, by first | exact HW.out | (rw [hD]; exact HW.out)⟩
        · skip
          obtain rfl : R = false := by rw [← hR]; exact decide_eq_false (fun h => h3 h.2.2)
          have g2 : (nm.size : Int) ≤ 40 := by omega
          have g3 : ¬ (tn.size : Int) ≤ 40 := by omega
          clear hR
          go_enter Tryz.func12, Tryz.ntmps12
          have ld1 : (w.alloc (.cells #[.string nm, .string tn, .int .i64 a, .int .i64 b, .int .i64 f, .slice sa 129 cp] 26)).heap[D]? = some (.cells #[.string nm, .string tn, .int .i64 a, .int .i64 b, .int .i64 f, .slice sa 129 cp] 26) := (heap_new (by first | omega | (simp; omega)))
          have y1_0 := cell6_0 ld1
          have y1_1 := cell6_1 ld1
          have y1_2 := cell6_2 ld1
          have y1_3 := cell6_3 ld1
          have y1_4 := cell6_4 ld1
          have y1_5 := cell6_5 ld1
          clear ld1
          have HW := Lib.hid (show Below D w ((w.alloc (.cells #[.string nm, .string tn, .int .i64 a, .int .i64 b, .int .i64 f, .slice sa 129 cp] 26))) from ((Below.refl _ w).alloc (by first | omega | (simp; omega)) (.cells #[.string nm, .string tn, .int .i64 a, .int .i64 b, .int .i64 f, .slice sa 129 cp] 26)))
          go_wp2
          go_ret
          exact ⟨rfl, by first | exact HW.out | (rw [hD]; exact HW.out)⟩
      · skip
        obtain rfl : R = false := by rw [← hR]; exact decide_eq_false (fun h => h2 h.2.1)
        have g2 : ¬ (nm.size : Int) ≤ 40 := by omega
        clear hR
        go_enter Tryz.func12, Tryz.ntmps12
        have ld1 : (w.alloc (.cells #[.string nm, .string tn, .int .i64 a, .int .i64 b, .int .i64 f, .slice sa 129 cp] 26)).heap[D]? = some (.cells #[.string nm, .string tn, .int .i64 a, .int .i64 b, .int .i64 f, .slice sa 129 cp] 26) := (heap_new (by first | omega | (simp; omega)))
        have y1_0 := cell6_0 ld1
        have y1_1 := cell6_1 ld1
        have y1_2 := cell6_2 ld1
        have y1_3 := cell6_3 ld1
        have y1_4 := cell6_4 ld1
        have y1_5 := cell6_5 ld1
        clear ld1
        have HW := Lib.hid (show Below D w ((w.alloc (.cells #[.string nm, .string tn, .int .i64 a, .int .i64 b, .int .i64 f, .slice sa 129 cp] 26))) from ((Below.refl _ w).alloc (by first | omega | (simp; omega)) (.cells #[.string nm, .string tn, .int .i64 a, .int .i64 b, .int .i64 f, .slice sa 129 cp] 26)))
        go_wp2
        go_ret
        exact ⟨rfl, by first | exact HW.out | (rw [hD]; exact HW.out)⟩
    · skip
      obtain rfl : R = false := by rw [← hR]; exact decide_eq_false (fun h => h.1.elim h0 h1)
      have g0 : ¬ (n : Int) ≤ 30 := by omega
      have g1 : ¬ (n : Int) = 129 := by omega
      clear hR
      go_enter Tryz.func12, Tryz.ntmps12
      have ld1 : (w.alloc (.cells #[.string nm, .string tn, .int .i64 a, .int .i64 b, .int .i64 f, .slice sa n cp] 26)).heap[D]? = some (.cells #[.string nm, .string tn, .int .i64 a, .int .i64 b, .int .i64 f, .slice sa n cp] 26) := (heap_new (by first | omega | (simp; omega)))
      have y1_0 := cell6_0 ld1
      have y1_1 := cell6_1 ld1
      have y1_2 := cell6_2 ld1
      have y1_3 := cell6_3 ld1
      have y1_4 := cell6_4 ld1
      have y1_5 := cell6_5 ld1
      clear ld1
      have HW := Lib.hid (show Below D w ((w.alloc (.cells #[.string nm, .string tn, .int .i64 a, .int .i64 b, .int .i64 f, .slice sa n cp] 26))) from ((Below.refl _ w).alloc (by first | omega | (simp; omega)) (.cells #[.string nm, .string tn, .int .i64 a, .int .i64 b, .int .i64 f, .slice sa n cp] 26)))
      go_wp2
      go_ret
      exact ⟨rfl, by first | exact HW.out | (rw [hD]; exact HW.out)⟩

def reI (nm tn : ByteArray) (a b f : Int) (sa : Option Addr) (n cp : Nat) (nm2 tn2 : ByteArray) (a2 b2 f2 : Int) (sb : Option Addr) (m cq : Nat) (bb : Bool) : Nat → Value → World → Prop
  | 0, v, _ => v = .agg #[.string nm, .string tn, .int .i64 a, .int .i64 b, .int .i64 f, .slice sa n cp]
  | 1, v, _ => v = .agg #[.string nm2, .string tn2, .int .i64 a2, .int .i64 b2, .int .i64 f2, .slice sb m cq]
  | 2, v, _ => v = .bool bb
  | 3, v, _ => v = .agg #[.string nm, .string tn, .int .i64 a, .int .i64 b, .int .i64 f, .slice sa n cp]
  | 4, v, _ => v = .agg #[.string nm2, .string tn2, .int .i64 a2, .int .i64 b2, .int .i64 f2, .slice sb m cq]
  | 5, v, _ => v = .bool bb
  | 6, v, _ => v = .bool true
  | 7, v, _ => v = .bool true
  | _, _, _ => True

theorem reI_up (nm tn : ByteArray) (a b f : Int) (sa : Option Addr) (n cp : Nat) (nm2 tn2 : ByteArray) (a2 b2 f2 : Int) (sb : Option Addr) (m cq : Nat) (bb : Bool) : ∀ (j : Nat) (v : Value) (A B : World), Below A.heap.size A B → reI nm tn a b f sa n cp nm2 tn2 a2 b2 f2 sb m cq bb j v A → reI nm tn a b f sa n cp nm2 tn2 a2 b2 f2 sb m cq bb j v B
  | 0, _, _, _, _, h => h
  | 1, _, _, _, _, h => h
  | 2, _, _, _, _, h => h
  | 3, _, _, _, _, h => h
  | 4, _, _, _, _, h => h
  | 5, _, _, _, _, h => h
  | 6, _, _, _, _, h => h
  | 7, _, _, _, _, h => h
  | _ + 8, _, _, _, _, _ => trivial


set_option maxRecDepth 100000 in
set_option maxHeartbeats 4000000 in
theorem equals_walk (nm tn : ByteArray) (a b f : Int) (va : Value) (n : Nat) (X : Nat → Int) (nm2 tn2 : ByteArray) (a2 b2 f2 : Int) (vb : Value) (m : Nat) (Y : Nat → Int) (hn : n ≤ 9223372036854775807) (w : World) (h1 : Wd w va n X) (h2 : Wd w vb m Y) (G : Gi w) :
    Calls Tryz.prog 4 #[.agg #[.string nm, .string tn, .int .i64 a, .int .i64 b, .int .i64 f, va], .agg #[.string nm2, .string tn2, .int .i64 a2, .int .i64 b2, .int .i64 f2, vb]] w fun e w' => e = .returned (.bool true) ∧ Below w.heap.size w w' := by
  obtain ⟨sa, cp, rfl⟩ := h1.len
  obtain ⟨sb, cq, rfl⟩ := h2.len
  obtain ⟨bb, hbb⟩ : ∃ bb, sameB nm tn a b f n X nm2 tn2 a2 b2 f2 m Y = bb := ⟨_, rfl⟩
  have EQ := Lib.hid (fun W h1 h2 => requal_c nm tn a b f (.slice sa n cp) n X nm2 tn2 a2 b2 f2 (.slice sb m cq) m Y hn W h1 h2)
  have SM := Lib.hid (fun W h1 h2 => same_c nm tn a b f (.slice sa n cp) n X nm2 tn2 a2 b2 f2 (.slice sb m cq) m Y hn W h1 h2)
  have FA := Lib.hid (fun W h1 => few_c nm tn a b f (.slice sa n cp) n X W h1)
  have FB := Lib.hid (fun W h1 => few_c nm2 tn2 a2 b2 f2 (.slice sb m cq) m Y W h1)
  have KN := Lib.hid (fun W G => known_c W G)
  rw [hbb] at EQ SM
  have hW := Lib.hid h1
  have hY := Lib.hid h2
  clear h1 h2 hbb
  obtain ⟨D, hD⟩ : ∃ D, w.heap.size = D := ⟨_, rfl⟩
  cases e1 : fewB nm tn n with
  | false =>
    rw [e1] at FA
    clear e1
    go_enter Tryz.func4, Tryz.ntmps4
    have G1 : Gi ((w.alloc (.cells #[.string nm, .string tn, .int .i64 a, .int .i64 b, .int .i64 f, .slice sa n cp] 26)).alloc (.cells #[.string nm2, .string tn2, .int .i64 a2, .int .i64 b2, .int .i64 f2, .slice sb m cq] 26)) := G.below (by first | exact (((Below.refl _ w).alloc (by first | omega | (simp; omega)) (.cells #[.string nm, .string tn, .int .i64 a, .int .i64 b, .int .i64 f, .slice sa n cp] 26)).alloc (by first | omega | (simp; omega)) (.cells #[.string nm2, .string tn2, .int .i64 a2, .int .i64 b2, .int .i64 f2, .slice sb m cq] 26)) | (rw [hD]; exact (((Below.refl _ w).alloc (by first | omega | (simp; omega)) (.cells #[.string nm, .string tn, .int .i64 a, .int .i64 b, .int .i64 f, .slice sa n cp] 26)).alloc (by first | omega | (simp; omega)) (.cells #[.string nm2, .string tn2, .int .i64 a2, .int .i64 b2, .int .i64 f2, .slice sb m cq] 26))))
    go_wp2_with fail
    refine (KN.out _ G1).mono ?_
    rintro e v1 ⟨rfl, hb_v1⟩
    have cR_v1 : v1.heap[D]? = some (.cells #[.string nm, .string tn, .int .i64 a, .int .i64 b, .int .i64 f, .slice sa n cp] 26) := (hb_v1.block (D) (Array.getElem?_eq_some_iff.1 (show ((w.alloc (.cells #[.string nm, .string tn, .int .i64 a, .int .i64 b, .int .i64 f, .slice sa n cp] 26)).alloc (.cells #[.string nm2, .string tn2, .int .i64 a2, .int .i64 b2, .int .i64 f2, .slice sb m cq] 26)).heap[D]? = some (.cells #[.string nm, .string tn, .int .i64 a, .int .i64 b, .int .i64 f, .slice sa n cp] 26) from (heap_old (o := .cells #[.string nm2, .string tn2, .int .i64 a2, .int .i64 b2, .int .i64 f2, .slice sb m cq] 26) (heap_new (by first | omega | (simp; omega)))))).1).trans (heap_old (o := .cells #[.string nm2, .string tn2, .int .i64 a2, .int .i64 b2, .int .i64 f2, .slice sb m cq] 26) (heap_new (by first | omega | (simp; omega))))
    have cS_v1 : v1.heap[D + 1]? = some (.cells #[.string nm2, .string tn2, .int .i64 a2, .int .i64 b2, .int .i64 f2, .slice sb m cq] 26) := (hb_v1.block (D + 1) (Array.getElem?_eq_some_iff.1 (show ((w.alloc (.cells #[.string nm, .string tn, .int .i64 a, .int .i64 b, .int .i64 f, .slice sa n cp] 26)).alloc (.cells #[.string nm2, .string tn2, .int .i64 a2, .int .i64 b2, .int .i64 f2, .slice sb m cq] 26)).heap[D + 1]? = some (.cells #[.string nm2, .string tn2, .int .i64 a2, .int .i64 b2, .int .i64 f2, .slice sb m cq] 26) from (heap_new (by first | omega | (simp; omega))))).1).trans (heap_new (by first | omega | (simp; omega)))
    have hw_v1 : Below D w v1 := ((((Below.refl _ w).alloc (by first | omega | (simp; omega)) (.cells #[.string nm, .string tn, .int .i64 a, .int .i64 b, .int .i64 f, .slice sa n cp] 26)).alloc (by first | omega | (simp; omega)) (.cells #[.string nm2, .string tn2, .int .i64 a2, .int .i64 b2, .int .i64 f2, .slice sb m cq] 26))).trans (hb_v1.mono (by first | omega | (simp; omega)))
    clear hb_v1
    have ld2 : v1.heap[D]? = some (.cells #[.string nm, .string tn, .int .i64 a, .int .i64 b, .int .i64 f, .slice sa n cp] 26) := cR_v1
    have y2_0 := cell6_0 ld2
    have y2_1 := cell6_1 ld2
    have y2_2 := cell6_2 ld2
    have y2_3 := cell6_3 ld2
    have y2_4 := cell6_4 ld2
    have y2_5 := cell6_5 ld2
    clear ld2
    have W2 : Wd v1 (.slice sa n cp) n X := hW.out.below (by first | exact hw_v1 | (rw [hD]; exact hw_v1))
    go_wp2_with fail
    refine (FA.out _ W2).mono ?_
    rintro e v3 ⟨rfl, hb_v3⟩
    have hs_v3 := hw_v1.size
    have cR_v3 : v3.heap[D]? = some (.cells #[.string nm, .string tn, .int .i64 a, .int .i64 b, .int .i64 f, .slice sa n cp] 26) := (hb_v3.block (D) (Array.getElem?_eq_some_iff.1 (show v1.heap[D]? = some (.cells #[.string nm, .string tn, .int .i64 a, .int .i64 b, .int .i64 f, .slice sa n cp] 26) from cR_v1)).1).trans cR_v1
    have cS_v3 : v3.heap[D + 1]? = some (.cells #[.string nm2, .string tn2, .int .i64 a2, .int .i64 b2, .int .i64 f2, .slice sb m cq] 26) := (hb_v3.block (D + 1) (Array.getElem?_eq_some_iff.1 (show v1.heap[D + 1]? = some (.cells #[.string nm2, .string tn2, .int .i64 a2, .int .i64 b2, .int .i64 f2, .slice sb m cq] 26) from cS_v1)).1).trans cS_v1
    have hw_v3 : Below D w v3 := (hw_v1).trans (hb_v3.mono (by first | omega | (simp; omega)))
    clear cR_v1 cS_v1 hb_v3 y2_0 y2_1 y2_2 y2_3 y2_4 y2_5 hw_v1 hs_v3
    have G3 : Gi v3 := G.below (by first | exact hw_v3 | (rw [hD]; exact hw_v3))
    go_wp2_with fail
    refine (KN.out _ G3).mono ?_
    rintro e v4 ⟨rfl, hb_v4⟩
    have hs_v4 := hw_v3.size
    have cR_v4 : v4.heap[D]? = some (.cells #[.string nm, .string tn, .int .i64 a, .int .i64 b, .int .i64 f, .slice sa n cp] 26) := (hb_v4.block (D) (Array.getElem?_eq_some_iff.1 (show v3.heap[D]? = some (.cells #[.string nm, .string tn, .int .i64 a, .int .i64 b, .int .i64 f, .slice sa n cp] 26) from cR_v3)).1).trans cR_v3
    have cS_v4 : v4.heap[D + 1]? = some (.cells #[.string nm2, .string tn2, .int .i64 a2, .int .i64 b2, .int .i64 f2, .slice sb m cq] 26) := (hb_v4.block (D + 1) (Array.getElem?_eq_some_iff.1 (show v3.heap[D + 1]? = some (.cells #[.string nm2, .string tn2, .int .i64 a2, .int .i64 b2, .int .i64 f2, .slice sb m cq] 26) from cS_v3)).1).trans cS_v3
    have hw_v4 : Below D w v4 := (hw_v3).trans (hb_v4.mono (by first | omega | (simp; omega)))
    clear cR_v3 cS_v3 hb_v4 hw_v3 hs_v4
    have HW := Lib.hid (show Below D w (v4) from hw_v4)
    go_wp2
    go_ret
    exact ⟨rfl, by first | exact HW.out | (rw [hD]; exact HW.out)⟩
  | true =>
    rw [e1] at FA
    clear e1
    cases e2 : fewB nm2 tn2 m with
    | false =>
      rw [e2] at FB
      clear e2
      go_enter Tryz.func4, Tryz.ntmps4
      have G4 : Gi ((w.alloc (.cells #[.string nm, .string tn, .int .i64 a, .int .i64 b, .int .i64 f, .slice sa n cp] 26)).alloc (.cells #[.string nm2, .string tn2, .int .i64 a2, .int .i64 b2, .int .i64 f2, .slice sb m cq] 26)) := G.below (by first | exact (((Below.refl _ w).alloc (by first | omega | (simp; omega)) (.cells #[.string nm, .string tn, .int .i64 a, .int .i64 b, .int .i64 f, .slice sa n cp] 26)).alloc (by first | omega | (simp; omega)) (.cells #[.string nm2, .string tn2, .int .i64 a2, .int .i64 b2, .int .i64 f2, .slice sb m cq] 26)) | (rw [hD]; exact (((Below.refl _ w).alloc (by first | omega | (simp; omega)) (.cells #[.string nm, .string tn, .int .i64 a, .int .i64 b, .int .i64 f, .slice sa n cp] 26)).alloc (by first | omega | (simp; omega)) (.cells #[.string nm2, .string tn2, .int .i64 a2, .int .i64 b2, .int .i64 f2, .slice sb m cq] 26))))
      go_wp2_with fail
      refine (KN.out _ G4).mono ?_
      rintro e v1 ⟨rfl, hb_v1⟩
      have cR_v1 : v1.heap[D]? = some (.cells #[.string nm, .string tn, .int .i64 a, .int .i64 b, .int .i64 f, .slice sa n cp] 26) := (hb_v1.block (D) (Array.getElem?_eq_some_iff.1 (show ((w.alloc (.cells #[.string nm, .string tn, .int .i64 a, .int .i64 b, .int .i64 f, .slice sa n cp] 26)).alloc (.cells #[.string nm2, .string tn2, .int .i64 a2, .int .i64 b2, .int .i64 f2, .slice sb m cq] 26)).heap[D]? = some (.cells #[.string nm, .string tn, .int .i64 a, .int .i64 b, .int .i64 f, .slice sa n cp] 26) from (heap_old (o := .cells #[.string nm2, .string tn2, .int .i64 a2, .int .i64 b2, .int .i64 f2, .slice sb m cq] 26) (heap_new (by first | omega | (simp; omega)))))).1).trans (heap_old (o := .cells #[.string nm2, .string tn2, .int .i64 a2, .int .i64 b2, .int .i64 f2, .slice sb m cq] 26) (heap_new (by first | omega | (simp; omega))))
      have cS_v1 : v1.heap[D + 1]? = some (.cells #[.string nm2, .string tn2, .int .i64 a2, .int .i64 b2, .int .i64 f2, .slice sb m cq] 26) := (hb_v1.block (D + 1) (Array.getElem?_eq_some_iff.1 (show ((w.alloc (.cells #[.string nm, .string tn, .int .i64 a, .int .i64 b, .int .i64 f, .slice sa n cp] 26)).alloc (.cells #[.string nm2, .string tn2, .int .i64 a2, .int .i64 b2, .int .i64 f2, .slice sb m cq] 26)).heap[D + 1]? = some (.cells #[.string nm2, .string tn2, .int .i64 a2, .int .i64 b2, .int .i64 f2, .slice sb m cq] 26) from (heap_new (by first | omega | (simp; omega))))).1).trans (heap_new (by first | omega | (simp; omega)))
      have hw_v1 : Below D w v1 := ((((Below.refl _ w).alloc (by first | omega | (simp; omega)) (.cells #[.string nm, .string tn, .int .i64 a, .int .i64 b, .int .i64 f, .slice sa n cp] 26)).alloc (by first | omega | (simp; omega)) (.cells #[.string nm2, .string tn2, .int .i64 a2, .int .i64 b2, .int .i64 f2, .slice sb m cq] 26))).trans (hb_v1.mono (by first | omega | (simp; omega)))
      clear hb_v1
      have ld2 : v1.heap[D]? = some (.cells #[.string nm, .string tn, .int .i64 a, .int .i64 b, .int .i64 f, .slice sa n cp] 26) := cR_v1
      have y2_0 := cell6_0 ld2
      have y2_1 := cell6_1 ld2
      have y2_2 := cell6_2 ld2
      have y2_3 := cell6_3 ld2
      have y2_4 := cell6_4 ld2
      have y2_5 := cell6_5 ld2
      clear ld2
      have W5 : Wd v1 (.slice sa n cp) n X := hW.out.below (by first | exact hw_v1 | (rw [hD]; exact hw_v1))
      go_wp2_with fail
      refine (FA.out _ W5).mono ?_
      rintro e v3 ⟨rfl, hb_v3⟩
      have hs_v3 := hw_v1.size
      have cR_v3 : v3.heap[D]? = some (.cells #[.string nm, .string tn, .int .i64 a, .int .i64 b, .int .i64 f, .slice sa n cp] 26) := (hb_v3.block (D) (Array.getElem?_eq_some_iff.1 (show v1.heap[D]? = some (.cells #[.string nm, .string tn, .int .i64 a, .int .i64 b, .int .i64 f, .slice sa n cp] 26) from cR_v1)).1).trans cR_v1
      have cS_v3 : v3.heap[D + 1]? = some (.cells #[.string nm2, .string tn2, .int .i64 a2, .int .i64 b2, .int .i64 f2, .slice sb m cq] 26) := (hb_v3.block (D + 1) (Array.getElem?_eq_some_iff.1 (show v1.heap[D + 1]? = some (.cells #[.string nm2, .string tn2, .int .i64 a2, .int .i64 b2, .int .i64 f2, .slice sb m cq] 26) from cS_v1)).1).trans cS_v1
      have hw_v3 : Below D w v3 := (hw_v1).trans (hb_v3.mono (by first | omega | (simp; omega)))
      clear cR_v1 cS_v1 hb_v3 y2_0 y2_1 y2_2 y2_3 y2_4 y2_5 hw_v1 hs_v3
      have ld4 : v3.heap[D + 1]? = some (.cells #[.string nm2, .string tn2, .int .i64 a2, .int .i64 b2, .int .i64 f2, .slice sb m cq] 26) := cS_v3
      have y4_0 := cell6_0 ld4
      have y4_1 := cell6_1 ld4
      have y4_2 := cell6_2 ld4
      have y4_3 := cell6_3 ld4
      have y4_4 := cell6_4 ld4
      have y4_5 := cell6_5 ld4
      clear ld4
      have W6 : Wd v3 (.slice sb m cq) m Y := hY.out.below (by first | exact hw_v3 | (rw [hD]; exact hw_v3))
      go_wp2_with fail
      refine (FB.out _ W6).mono ?_
      rintro e v5 ⟨rfl, hb_v5⟩
      have hs_v5 := hw_v3.size
      have cR_v5 : v5.heap[D]? = some (.cells #[.string nm, .string tn, .int .i64 a, .int .i64 b, .int .i64 f, .slice sa n cp] 26) := (hb_v5.block (D) (Array.getElem?_eq_some_iff.1 (show v3.heap[D]? = some (.cells #[.string nm, .string tn, .int .i64 a, .int .i64 b, .int .i64 f, .slice sa n cp] 26) from cR_v3)).1).trans cR_v3
      have cS_v5 : v5.heap[D + 1]? = some (.cells #[.string nm2, .string tn2, .int .i64 a2, .int .i64 b2, .int .i64 f2, .slice sb m cq] 26) := (hb_v5.block (D + 1) (Array.getElem?_eq_some_iff.1 (show v3.heap[D + 1]? = some (.cells #[.string nm2, .string tn2, .int .i64 a2, .int .i64 b2, .int .i64 f2, .slice sb m cq] 26) from cS_v3)).1).trans cS_v3
      have hw_v5 : Below D w v5 := (hw_v3).trans (hb_v5.mono (by first | omega | (simp; omega)))
      clear cR_v3 cS_v3 hb_v5 y4_0 y4_1 y4_2 y4_3 y4_4 y4_5 hw_v3 hs_v5
      have G7 : Gi v5 := G.below (by first | exact hw_v5 | (rw [hD]; exact hw_v5))
      go_wp2_with fail
      refine (KN.out _ G7).mono ?_
      rintro e v6 ⟨rfl, hb_v6⟩
      have hs_v6 := hw_v5.size
      have cR_v6 : v6.heap[D]? = some (.cells #[.string nm, .string tn, .int .i64 a, .int .i64 b, .int .i64 f, .slice sa n cp] 26) := (hb_v6.block (D) (Array.getElem?_eq_some_iff.1 (show v5.heap[D]? = some (.cells #[.string nm, .string tn, .int .i64 a, .int .i64 b, .int .i64 f, .slice sa n cp] 26) from cR_v5)).1).trans cR_v5
      have cS_v6 : v6.heap[D + 1]? = some (.cells #[.string nm2, .string tn2, .int .i64 a2, .int .i64 b2, .int .i64 f2, .slice sb m cq] 26) := (hb_v6.block (D + 1) (Array.getElem?_eq_some_iff.1 (show v5.heap[D + 1]? = some (.cells #[.string nm2, .string tn2, .int .i64 a2, .int .i64 b2, .int .i64 f2, .slice sb m cq] 26) from cS_v5)).1).trans cS_v5
      have hw_v6 : Below D w v6 := (hw_v5).trans (hb_v6.mono (by first | omega | (simp; omega)))
      clear cR_v5 cS_v5 hb_v6 hw_v5 hs_v6
      have HW := Lib.hid (show Below D w (v6) from hw_v6)
      go_wp2
      go_ret
      exact ⟨rfl, by first | exact HW.out | (rw [hD]; exact HW.out)⟩
    | true =>
      rw [e2] at FB
      clear e2
      go_enter Tryz.func4, Tryz.ntmps4
      have G8 : Gi ((w.alloc (.cells #[.string nm, .string tn, .int .i64 a, .int .i64 b, .int .i64 f, .slice sa n cp] 26)).alloc (.cells #[.string nm2, .string tn2, .int .i64 a2, .int .i64 b2, .int .i64 f2, .slice sb m cq] 26)) := G.below (by first | exact (((Below.refl _ w).alloc (by first | omega | (simp; omega)) (.cells #[.string nm, .string tn, .int .i64 a, .int .i64 b, .int .i64 f, .slice sa n cp] 26)).alloc (by first | omega | (simp; omega)) (.cells #[.string nm2, .string tn2, .int .i64 a2, .int .i64 b2, .int .i64 f2, .slice sb m cq] 26)) | (rw [hD]; exact (((Below.refl _ w).alloc (by first | omega | (simp; omega)) (.cells #[.string nm, .string tn, .int .i64 a, .int .i64 b, .int .i64 f, .slice sa n cp] 26)).alloc (by first | omega | (simp; omega)) (.cells #[.string nm2, .string tn2, .int .i64 a2, .int .i64 b2, .int .i64 f2, .slice sb m cq] 26))))
      go_wp2_with fail
      refine (KN.out _ G8).mono ?_
      rintro e v1 ⟨rfl, hb_v1⟩
      have cR_v1 : v1.heap[D]? = some (.cells #[.string nm, .string tn, .int .i64 a, .int .i64 b, .int .i64 f, .slice sa n cp] 26) := (hb_v1.block (D) (Array.getElem?_eq_some_iff.1 (show ((w.alloc (.cells #[.string nm, .string tn, .int .i64 a, .int .i64 b, .int .i64 f, .slice sa n cp] 26)).alloc (.cells #[.string nm2, .string tn2, .int .i64 a2, .int .i64 b2, .int .i64 f2, .slice sb m cq] 26)).heap[D]? = some (.cells #[.string nm, .string tn, .int .i64 a, .int .i64 b, .int .i64 f, .slice sa n cp] 26) from (heap_old (o := .cells #[.string nm2, .string tn2, .int .i64 a2, .int .i64 b2, .int .i64 f2, .slice sb m cq] 26) (heap_new (by first | omega | (simp; omega)))))).1).trans (heap_old (o := .cells #[.string nm2, .string tn2, .int .i64 a2, .int .i64 b2, .int .i64 f2, .slice sb m cq] 26) (heap_new (by first | omega | (simp; omega))))
      have cS_v1 : v1.heap[D + 1]? = some (.cells #[.string nm2, .string tn2, .int .i64 a2, .int .i64 b2, .int .i64 f2, .slice sb m cq] 26) := (hb_v1.block (D + 1) (Array.getElem?_eq_some_iff.1 (show ((w.alloc (.cells #[.string nm, .string tn, .int .i64 a, .int .i64 b, .int .i64 f, .slice sa n cp] 26)).alloc (.cells #[.string nm2, .string tn2, .int .i64 a2, .int .i64 b2, .int .i64 f2, .slice sb m cq] 26)).heap[D + 1]? = some (.cells #[.string nm2, .string tn2, .int .i64 a2, .int .i64 b2, .int .i64 f2, .slice sb m cq] 26) from (heap_new (by first | omega | (simp; omega))))).1).trans (heap_new (by first | omega | (simp; omega)))
      have hw_v1 : Below D w v1 := ((((Below.refl _ w).alloc (by first | omega | (simp; omega)) (.cells #[.string nm, .string tn, .int .i64 a, .int .i64 b, .int .i64 f, .slice sa n cp] 26)).alloc (by first | omega | (simp; omega)) (.cells #[.string nm2, .string tn2, .int .i64 a2, .int .i64 b2, .int .i64 f2, .slice sb m cq] 26))).trans (hb_v1.mono (by first | omega | (simp; omega)))
      clear hb_v1
      have ld2 : v1.heap[D]? = some (.cells #[.string nm, .string tn, .int .i64 a, .int .i64 b, .int .i64 f, .slice sa n cp] 26) := cR_v1
      have y2_0 := cell6_0 ld2
      have y2_1 := cell6_1 ld2
      have y2_2 := cell6_2 ld2
      have y2_3 := cell6_3 ld2
      have y2_4 := cell6_4 ld2
      have y2_5 := cell6_5 ld2
      clear ld2
      have W9 : Wd v1 (.slice sa n cp) n X := hW.out.below (by first | exact hw_v1 | (rw [hD]; exact hw_v1))
      go_wp2_with fail
      refine (FA.out _ W9).mono ?_
      rintro e v3 ⟨rfl, hb_v3⟩
      have hs_v3 := hw_v1.size
      have cR_v3 : v3.heap[D]? = some (.cells #[.string nm, .string tn, .int .i64 a, .int .i64 b, .int .i64 f, .slice sa n cp] 26) := (hb_v3.block (D) (Array.getElem?_eq_some_iff.1 (show v1.heap[D]? = some (.cells #[.string nm, .string tn, .int .i64 a, .int .i64 b, .int .i64 f, .slice sa n cp] 26) from cR_v1)).1).trans cR_v1
      have cS_v3 : v3.heap[D + 1]? = some (.cells #[.string nm2, .string tn2, .int .i64 a2, .int .i64 b2, .int .i64 f2, .slice sb m cq] 26) := (hb_v3.block (D + 1) (Array.getElem?_eq_some_iff.1 (show v1.heap[D + 1]? = some (.cells #[.string nm2, .string tn2, .int .i64 a2, .int .i64 b2, .int .i64 f2, .slice sb m cq] 26) from cS_v1)).1).trans cS_v1
      have hw_v3 : Below D w v3 := (hw_v1).trans (hb_v3.mono (by first | omega | (simp; omega)))
      clear cR_v1 cS_v1 hb_v3 y2_0 y2_1 y2_2 y2_3 y2_4 y2_5 hw_v1 hs_v3
      have ld4 : v3.heap[D + 1]? = some (.cells #[.string nm2, .string tn2, .int .i64 a2, .int .i64 b2, .int .i64 f2, .slice sb m cq] 26) := cS_v3
      have y4_0 := cell6_0 ld4
      have y4_1 := cell6_1 ld4
      have y4_2 := cell6_2 ld4
      have y4_3 := cell6_3 ld4
      have y4_4 := cell6_4 ld4
      have y4_5 := cell6_5 ld4
      clear ld4
      have W10 : Wd v3 (.slice sb m cq) m Y := hY.out.below (by first | exact hw_v3 | (rw [hD]; exact hw_v3))
      go_wp2_with fail
      refine (FB.out _ W10).mono ?_
      rintro e v5 ⟨rfl, hb_v5⟩
      have hs_v5 := hw_v3.size
      have cR_v5 : v5.heap[D]? = some (.cells #[.string nm, .string tn, .int .i64 a, .int .i64 b, .int .i64 f, .slice sa n cp] 26) := (hb_v5.block (D) (Array.getElem?_eq_some_iff.1 (show v3.heap[D]? = some (.cells #[.string nm, .string tn, .int .i64 a, .int .i64 b, .int .i64 f, .slice sa n cp] 26) from cR_v3)).1).trans cR_v3
      have cS_v5 : v5.heap[D + 1]? = some (.cells #[.string nm2, .string tn2, .int .i64 a2, .int .i64 b2, .int .i64 f2, .slice sb m cq] 26) := (hb_v5.block (D + 1) (Array.getElem?_eq_some_iff.1 (show v3.heap[D + 1]? = some (.cells #[.string nm2, .string tn2, .int .i64 a2, .int .i64 b2, .int .i64 f2, .slice sb m cq] 26) from cS_v3)).1).trans cS_v3
      have hw_v5 : Below D w v5 := (hw_v3).trans (hb_v5.mono (by first | omega | (simp; omega)))
      clear cR_v3 cS_v3 hb_v5 y4_0 y4_1 y4_2 y4_3 y4_4 y4_5 hw_v3 hs_v5
      have W11 : Wd v5 (.slice sa n cp) n X := hW.out.below (by first | exact hw_v5 | (rw [hD]; exact hw_v5))
      have W12 : Wd v5 (.slice sb m cq) m Y := hY.out.below (by first | exact hw_v5 | (rw [hD]; exact hw_v5))
      have HW1 := Lib.hid W11
      have HW2 := Lib.hid W12
      have HR_V := Lib.hid cR_v5
      have HS_V := Lib.hid cS_v5
      have HB := Lib.hid hw_v5
      clear W11 W12 cR_v5 cS_v5 hw_v5 KN FA FB hW hY 
      go_upto_region 3 with fail
      refine wp_region_slots_at rfl rfl (fun base ys => (((((((base.set 18 (ys 0)).set 19 (ys 1)).set 20 (ys 2)).set 21 (ys 3)).set 22 (ys 4)).set 23 (ys 5)).set 24 (ys 6)).set 4 (ys 7)) (BelowI _ (fun A => Below v5.heap.size v5 A) (reI nm tn a b f sa n cp nm2 tn2 a2 b2 f2 sb m cq bb)) (fun | 7 => .bool false | _ => undef) (by kernel_rfl) (below_start (R := fun A => Below v5.heap.size v5 A) ⟨rfl, rfl, rfl, Nat.le_refl _, fun _ _ => rfl⟩) ?h
      case h =>
        intro FF hFF
        simp only [List.set_cons_succ, List.set_cons_zero] at hFF
        subst hFF
        refine ⟨rfl, ?_, ?_⟩
        refine ⟨?_, ?_⟩
        · refine SlotStep.below (fun A B hb h => h.trans (hb.mono h.size)) (reI_up nm tn a b f sa n cp nm2 tn2 a2 b2 f2 sb m cq bb) ?_
          intro ys W hR hd K hK
          have hl := (hR.block D (Array.getElem?_eq_some_iff.1 HR_V.out).1).trans HR_V.out
          have c0 := cell6_0 hl
          have c1 := cell6_1 hl
          have c2 := cell6_2 hl
          have c3 := cell6_3 hl
          have c4 := cell6_4 hl
          have c5 := cell6_5 hl
          go_simp
          have hK2 := hK (.agg #[.string nm, .string tn, .int .i64 a, .int .i64 b, .int .i64 f, .slice sa n cp]) _ (Below.refl _ _) rfl
          simp (config := { decide := true }) only [upd, if_true, if_false] at hK2
          exact hK2
        refine ⟨?_, ?_⟩
        · refine SlotStep.below (fun A B hb h => h.trans (hb.mono h.size)) (reI_up nm tn a b f sa n cp nm2 tn2 a2 b2 f2 sb m cq bb) ?_
          intro ys W hR hd K hK
          have hl := (hR.block (D + 1) (Array.getElem?_eq_some_iff.1 HS_V.out).1).trans HS_V.out
          have c0 := cell6_0 hl
          have c1 := cell6_1 hl
          have c2 := cell6_2 hl
          have c3 := cell6_3 hl
          have c4 := cell6_4 hl
          have c5 := cell6_5 hl
          go_simp
          have hK2 := hK (.agg #[.string nm2, .string tn2, .int .i64 a2, .int .i64 b2, .int .i64 f2, .slice sb m cq]) _ (Below.refl _ _) rfl
          simp (config := { decide := true }) only [upd, if_true, if_false] at hK2
          exact hK2
        refine ⟨?_, ?_⟩
        · refine SlotStep.below (fun A B hb h => h.trans (hb.mono h.size)) (reI_up nm tn a b f sa n cp nm2 tn2 a2 b2 f2 sb m cq bb) ?_
          intro ys W hR hd K hK
          have dd0 : ys 0 = (.agg #[.string nm, .string tn, .int .i64 a, .int .i64 b, .int .i64 f, .slice sa n cp]) := hd 0 (by kernel_rfl) (by decide)
          have dd1 : ys 1 = (.agg #[.string nm2, .string tn2, .int .i64 a2, .int .i64 b2, .int .i64 f2, .slice sb m cq]) := hd 1 (by kernel_rfl) (by decide)
          go_simp
          refine (EQ.out W (HW1.out.below hR) (HW2.out.below hR)).mono ?_
          rintro e w5 ⟨rfl, hb5⟩
          have hK2 := hK (.bool bb) _ hb5 rfl
          simp (config := { decide := true }) only [upd, if_true, if_false, dd0, dd1] at hK2
          exact hK2
        refine ⟨?_, ?_⟩
        · refine SlotStep.below (fun A B hb h => h.trans (hb.mono h.size)) (reI_up nm tn a b f sa n cp nm2 tn2 a2 b2 f2 sb m cq bb) ?_
          intro ys W hR hd K hK
          have hl := (hR.block D (Array.getElem?_eq_some_iff.1 HR_V.out).1).trans HR_V.out
          have c0 := cell6_0 hl
          have c1 := cell6_1 hl
          have c2 := cell6_2 hl
          have c3 := cell6_3 hl
          have c4 := cell6_4 hl
          have c5 := cell6_5 hl
          go_simp
          have hK2 := hK (.agg #[.string nm, .string tn, .int .i64 a, .int .i64 b, .int .i64 f, .slice sa n cp]) _ (Below.refl _ _) rfl
          simp (config := { decide := true }) only [upd, if_true, if_false] at hK2
          exact hK2
        refine ⟨?_, ?_⟩
        · refine SlotStep.below (fun A B hb h => h.trans (hb.mono h.size)) (reI_up nm tn a b f sa n cp nm2 tn2 a2 b2 f2 sb m cq bb) ?_
          intro ys W hR hd K hK
          have hl := (hR.block (D + 1) (Array.getElem?_eq_some_iff.1 HS_V.out).1).trans HS_V.out
          have c0 := cell6_0 hl
          have c1 := cell6_1 hl
          have c2 := cell6_2 hl
          have c3 := cell6_3 hl
          have c4 := cell6_4 hl
          have c5 := cell6_5 hl
          go_simp
          have hK2 := hK (.agg #[.string nm2, .string tn2, .int .i64 a2, .int .i64 b2, .int .i64 f2, .slice sb m cq]) _ (Below.refl _ _) rfl
          simp (config := { decide := true }) only [upd, if_true, if_false] at hK2
          exact hK2
        refine ⟨?_, ?_⟩
        · refine SlotStep.below (fun A B hb h => h.trans (hb.mono h.size)) (reI_up nm tn a b f sa n cp nm2 tn2 a2 b2 f2 sb m cq bb) ?_
          intro ys W hR hd K hK
          have dd3 : ys 3 = (.agg #[.string nm, .string tn, .int .i64 a, .int .i64 b, .int .i64 f, .slice sa n cp]) := hd 3 (by kernel_rfl) (by decide)
          have dd4 : ys 4 = (.agg #[.string nm2, .string tn2, .int .i64 a2, .int .i64 b2, .int .i64 f2, .slice sb m cq]) := hd 4 (by kernel_rfl) (by decide)
          go_simp
          refine (SM.out W (HW1.out.below hR) (HW2.out.below hR)).mono ?_
          rintro e w5 ⟨rfl, hb5⟩
          have hK2 := hK (.bool bb) _ hb5 rfl
          simp (config := { decide := true }) only [upd, if_true, if_false, dd3, dd4] at hK2
          exact hK2
        refine ⟨?_, ?_⟩
        · refine SlotStep.below (fun A B hb h => h.trans (hb.mono h.size)) (reI_up nm tn a b f sa n cp nm2 tn2 a2 b2 f2 sb m cq bb) ?_
          intro ys W hR hd K hK
          have dd2 : ys 2 = (.bool bb) := hd 2 (by kernel_rfl) (by decide)
          have dd5 : ys 5 = (.bool bb) := hd 5 (by kernel_rfl) (by decide)
          go_simp
          have hK2 := hK (.bool true) _ (Below.refl _ _) rfl
          simp (config := { decide := true }) only [upd, if_true, if_false, dd2, dd5] at hK2
          exact hK2
        refine ⟨?_, ?_⟩
        · refine SlotStep.below (fun A B hb h => h.trans (hb.mono h.size)) (reI_up nm tn a b f sa n cp nm2 tn2 a2 b2 f2 sb m cq bb) ?_
          intro ys W hR hd K hK
          have dd6 : ys 6 = (.bool true) := hd 6 (by kernel_rfl) (by decide)
          go_simp
          have hK2 := hK (.bool true) _ (Below.refl _ _) rfl
          simp (config := { decide := true }) only [upd, if_true, if_false, dd6] at hK2
          exact hK2
        trivial
        · intro L5 ys5 U hL5 hI5
          obtain ⟨hR5, hj5⟩ := hI5
          have d0 : ys5 0 = (.agg #[.string nm, .string tn, .int .i64 a, .int .i64 b, .int .i64 f, .slice sa n cp]) := hj5 0 (by decide) (hL5 0 (by decide))
          have d1 : ys5 1 = (.agg #[.string nm2, .string tn2, .int .i64 a2, .int .i64 b2, .int .i64 f2, .slice sb m cq]) := hj5 1 (by decide) (hL5 1 (by decide))
          have d2 : ys5 2 = (.bool bb) := hj5 2 (by decide) (hL5 2 (by decide))
          have d3 : ys5 3 = (.agg #[.string nm, .string tn, .int .i64 a, .int .i64 b, .int .i64 f, .slice sa n cp]) := hj5 3 (by decide) (hL5 3 (by decide))
          have d4 : ys5 4 = (.agg #[.string nm2, .string tn2, .int .i64 a2, .int .i64 b2, .int .i64 f2, .slice sb m cq]) := hj5 4 (by decide) (hL5 4 (by decide))
          have d5 : ys5 5 = (.bool bb) := hj5 5 (by decide) (hL5 5 (by decide))
          have d6 : ys5 6 = (.bool true) := hj5 6 (by decide) (hL5 6 (by decide))
          have d7 : ys5 7 = (.bool true) := hj5 7 (by decide) (hL5 7 (by decide))
          simp only [d0, d1, d2, d3, d4, d5, d6, d7]
          have HF := Lib.hid (HB.out.trans (hR5.mono (by have := HB.out.size; first | omega | (rw [hD] at this; exact this))))
          clear hj5 hL5 hR5 d0 d1 d2 d3 d4 d5 d6 d7
          go_wp2
          go_ret
          exact ⟨rfl, by first | exact HF.out | (rw [hD]; exact HF.out)⟩
end Go.Proofs.YtbkbncapgljfaaaGreatDoor
