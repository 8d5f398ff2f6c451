/- Contracts of rank's Check, last, checkPipe, Number. -/
import Derived.Test.YtbkbncapgljfaaaGreatDoorRkB
namespace Go.Proofs.YtbkbncapgljfaaaGreatDoor
open Go Go.RowKit Go.Shelf

theorem rk_name1 {nm tn : ByteArray} {a b f : Int} {n : Nat} {X : Nat → Int} (h : nameB nm.data.toList = false) : rkE nm tn a b f n X = 8 := by unfold rkE; rw [if_neg (by rw [h]; rintro ⟨h, _⟩; cases h)]
theorem rk_name2 {nm tn : ByteArray} {a b f : Int} {n : Nat} {X : Nat → Int} (h : nameB tn.data.toList = false) : rkE nm tn a b f n X = 8 := by unfold rkE; rw [if_neg (by rw [h]; rintro ⟨_, h⟩; cases h)]
theorem rk_feet {nm tn : ByteArray} {a b f : Int} {n : Nat} {X : Nat → Int} (h1 : nameB nm.data.toList = true) (h2 : nameB tn.data.toList = true) (h3 : ¬ pk a b = 0) : rkE nm tn a b f n X = pk a b := by unfold rkE; rw [if_pos ⟨h1, h2⟩, if_neg h3]
theorem rk_first {nm tn : ByteArray} {a b f : Int} {n : Nat} {X : Nat → Int} (h1 : nameB nm.data.toList = true) (h2 : nameB tn.data.toList = true) (h3 : pk a b = 0) (h4 : ¬ (-256 ≤ f ∧ f ≤ 256)) : rkE nm tn a b f n X = 3 := by unfold rkE; rw [if_pos ⟨h1, h2⟩, if_pos h3, if_neg h4]
theorem rk_empty {nm tn : ByteArray} {a b f : Int} {n : Nat} {X : Nat → Int} (h1 : nameB nm.data.toList = true) (h2 : nameB tn.data.toList = true) (h3 : pk a b = 0) (h4 : -256 ≤ f ∧ f ≤ 256) (h5 : n = 0) : rkE nm tn a b f n X = 13 := by unfold rkE; rw [if_pos ⟨h1, h2⟩, if_pos h3, if_pos h4, if_pos h5]
theorem rk_limit {nm tn : ByteArray} {a b f : Int} {n : Nat} {X : Nat → Int} (h1 : nameB nm.data.toList = true) (h2 : nameB tn.data.toList = true) (h3 : pk a b = 0) (h4 : -256 ≤ f ∧ f ≤ 256) (h5 : ¬ n = 0) (h6 : 128 < n) : rkE nm tn a b f n X = 4 := by unfold rkE; rw [if_pos ⟨h1, h2⟩, if_pos h3, if_pos h4, if_neg h5, if_pos h6]
theorem rk_wind {nm tn : ByteArray} {a b f : Int} {n : Nat} {X : Nat → Int} (h1 : nameB nm.data.toList = true) (h2 : nameB tn.data.toList = true) (h3 : pk a b = 0) (h4 : -256 ≤ f ∧ f ≤ 256) (h5 : ¬ n = 0) (h6 : ¬ 128 < n) : rkE nm tn a b f n X = wdE X n := by unfold rkE; rw [if_pos ⟨h1, h2⟩, if_pos h3, if_pos h4, if_neg h5, if_neg h6]

set_option maxRecDepth 100000 in
set_option maxHeartbeats 4000000 in
theorem rcheck_c (nm tn : ByteArray) (a b f : Int) (v : Value) (n : Nat) (X : Nat → Int) (h1 : nm.size ≤ 1099511627776) (h2 : tn.size ≤ 1099511627776) (hn : n ≤ 1099511627776) (w : World) (hWd : Wd w v n X) :
    Calls Tryz.prog 14 #[.agg #[.string nm, .string tn, .int .i64 a, .int .i64 b, .int .i64 f, v]] w fun e w' => e = .returned (.int .i64 (rkE nm tn a b f n X)) ∧ Below w.heap.size w w' := by
  have N1 := Lib.hid (fun W => isName_c nm h1 W)
  have N2 := Lib.hid (fun W => isName_c tn h2 W)
  have PC := Lib.hid (fun W => pcheck_any a b W)
  have FI := Lib.hid (fun W => isFirst_c f W)
  obtain ⟨sa, cp, rfl⟩ := hWd.len
  have CW := Lib.hid (fun W h => checkWind_c (.slice sa n cp) n X hn W h)
  have hW := Lib.hid hWd
  obtain ⟨R, hR⟩ : ∃ R, rkE nm tn a b f n X = R := ⟨_, rfl⟩
  rw [hR]
  have HR := Lib.hid hR
  clear hR hWd h1 h2
  obtain ⟨D, hD⟩ : ∃ D, w.heap.size = D := ⟨_, rfl⟩
  cases n1 : nameB nm.data.toList with
  | false =>
    rw [n1] at N1
    obtain rfl : R = 8 := by rw [← HR.out, rk_name1 n1]
    clear n1
    go_enter Tryz.func14, Tryz.ntmps14
    obtain ⟨V, hV⟩ : ∃ V, (w.alloc (.cells #[.string nm, .string tn, .int .i64 a, .int .i64 b, .int .i64 f, .slice sa n cp] 26)) = V := ⟨_, rfl⟩
    have hwV : Below w.heap.size w V := by rw [← hV]; exact (Below.refl _ w).alloc (Nat.le_refl _) _
    have hpV : V.heap[D]? = some (.cells #[.string nm, .string tn, .int .i64 a, .int .i64 b, .int .i64 f, .slice sa n cp] 26) := by rw [← hV]; exact heap_new hD.symm
    have c0 := cell6_0 hpV
    have c1 := cell6_1 hpV
    have c2 := cell6_2 hpV
    have c3 := cell6_3 hpV
    have c4 := cell6_4 hpV
    have c5 := cell6_5 hpV
    go_upto_region 1 with fail
    try rw [hV]
    clear hV
    go_wp2_with fail
    refine (N1.out _).mono ?_
    rintro e w1 ⟨rfl, rfl⟩
    go_wp2
    go_ret
    exact ⟨rfl, by assumption⟩
  | true =>
    rw [n1] at N1
    cases n2 : nameB tn.data.toList with
    | false =>
      rw [n2] at N2
      obtain rfl : R = 8 := by rw [← HR.out, rk_name2 n2]
      clear n1 n2
      go_enter Tryz.func14, Tryz.ntmps14
      obtain ⟨V, hV⟩ : ∃ V, (w.alloc (.cells #[.string nm, .string tn, .int .i64 a, .int .i64 b, .int .i64 f, .slice sa n cp] 26)) = V := ⟨_, rfl⟩
      have hwV : Below w.heap.size w V := by rw [← hV]; exact (Below.refl _ w).alloc (Nat.le_refl _) _
      have hpV : V.heap[D]? = some (.cells #[.string nm, .string tn, .int .i64 a, .int .i64 b, .int .i64 f, .slice sa n cp] 26) := by rw [← hV]; exact heap_new hD.symm
      have c0 := cell6_0 hpV
      have c1 := cell6_1 hpV
      have c2 := cell6_2 hpV
      have c3 := cell6_3 hpV
      have c4 := cell6_4 hpV
      have c5 := cell6_5 hpV
      go_upto_region 1 with fail
      try rw [hV]
      clear hV
      go_wp2_with fail
      refine (N1.out _).mono ?_
      rintro e z1 ⟨rfl, hz1⟩
      rw [hz1]
      clear hz1
      go_wp2_with fail
      refine (N2.out _).mono ?_
      rintro e z2 ⟨rfl, hz2⟩
      rw [hz2]
      clear hz2
      go_wp2
      go_ret
      exact ⟨rfl, by assumption⟩
    | true =>
      rw [n2] at N2
      by_cases p0 : pk a b = 0
      · rw [p0] at PC
        by_cases f0 : -256 ≤ f ∧ f ≤ 256
        · rw [decide_eq_true f0] at FI
          by_cases e0 : n = 0
          · subst e0
            obtain rfl : R = 13 := by rw [← HR.out, rk_empty n1 n2 p0 f0 rfl]
            clear n1 n2 p0 f0
            go_enter Tryz.func14, Tryz.ntmps14
            obtain ⟨V, hV⟩ : ∃ V, (w.alloc (.cells #[.string nm, .string tn, .int .i64 a, .int .i64 b, .int .i64 f, .slice sa 0 cp] 26)) = V := ⟨_, rfl⟩
            have hwV : Below w.heap.size w V := by rw [← hV]; exact (Below.refl _ w).alloc (Nat.le_refl _) _
            have hpV : V.heap[D]? = some (.cells #[.string nm, .string tn, .int .i64 a, .int .i64 b, .int .i64 f, .slice sa 0 cp] 26) := by rw [← hV]; exact heap_new hD.symm
            have c0 := cell6_0 hpV
            have c1 := cell6_1 hpV
            have c2 := cell6_2 hpV
            have c3 := cell6_3 hpV
            have c4 := cell6_4 hpV
            have c5 := cell6_5 hpV
            go_upto_region 1 with fail
            try rw [hV]
            clear hV
            go_wp2_with fail
            refine (N1.out _).mono ?_
            rintro e z1 ⟨rfl, hz1⟩
            rw [hz1]
            clear hz1
            go_wp2_with fail
            refine (N2.out _).mono ?_
            rintro e z2 ⟨rfl, hz2⟩
            rw [hz2]
            clear hz2
            go_wp2_with fail
            refine (PC.out _).mono ?_
            rintro e w1 ⟨rfl, hb1⟩
            have hp1 := (hb1.block D (Array.getElem?_eq_some_iff.1 hpV).1).trans hpV
            have hw1 := hwV.trans (hb1.mono hwV.size)
            clear c0 c1 c2 c3 c4 c5
            have c0 := cell6_0 hp1
            have c1 := cell6_1 hp1
            have c2 := cell6_2 hp1
            have c3 := cell6_3 hp1
            have c4 := cell6_4 hp1
            have c5 := cell6_5 hp1
            clear hp1 hpV
            go_wp2_with fail
            refine (FI.out _).mono ?_
            rintro e z3 ⟨rfl, hz3⟩
            rw [hz3]
            clear hz3
            go_wp2
            go_ret
            exact ⟨rfl, by assumption⟩
          have e1 : ¬ (n : Int) = 0 := by omega
          by_cases l0 : 128 < n
          · obtain rfl : R = 4 := by rw [← HR.out, rk_limit n1 n2 p0 f0 e0 l0]
            have l1 : (128 : Int) < (n : Int) := by omega
            clear n1 n2 p0 f0 e0 l0
            go_enter Tryz.func14, Tryz.ntmps14
            obtain ⟨V, hV⟩ : ∃ V, (w.alloc (.cells #[.string nm, .string tn, .int .i64 a, .int .i64 b, .int .i64 f, .slice sa n cp] 26)) = V := ⟨_, rfl⟩
            have hwV : Below w.heap.size w V := by rw [← hV]; exact (Below.refl _ w).alloc (Nat.le_refl _) _
            have hpV : V.heap[D]? = some (.cells #[.string nm, .string tn, .int .i64 a, .int .i64 b, .int .i64 f, .slice sa n cp] 26) := by rw [← hV]; exact heap_new hD.symm
            have c0 := cell6_0 hpV
            have c1 := cell6_1 hpV
            have c2 := cell6_2 hpV
            have c3 := cell6_3 hpV
            have c4 := cell6_4 hpV
            have c5 := cell6_5 hpV
            go_upto_region 1 with fail
            try rw [hV]
            clear hV
            go_wp2_with fail
            refine (N1.out _).mono ?_
            rintro e z1 ⟨rfl, hz1⟩
            rw [hz1]
            clear hz1
            go_wp2_with fail
            refine (N2.out _).mono ?_
            rintro e z2 ⟨rfl, hz2⟩
            rw [hz2]
            clear hz2
            go_wp2_with fail
            refine (PC.out _).mono ?_
            rintro e w1 ⟨rfl, hb1⟩
            have hp1 := (hb1.block D (Array.getElem?_eq_some_iff.1 hpV).1).trans hpV
            have hw1 := hwV.trans (hb1.mono hwV.size)
            clear c0 c1 c2 c3 c4 c5
            have c0 := cell6_0 hp1
            have c1 := cell6_1 hp1
            have c2 := cell6_2 hp1
            have c3 := cell6_3 hp1
            have c4 := cell6_4 hp1
            have c5 := cell6_5 hp1
            clear hp1 hpV
            go_wp2_with fail
            refine (FI.out _).mono ?_
            rintro e z3 ⟨rfl, hz3⟩
            rw [hz3]
            clear hz3
            go_wp2
            go_ret
            exact ⟨rfl, by assumption⟩
          · obtain rfl : R = wdE X n := by rw [← HR.out, rk_wind n1 n2 p0 f0 e0 l0]
            have l1 : ¬ (128 : Int) < (n : Int) := by omega
            clear n1 n2 p0 f0 e0 l0
            go_enter Tryz.func14, Tryz.ntmps14
            obtain ⟨V, hV⟩ : ∃ V, (w.alloc (.cells #[.string nm, .string tn, .int .i64 a, .int .i64 b, .int .i64 f, .slice sa n cp] 26)) = V := ⟨_, rfl⟩
            have hwV : Below w.heap.size w V := by rw [← hV]; exact (Below.refl _ w).alloc (Nat.le_refl _) _
            have hpV : V.heap[D]? = some (.cells #[.string nm, .string tn, .int .i64 a, .int .i64 b, .int .i64 f, .slice sa n cp] 26) := by rw [← hV]; exact heap_new hD.symm
            have c0 := cell6_0 hpV
            have c1 := cell6_1 hpV
            have c2 := cell6_2 hpV
            have c3 := cell6_3 hpV
            have c4 := cell6_4 hpV
            have c5 := cell6_5 hpV
            go_upto_region 1 with fail
            try rw [hV]
            clear hV
            go_wp2_with fail
            refine (N1.out _).mono ?_
            rintro e z1 ⟨rfl, hz1⟩
            rw [hz1]
            clear hz1
            go_wp2_with fail
            refine (N2.out _).mono ?_
            rintro e z2 ⟨rfl, hz2⟩
            rw [hz2]
            clear hz2
            go_wp2_with fail
            refine (PC.out _).mono ?_
            rintro e w1 ⟨rfl, hb1⟩
            have hp1 := (hb1.block D (Array.getElem?_eq_some_iff.1 hpV).1).trans hpV
            have hw1 := hwV.trans (hb1.mono hwV.size)
            clear c0 c1 c2 c3 c4 c5
            have c0 := cell6_0 hp1
            have c1 := cell6_1 hp1
            have c2 := cell6_2 hp1
            have c3 := cell6_3 hp1
            have c4 := cell6_4 hp1
            have c5 := cell6_5 hp1
            clear hp1 hpV
            go_wp2_with fail
            refine (FI.out _).mono ?_
            rintro e z3 ⟨rfl, hz3⟩
            rw [hz3]
            clear hz3
            have hW1 := hW.out.below hw1
            go_wp2_with fail
            refine (CW.out _ hW1).mono ?_
            rintro e z4 ⟨rfl, hz4⟩
            rw [hz4]
            clear hz4
            go_wp2
            go_ret
            exact ⟨rfl, by assumption⟩
        · rw [decide_eq_false f0] at FI
          obtain rfl : R = 3 := by rw [← HR.out, rk_first n1 n2 p0 f0]
          clear n1 n2 p0 f0
          go_enter Tryz.func14, Tryz.ntmps14
          obtain ⟨V, hV⟩ : ∃ V, (w.alloc (.cells #[.string nm, .string tn, .int .i64 a, .int .i64 b, .int .i64 f, .slice sa n cp] 26)) = V := ⟨_, rfl⟩
          have hwV : Below w.heap.size w V := by rw [← hV]; exact (Below.refl _ w).alloc (Nat.le_refl _) _
          have hpV : V.heap[D]? = some (.cells #[.string nm, .string tn, .int .i64 a, .int .i64 b, .int .i64 f, .slice sa n cp] 26) := by rw [← hV]; exact heap_new hD.symm
          have c0 := cell6_0 hpV
          have c1 := cell6_1 hpV
          have c2 := cell6_2 hpV
          have c3 := cell6_3 hpV
          have c4 := cell6_4 hpV
          have c5 := cell6_5 hpV
          go_upto_region 1 with fail
          try rw [hV]
          clear hV
          go_wp2_with fail
          refine (N1.out _).mono ?_
          rintro e z1 ⟨rfl, hz1⟩
          rw [hz1]
          clear hz1
          go_wp2_with fail
          refine (N2.out _).mono ?_
          rintro e z2 ⟨rfl, hz2⟩
          rw [hz2]
          clear hz2
          go_wp2_with fail
          refine (PC.out _).mono ?_
          rintro e w1 ⟨rfl, hb1⟩
          have hp1 := (hb1.block D (Array.getElem?_eq_some_iff.1 hpV).1).trans hpV
          have hw1 := hwV.trans (hb1.mono hwV.size)
          clear c0 c1 c2 c3 c4 c5
          have c0 := cell6_0 hp1
          have c1 := cell6_1 hp1
          have c2 := cell6_2 hp1
          have c3 := cell6_3 hp1
          have c4 := cell6_4 hp1
          have c5 := cell6_5 hp1
          clear hp1 hpV
          go_wp2_with fail
          refine (FI.out _).mono ?_
          rintro e z3 ⟨rfl, hz3⟩
          rw [hz3]
          clear hz3
          go_wp2
          go_ret
          exact ⟨rfl, by assumption⟩
      · obtain rfl : R = pk a b := by rw [← HR.out, rk_feet n1 n2 p0]
        generalize pk a b = z at *
        clear n1 n2
        go_enter Tryz.func14, Tryz.ntmps14
        obtain ⟨V, hV⟩ : ∃ V, (w.alloc (.cells #[.string nm, .string tn, .int .i64 a, .int .i64 b, .int .i64 f, .slice sa n cp] 26)) = V := ⟨_, rfl⟩
        have hwV : Below w.heap.size w V := by rw [← hV]; exact (Below.refl _ w).alloc (Nat.le_refl _) _
        have hpV : V.heap[D]? = some (.cells #[.string nm, .string tn, .int .i64 a, .int .i64 b, .int .i64 f, .slice sa n cp] 26) := by rw [← hV]; exact heap_new hD.symm
        have c0 := cell6_0 hpV
        have c1 := cell6_1 hpV
        have c2 := cell6_2 hpV
        have c3 := cell6_3 hpV
        have c4 := cell6_4 hpV
        have c5 := cell6_5 hpV
        go_upto_region 1 with fail
        try rw [hV]
        clear hV
        go_wp2_with fail
        refine (N1.out _).mono ?_
        rintro e z1 ⟨rfl, hz1⟩
        rw [hz1]
        clear hz1
        go_wp2_with fail
        refine (N2.out _).mono ?_
        rintro e z2 ⟨rfl, hz2⟩
        rw [hz2]
        clear hz2
        go_wp2_with fail
        refine (PC.out _).mono ?_
        rintro e w1 ⟨rfl, hb1⟩
        have hp1 := (hb1.block D (Array.getElem?_eq_some_iff.1 hpV).1).trans hpV
        have hw1 := hwV.trans (hb1.mono hwV.size)
        clear c0 c1 c2 c3 c4 c5
        have c0 := cell6_0 hp1
        have c1 := cell6_1 hp1
        have c2 := cell6_2 hp1
        have c3 := cell6_3 hp1
        have c4 := cell6_4 hp1
        have c5 := cell6_5 hp1
        clear hp1 hpV
        go_wp2
        go_ret
        exact ⟨rfl, by assumption⟩
end Go.Proofs.YtbkbncapgljfaaaGreatDoor
/- Contracts of rank's last, checkPipe, Number, Note, Last, Wind, Sounding, checkFurther. -/
namespace Go.Proofs.YtbkbncapgljfaaaGreatDoor
open Go Go.RowKit Go.Shelf


theorem last_c (nm tn : ByteArray) (a b f : Int) (v : Value) (n : Nat) (X : Nat → Int) (hf : -256 ≤ f ∧ f ≤ 256) (hn : n ≤ 128) (w : World) (hWd : Wd w v n X) :
    Calls Tryz.prog 40 #[.agg #[.string nm, .string tn, .int .i64 a, .int .i64 b, .int .i64 f, v]] w fun e w' => e = .returned (.int .i64 (f + n - 1)) ∧ Below w.heap.size w w' := by
  obtain ⟨sa, cp, rfl⟩ := hWd.len
  have q1 := wrap_in (q := f + (n : Int)) (by omega) (by omega)
  have q2 := wrap_in (q := f + (n : Int) - 1) (by omega) (by omega)
  clear hWd
  obtain ⟨D, hD⟩ : ∃ D, w.heap.size = D := ⟨_, rfl⟩
  go_enter Tryz.func40, Tryz.ntmps40
  have ld1 : (w.alloc (.cells #[.string nm, .string tn, .int .i64 a, .int .i64 b, .int .i64 f, .slice sa n cp] 26)).heap[D]? = some (.cells #[.string nm, .string tn, .int .i64 a, .int .i64 b, .int .i64 f, .slice sa n cp] 26) := (heap_new (by first | omega | (simp; omega)))
  have y1_0 := cell6_0 ld1
  have y1_1 := cell6_1 ld1
  have y1_2 := cell6_2 ld1
  have y1_3 := cell6_3 ld1
  have y1_4 := cell6_4 ld1
  have y1_5 := cell6_5 ld1
  clear ld1
  go_wp2
  go_ret
  exact ⟨rfl, (Below.refl _ w).alloc (Nat.le_refl _) _⟩

set_option maxRecDepth 100000 in
set_option maxHeartbeats 4000000 in
theorem cpipe_bad (nm tn : ByteArray) (a b f : Int) (v : Value) (n : Nat) (X : Nat → Int) (k z : Int) (s1 : nm.size ≤ 1099511627776) (s2 : tn.size ≤ 1099511627776) (hn : n ≤ 1099511627776) (hz : rkE nm tn a b f n X = z) (hne : ¬ z = 0) (w : World) (hWd : Wd w v n X) :
    Calls Tryz.prog 41 #[.agg #[.string nm, .string tn, .int .i64 a, .int .i64 b, .int .i64 f, v], .int .i64 k] w fun e w' => e = .returned (.int .i64 z) ∧ Below w.heap.size w w' := by
  have CK := Lib.hid (fun W h => rcheck_c nm tn a b f v n X s1 s2 hn W h)
  rw [hz] at CK
  clear hz
  obtain ⟨sa, cp, rfl⟩ := hWd.len
  have hW := Lib.hid hWd
  clear hWd
  obtain ⟨D, hD⟩ : ∃ D, w.heap.size = D := ⟨_, rfl⟩
  go_enter Tryz.func41, Tryz.ntmps41
  have ld1 : (w.alloc (.cells #[.string nm, .string tn, .int .i64 a, .int .i64 b, .int .i64 f, .slice sa n cp] 26)).heap[D]? = some (.cells #[.string nm, .string tn, .int .i64 a, .int .i64 b, .int .i64 f, .slice sa n cp] 26) := (heap_new (by first | omega | (simp; omega)))
  have y1_0 := cell6_0 ld1
  have y1_1 := cell6_1 ld1
  have y1_2 := cell6_2 ld1
  have y1_3 := cell6_3 ld1
  have y1_4 := cell6_4 ld1
  have y1_5 := cell6_5 ld1
  clear ld1
  have W1 : Wd (w.alloc (.cells #[.string nm, .string tn, .int .i64 a, .int .i64 b, .int .i64 f, .slice sa n cp] 26)) (.slice sa n cp) n X := hW.out.below (by first | exact ((Below.refl _ w).alloc (by first | omega | (simp; omega)) (.cells #[.string nm, .string tn, .int .i64 a, .int .i64 b, .int .i64 f, .slice sa n cp] 26)) | (rw [hD]; exact ((Below.refl _ w).alloc (by first | omega | (simp; omega)) (.cells #[.string nm, .string tn, .int .i64 a, .int .i64 b, .int .i64 f, .slice sa n cp] 26))))
  go_wp2_with fail
  refine (CK.out _ W1).mono ?_
  rintro e v2 ⟨rfl, hb_v2⟩
  have cR_v2 : v2.heap[D]? = some (.cells #[.string nm, .string tn, .int .i64 a, .int .i64 b, .int .i64 f, .slice sa n cp] 26) := (hb_v2.block (D) (Array.getElem?_eq_some_iff.1 (show (w.alloc (.cells #[.string nm, .string tn, .int .i64 a, .int .i64 b, .int .i64 f, .slice sa n cp] 26)).heap[D]? = some (.cells #[.string nm, .string tn, .int .i64 a, .int .i64 b, .int .i64 f, .slice sa n cp] 26) from (heap_new (by first | omega | (simp; omega))))).1).trans (heap_new (by first | omega | (simp; omega)))
  have hw_v2 : Below D w v2 := (((Below.refl _ w).alloc (by first | omega | (simp; omega)) (.cells #[.string nm, .string tn, .int .i64 a, .int .i64 b, .int .i64 f, .slice sa n cp] 26))).trans (hb_v2.mono (by first | omega | (simp; omega)))
  clear hb_v2 y1_0 y1_1 y1_2 y1_3 y1_4 y1_5
  have HW := Lib.hid (hw_v2)
  go_wp2
  go_ret
  exact ⟨rfl, by first | exact HW.out | (rw [hD]; exact HW.out)⟩

set_option maxRecDepth 100000 in
set_option maxHeartbeats 4000000 in
theorem cpipe_no (nm tn : ByteArray) (a b f : Int) (v : Value) (n : Nat) (X : Nat → Int) (k : Int) (s1 : nm.size ≤ 1099511627776) (s2 : tn.size ≤ 1099511627776) (hn : n ≤ 1099511627776) (hz : rkE nm tn a b f n X = 0) (hk : ¬ (0 ≤ k ∧ k < n)) (w : World) (hWd : Wd w v n X) :
    Calls Tryz.prog 41 #[.agg #[.string nm, .string tn, .int .i64 a, .int .i64 b, .int .i64 f, v], .int .i64 k] w fun e w' => e = .returned (.int .i64 10) ∧ Below w.heap.size w w' := by
  have CK := Lib.hid (fun W h => rcheck_c nm tn a b f v n X s1 s2 hn W h)
  rw [hz] at CK
  clear hz
  obtain ⟨sa, cp, rfl⟩ := hWd.len
  have hW := Lib.hid hWd
  clear hWd
  obtain ⟨D, hD⟩ : ∃ D, w.heap.size = D := ⟨_, rfl⟩
  rcases (show k < 0 ∨ (¬ k < 0 ∧ (n : Int) ≤ k) by omega) with q1 | ⟨q1, q2⟩
  · skip
    go_enter Tryz.func41, Tryz.ntmps41
    have ld1 : (w.alloc (.cells #[.string nm, .string tn, .int .i64 a, .int .i64 b, .int .i64 f, .slice sa n cp] 26)).heap[D]? = some (.cells #[.string nm, .string tn, .int .i64 a, .int .i64 b, .int .i64 f, .slice sa n cp] 26) := (heap_new (by first | omega | (simp; omega)))
    have y1_0 := cell6_0 ld1
    have y1_1 := cell6_1 ld1
    have y1_2 := cell6_2 ld1
    have y1_3 := cell6_3 ld1
    have y1_4 := cell6_4 ld1
    have y1_5 := cell6_5 ld1
    clear ld1
    have W2 : Wd (w.alloc (.cells #[.string nm, .string tn, .int .i64 a, .int .i64 b, .int .i64 f, .slice sa n cp] 26)) (.slice sa n cp) n X := hW.out.below (by first | exact ((Below.refl _ w).alloc (by first | omega | (simp; omega)) (.cells #[.string nm, .string tn, .int .i64 a, .int .i64 b, .int .i64 f, .slice sa n cp] 26)) | (rw [hD]; exact ((Below.refl _ w).alloc (by first | omega | (simp; omega)) (.cells #[.string nm, .string tn, .int .i64 a, .int .i64 b, .int .i64 f, .slice sa n cp] 26))))
    go_wp2_with fail
    refine (CK.out _ W2).mono ?_
    rintro e v2 ⟨rfl, hb_v2⟩
    have cR_v2 : v2.heap[D]? = some (.cells #[.string nm, .string tn, .int .i64 a, .int .i64 b, .int .i64 f, .slice sa n cp] 26) := (hb_v2.block (D) (Array.getElem?_eq_some_iff.1 (show (w.alloc (.cells #[.string nm, .string tn, .int .i64 a, .int .i64 b, .int .i64 f, .slice sa n cp] 26)).heap[D]? = some (.cells #[.string nm, .string tn, .int .i64 a, .int .i64 b, .int .i64 f, .slice sa n cp] 26) from (heap_new (by first | omega | (simp; omega))))).1).trans (heap_new (by first | omega | (simp; omega)))
    have hw_v2 : Below D w v2 := (((Below.refl _ w).alloc (by first | omega | (simp; omega)) (.cells #[.string nm, .string tn, .int .i64 a, .int .i64 b, .int .i64 f, .slice sa n cp] 26))).trans (hb_v2.mono (by first | omega | (simp; omega)))
    clear hb_v2 y1_0 y1_1 y1_2 y1_3 y1_4 y1_5
    have ld3 : v2.heap[D]? = some (.cells #[.string nm, .string tn, .int .i64 a, .int .i64 b, .int .i64 f, .slice sa n cp] 26) := cR_v2
    have y3_0 := cell6_0 ld3
    have y3_1 := cell6_1 ld3
    have y3_2 := cell6_2 ld3
    have y3_3 := cell6_3 ld3
    have y3_4 := cell6_4 ld3
    have y3_5 := cell6_5 ld3
    clear ld3
    have HW := Lib.hid (hw_v2)
    go_wp2
    go_ret
    exact ⟨rfl, by first | exact HW.out | (rw [hD]; exact HW.out)⟩
  · skip
    go_enter Tryz.func41, Tryz.ntmps41
    have ld1 : (w.alloc (.cells #[.string nm, .string tn, .int .i64 a, .int .i64 b, .int .i64 f, .slice sa n cp] 26)).heap[D]? = some (.cells #[.string nm, .string tn, .int .i64 a, .int .i64 b, .int .i64 f, .slice sa n cp] 26) := (heap_new (by first | omega | (simp; omega)))
    have y1_0 := cell6_0 ld1
    have y1_1 := cell6_1 ld1
    have y1_2 := cell6_2 ld1
    have y1_3 := cell6_3 ld1
    have y1_4 := cell6_4 ld1
    have y1_5 := cell6_5 ld1
    clear ld1
    have W3 : Wd (w.alloc (.cells #[.string nm, .string tn, .int .i64 a, .int .i64 b, .int .i64 f, .slice sa n cp] 26)) (.slice sa n cp) n X := hW.out.below (by first | exact ((Below.refl _ w).alloc (by first | omega | (simp; omega)) (.cells #[.string nm, .string tn, .int .i64 a, .int .i64 b, .int .i64 f, .slice sa n cp] 26)) | (rw [hD]; exact ((Below.refl _ w).alloc (by first | omega | (simp; omega)) (.cells #[.string nm, .string tn, .int .i64 a, .int .i64 b, .int .i64 f, .slice sa n cp] 26))))
    go_wp2_with fail
    refine (CK.out _ W3).mono ?_
    rintro e v2 ⟨rfl, hb_v2⟩
    have cR_v2 : v2.heap[D]? = some (.cells #[.string nm, .string tn, .int .i64 a, .int .i64 b, .int .i64 f, .slice sa n cp] 26) := (hb_v2.block (D) (Array.getElem?_eq_some_iff.1 (show (w.alloc (.cells #[.string nm, .string tn, .int .i64 a, .int .i64 b, .int .i64 f, .slice sa n cp] 26)).heap[D]? = some (.cells #[.string nm, .string tn, .int .i64 a, .int .i64 b, .int .i64 f, .slice sa n cp] 26) from (heap_new (by first | omega | (simp; omega))))).1).trans (heap_new (by first | omega | (simp; omega)))
    have hw_v2 : Below D w v2 := (((Below.refl _ w).alloc (by first | omega | (simp; omega)) (.cells #[.string nm, .string tn, .int .i64 a, .int .i64 b, .int .i64 f, .slice sa n cp] 26))).trans (hb_v2.mono (by first | omega | (simp; omega)))
    clear hb_v2 y1_0 y1_1 y1_2 y1_3 y1_4 y1_5
    have ld3 : v2.heap[D]? = some (.cells #[.string nm, .string tn, .int .i64 a, .int .i64 b, .int .i64 f, .slice sa n cp] 26) := cR_v2
    have y3_0 := cell6_0 ld3
    have y3_1 := cell6_1 ld3
    have y3_2 := cell6_2 ld3
    have y3_3 := cell6_3 ld3
    have y3_4 := cell6_4 ld3
    have y3_5 := cell6_5 ld3
    clear ld3
    have HW := Lib.hid (hw_v2)
    go_wp2
    go_ret
    exact ⟨rfl, by first | exact HW.out | (rw [hD]; exact HW.out)⟩

set_option maxRecDepth 100000 in
set_option maxHeartbeats 4000000 in
theorem cpipe_ok (nm tn : ByteArray) (a b f : Int) (v : Value) (n : Nat) (X : Nat → Int) (k : Int) (s1 : nm.size ≤ 1099511627776) (s2 : tn.size ≤ 1099511627776) (hn : n ≤ 1099511627776) (hz : rkE nm tn a b f n X = 0) (hk : 0 ≤ k ∧ k < n) (w : World) (hWd : Wd w v n X) :
    Calls Tryz.prog 41 #[.agg #[.string nm, .string tn, .int .i64 a, .int .i64 b, .int .i64 f, v], .int .i64 k] w fun e w' => e = .returned (.int .i64 0) ∧ Below w.heap.size w w' := by
  have CK := Lib.hid (fun W h => rcheck_c nm tn a b f v n X s1 s2 hn W h)
  rw [hz] at CK
  clear hz
  have q1 : ¬ k < 0 := by omega
  have q2 : ¬ (n : Int) ≤ k := by omega
  clear hk
  obtain ⟨sa, cp, rfl⟩ := hWd.len
  have hW := Lib.hid hWd
  clear hWd
  obtain ⟨D, hD⟩ : ∃ D, w.heap.size = D := ⟨_, rfl⟩
  go_enter Tryz.func41, Tryz.ntmps41
  have ld1 : (w.alloc (.cells #[.string nm, .string tn, .int .i64 a, .int .i64 b, .int .i64 f, .slice sa n cp] 26)).heap[D]? = some (.cells #[.string nm, .string tn, .int .i64 a, .int .i64 b, .int .i64 f, .slice sa n cp] 26) := (heap_new (by first | omega | (simp; omega)))
  have y1_0 := cell6_0 ld1
  have y1_1 := cell6_1 ld1
  have y1_2 := cell6_2 ld1
  have y1_3 := cell6_3 ld1
  have y1_4 := cell6_4 ld1
  have y1_5 := cell6_5 ld1
  clear ld1
  have W4 : Wd (w.alloc (.cells #[.string nm, .string tn, .int .i64 a, .int .i64 b, .int .i64 f, .slice sa n cp] 26)) (.slice sa n cp) n X := hW.out.below (by first | exact ((Below.refl _ w).alloc (by first | omega | (simp; omega)) (.cells #[.string nm, .string tn, .int .i64 a, .int .i64 b, .int .i64 f, .slice sa n cp] 26)) | (rw [hD]; exact ((Below.refl _ w).alloc (by first | omega | (simp; omega)) (.cells #[.string nm, .string tn, .int .i64 a, .int .i64 b, .int .i64 f, .slice sa n cp] 26))))
  go_wp2_with fail
  refine (CK.out _ W4).mono ?_
  rintro e v2 ⟨rfl, hb_v2⟩
  have cR_v2 : v2.heap[D]? = some (.cells #[.string nm, .string tn, .int .i64 a, .int .i64 b, .int .i64 f, .slice sa n cp] 26) := (hb_v2.block (D) (Array.getElem?_eq_some_iff.1 (show (w.alloc (.cells #[.string nm, .string tn, .int .i64 a, .int .i64 b, .int .i64 f, .slice sa n cp] 26)).heap[D]? = some (.cells #[.string nm, .string tn, .int .i64 a, .int .i64 b, .int .i64 f, .slice sa n cp] 26) from (heap_new (by first | omega | (simp; omega))))).1).trans (heap_new (by first | omega | (simp; omega)))
  have hw_v2 : Below D w v2 := (((Below.refl _ w).alloc (by first | omega | (simp; omega)) (.cells #[.string nm, .string tn, .int .i64 a, .int .i64 b, .int .i64 f, .slice sa n cp] 26))).trans (hb_v2.mono (by first | omega | (simp; omega)))
  clear hb_v2 y1_0 y1_1 y1_2 y1_3 y1_4 y1_5
  have ld3 : v2.heap[D]? = some (.cells #[.string nm, .string tn, .int .i64 a, .int .i64 b, .int .i64 f, .slice sa n cp] 26) := cR_v2
  have y3_0 := cell6_0 ld3
  have y3_1 := cell6_1 ld3
  have y3_2 := cell6_2 ld3
  have y3_3 := cell6_3 ld3
  have y3_4 := cell6_4 ld3
  have y3_5 := cell6_5 ld3
  clear ld3
  have HW := Lib.hid (hw_v2)
  go_wp2
  go_ret
  exact ⟨rfl, by first | exact HW.out | (rw [hD]; exact HW.out)⟩

set_option maxRecDepth 100000 in
set_option maxHeartbeats 4000000 in
theorem number_bad (nm tn : ByteArray) (a b f : Int) (v : Value) (n : Nat) (X : Nat → Int) (k z : Int) (s1 : nm.size ≤ 1099511627776) (s2 : tn.size ≤ 1099511627776) (hn : n ≤ 1099511627776) (hz : rkE nm tn a b f n X = z) (hne : ¬ z = 0) (w : World) (hWd : Wd w v n X) :
    Calls Tryz.prog 18 #[.agg #[.string nm, .string tn, .int .i64 a, .int .i64 b, .int .i64 f, v], .int .i64 k] w fun e w' => e = .returned (.tuple #[.int .i64 0, .bool false, .int .i64 z]) ∧ Below w.heap.size w w' := by
  have CK := Lib.hid (fun W h => rcheck_c nm tn a b f v n X s1 s2 hn W h)
  rw [hz] at CK
  clear hz
  obtain ⟨sa, cp, rfl⟩ := hWd.len
  have hW := Lib.hid hWd
  clear hWd
  obtain ⟨D, hD⟩ : ∃ D, w.heap.size = D := ⟨_, rfl⟩
  go_enter Tryz.func18, Tryz.ntmps18
  have ld1 : (w.alloc (.cells #[.string nm, .string tn, .int .i64 a, .int .i64 b, .int .i64 f, .slice sa n cp] 26)).heap[D]? = some (.cells #[.string nm, .string tn, .int .i64 a, .int .i64 b, .int .i64 f, .slice sa n cp] 26) := (heap_new (by first | omega | (simp; omega)))
  have y1_0 := cell6_0 ld1
  have y1_1 := cell6_1 ld1
  have y1_2 := cell6_2 ld1
  have y1_3 := cell6_3 ld1
  have y1_4 := cell6_4 ld1
  have y1_5 := cell6_5 ld1
  clear ld1
  have W5 : Wd (w.alloc (.cells #[.string nm, .string tn, .int .i64 a, .int .i64 b, .int .i64 f, .slice sa n cp] 26)) (.slice sa n cp) n X := hW.out.below (by first | exact ((Below.refl _ w).alloc (by first | omega | (simp; omega)) (.cells #[.string nm, .string tn, .int .i64 a, .int .i64 b, .int .i64 f, .slice sa n cp] 26)) | (rw [hD]; exact ((Below.refl _ w).alloc (by first | omega | (simp; omega)) (.cells #[.string nm, .string tn, .int .i64 a, .int .i64 b, .int .i64 f, .slice sa n cp] 26))))
  go_wp2_with fail
  refine (CK.out _ W5).mono ?_
  rintro e v2 ⟨rfl, hb_v2⟩
  have cR_v2 : v2.heap[D]? = some (.cells #[.string nm, .string tn, .int .i64 a, .int .i64 b, .int .i64 f, .slice sa n cp] 26) := (hb_v2.block (D) (Array.getElem?_eq_some_iff.1 (show (w.alloc (.cells #[.string nm, .string tn, .int .i64 a, .int .i64 b, .int .i64 f, .slice sa n cp] 26)).heap[D]? = some (.cells #[.string nm, .string tn, .int .i64 a, .int .i64 b, .int .i64 f, .slice sa n cp] 26) from (heap_new (by first | omega | (simp; omega))))).1).trans (heap_new (by first | omega | (simp; omega)))
  have hw_v2 : Below D w v2 := (((Below.refl _ w).alloc (by first | omega | (simp; omega)) (.cells #[.string nm, .string tn, .int .i64 a, .int .i64 b, .int .i64 f, .slice sa n cp] 26))).trans (hb_v2.mono (by first | omega | (simp; omega)))
  clear hb_v2 y1_0 y1_1 y1_2 y1_3 y1_4 y1_5
  have HW := Lib.hid (hw_v2)
  go_wp2
  go_ret3
  exact ⟨rfl, by first | exact HW.out | (rw [hD]; exact HW.out)⟩

set_option maxRecDepth 100000 in
set_option maxHeartbeats 4000000 in
theorem number_yes (nm tn : ByteArray) (a b f : Int) (v : Value) (n : Nat) (X : Nat → Int) (k : Int) (s1 : nm.size ≤ 1099511627776) (s2 : tn.size ≤ 1099511627776) (hn : n ≤ 1099511627776) (hz : rkE nm tn a b f n X = 0) (hk : f ≤ k ∧ k ≤ f + n - 1) (w : World) (hWd : Wd w v n X) :
    Calls Tryz.prog 18 #[.agg #[.string nm, .string tn, .int .i64 a, .int .i64 b, .int .i64 f, v], .int .i64 k] w fun e w' => e = .returned (.tuple #[.int .i64 (k - f), .bool true, .int .i64 0]) ∧ Below w.heap.size w w' := by
  have CK := Lib.hid (fun W h => rcheck_c nm tn a b f v n X s1 s2 hn W h)
  obtain ⟨_, _, _, hf, hn0, hn1, _⟩ := rk_ok hz
  have LA := Lib.hid (fun W h => last_c nm tn a b f v n X hf hn1 W h)
  rw [hz] at CK
  have q1 : ¬ k < f := by omega
  have q2 : ¬ f + (n : Int) - 1 < k := by omega
  have q3 := wrap_in (q := k - f) (by omega) (by omega)
  clear hz hk hf hn0 hn1
  obtain ⟨sa, cp, rfl⟩ := hWd.len
  have hW := Lib.hid hWd
  clear hWd
  obtain ⟨D, hD⟩ : ∃ D, w.heap.size = D := ⟨_, rfl⟩
  go_enter Tryz.func18, Tryz.ntmps18
  have ld1 : (w.alloc (.cells #[.string nm, .string tn, .int .i64 a, .int .i64 b, .int .i64 f, .slice sa n cp] 26)).heap[D]? = some (.cells #[.string nm, .string tn, .int .i64 a, .int .i64 b, .int .i64 f, .slice sa n cp] 26) := (heap_new (by first | omega | (simp; omega)))
  have y1_0 := cell6_0 ld1
  have y1_1 := cell6_1 ld1
  have y1_2 := cell6_2 ld1
  have y1_3 := cell6_3 ld1
  have y1_4 := cell6_4 ld1
  have y1_5 := cell6_5 ld1
  clear ld1
  have W6 : Wd (w.alloc (.cells #[.string nm, .string tn, .int .i64 a, .int .i64 b, .int .i64 f, .slice sa n cp] 26)) (.slice sa n cp) n X := hW.out.below (by first | exact ((Below.refl _ w).alloc (by first | omega | (simp; omega)) (.cells #[.string nm, .string tn, .int .i64 a, .int .i64 b, .int .i64 f, .slice sa n cp] 26)) | (rw [hD]; exact ((Below.refl _ w).alloc (by first | omega | (simp; omega)) (.cells #[.string nm, .string tn, .int .i64 a, .int .i64 b, .int .i64 f, .slice sa n cp] 26))))
  go_wp2_with fail
  refine (CK.out _ W6).mono ?_
  rintro e v2 ⟨rfl, hb_v2⟩
  have cR_v2 : v2.heap[D]? = some (.cells #[.string nm, .string tn, .int .i64 a, .int .i64 b, .int .i64 f, .slice sa n cp] 26) := (hb_v2.block (D) (Array.getElem?_eq_some_iff.1 (show (w.alloc (.cells #[.string nm, .string tn, .int .i64 a, .int .i64 b, .int .i64 f, .slice sa n cp] 26)).heap[D]? = some (.cells #[.string nm, .string tn, .int .i64 a, .int .i64 b, .int .i64 f, .slice sa n cp] 26) from (heap_new (by first | omega | (simp; omega))))).1).trans (heap_new (by first | omega | (simp; omega)))
  have hw_v2 : Below D w v2 := (((Below.refl _ w).alloc (by first | omega | (simp; omega)) (.cells #[.string nm, .string tn, .int .i64 a, .int .i64 b, .int .i64 f, .slice sa n cp] 26))).trans (hb_v2.mono (by first | omega | (simp; omega)))
  clear hb_v2 y1_0 y1_1 y1_2 y1_3 y1_4 y1_5
  have ld3 : v2.heap[D]? = some (.cells #[.string nm, .string tn, .int .i64 a, .int .i64 b, .int .i64 f, .slice sa n cp] 26) := cR_v2
  have y3_0 := cell6_0 ld3
  have y3_1 := cell6_1 ld3
  have y3_2 := cell6_2 ld3
  have y3_3 := cell6_3 ld3
  have y3_4 := cell6_4 ld3
  have y3_5 := cell6_5 ld3
  clear ld3
  have W7 : Wd v2 (.slice sa n cp) n X := hW.out.below (by first | exact hw_v2 | (rw [hD]; exact hw_v2))
  go_wp2_with fail
  refine (LA.out _ W7).mono ?_
  rintro e v4 ⟨rfl, hb_v4⟩
  have hs_v4 := hw_v2.size
  have cR_v4 : v4.heap[D]? = some (.cells #[.string nm, .string tn, .int .i64 a, .int .i64 b, .int .i64 f, .slice sa n cp] 26) := (hb_v4.block (D) (Array.getElem?_eq_some_iff.1 (show v2.heap[D]? = some (.cells #[.string nm, .string tn, .int .i64 a, .int .i64 b, .int .i64 f, .slice sa n cp] 26) from cR_v2)).1).trans cR_v2
  have hw_v4 : Below D w v4 := (hw_v2).trans (hb_v4.mono (by first | omega | (simp; omega)))
  clear cR_v2 hb_v4 y3_0 y3_1 y3_2 y3_3 y3_4 y3_5 hw_v2 hs_v4
  have ld5 : v4.heap[D]? = some (.cells #[.string nm, .string tn, .int .i64 a, .int .i64 b, .int .i64 f, .slice sa n cp] 26) := cR_v4
  have y5_0 := cell6_0 ld5
  have y5_1 := cell6_1 ld5
  have y5_2 := cell6_2 ld5
  have y5_3 := cell6_3 ld5
  have y5_4 := cell6_4 ld5
  have y5_5 := cell6_5 ld5
  clear ld5
  have HW := Lib.hid (hw_v4)
  go_wp2
  go_ret3
  exact ⟨rfl, by first | exact HW.out | (rw [hD]; exact HW.out)⟩

set_option maxRecDepth 100000 in
set_option maxHeartbeats 4000000 in
theorem number_low (nm tn : ByteArray) (a b f : Int) (v : Value) (n : Nat) (X : Nat → Int) (k : Int) (s1 : nm.size ≤ 1099511627776) (s2 : tn.size ≤ 1099511627776) (hn : n ≤ 1099511627776) (hz : rkE nm tn a b f n X = 0) (hk : k < f) (w : World) (hWd : Wd w v n X) :
    Calls Tryz.prog 18 #[.agg #[.string nm, .string tn, .int .i64 a, .int .i64 b, .int .i64 f, v], .int .i64 k] w fun e w' => e = .returned (.tuple #[.int .i64 0, .bool false, .int .i64 0]) ∧ Below w.heap.size w w' := by
  have CK := Lib.hid (fun W h => rcheck_c nm tn a b f v n X s1 s2 hn W h)
  rw [hz] at CK
  clear hz
  obtain ⟨sa, cp, rfl⟩ := hWd.len
  have hW := Lib.hid hWd
  clear hWd
  obtain ⟨D, hD⟩ : ∃ D, w.heap.size = D := ⟨_, rfl⟩
  go_enter Tryz.func18, Tryz.ntmps18
  have ld1 : (w.alloc (.cells #[.string nm, .string tn, .int .i64 a, .int .i64 b, .int .i64 f, .slice sa n cp] 26)).heap[D]? = some (.cells #[.string nm, .string tn, .int .i64 a, .int .i64 b, .int .i64 f, .slice sa n cp] 26) := (heap_new (by first | omega | (simp; omega)))
  have y1_0 := cell6_0 ld1
  have y1_1 := cell6_1 ld1
  have y1_2 := cell6_2 ld1
  have y1_3 := cell6_3 ld1
  have y1_4 := cell6_4 ld1
  have y1_5 := cell6_5 ld1
  clear ld1
  have W8 : Wd (w.alloc (.cells #[.string nm, .string tn, .int .i64 a, .int .i64 b, .int .i64 f, .slice sa n cp] 26)) (.slice sa n cp) n X := hW.out.below (by first | exact ((Below.refl _ w).alloc (by first | omega | (simp; omega)) (.cells #[.string nm, .string tn, .int .i64 a, .int .i64 b, .int .i64 f, .slice sa n cp] 26)) | (rw [hD]; exact ((Below.refl _ w).alloc (by first | omega | (simp; omega)) (.cells #[.string nm, .string tn, .int .i64 a, .int .i64 b, .int .i64 f, .slice sa n cp] 26))))
  go_wp2_with fail
  refine (CK.out _ W8).mono ?_
  rintro e v2 ⟨rfl, hb_v2⟩
  have cR_v2 : v2.heap[D]? = some (.cells #[.string nm, .string tn, .int .i64 a, .int .i64 b, .int .i64 f, .slice sa n cp] 26) := (hb_v2.block (D) (Array.getElem?_eq_some_iff.1 (show (w.alloc (.cells #[.string nm, .string tn, .int .i64 a, .int .i64 b, .int .i64 f, .slice sa n cp] 26)).heap[D]? = some (.cells #[.string nm, .string tn, .int .i64 a, .int .i64 b, .int .i64 f, .slice sa n cp] 26) from (heap_new (by first | omega | (simp; omega))))).1).trans (heap_new (by first | omega | (simp; omega)))
  have hw_v2 : Below D w v2 := (((Below.refl _ w).alloc (by first | omega | (simp; omega)) (.cells #[.string nm, .string tn, .int .i64 a, .int .i64 b, .int .i64 f, .slice sa n cp] 26))).trans (hb_v2.mono (by first | omega | (simp; omega)))
  clear hb_v2 y1_0 y1_1 y1_2 y1_3 y1_4 y1_5
  have ld3 : v2.heap[D]? = some (.cells #[.string nm, .string tn, .int .i64 a, .int .i64 b, .int .i64 f, .slice sa n cp] 26) := cR_v2
  have y3_0 := cell6_0 ld3
  have y3_1 := cell6_1 ld3
  have y3_2 := cell6_2 ld3
  have y3_3 := cell6_3 ld3
  have y3_4 := cell6_4 ld3
  have y3_5 := cell6_5 ld3
  clear ld3
  have HW := Lib.hid (hw_v2)
  go_wp2
  go_ret3
  exact ⟨rfl, by first | exact HW.out | (rw [hD]; exact HW.out)⟩

set_option maxRecDepth 100000 in
set_option maxHeartbeats 4000000 in
theorem number_high (nm tn : ByteArray) (a b f : Int) (v : Value) (n : Nat) (X : Nat → Int) (k : Int) (s1 : nm.size ≤ 1099511627776) (s2 : tn.size ≤ 1099511627776) (hn : n ≤ 1099511627776) (hz : rkE nm tn a b f n X = 0) (hk : f + n - 1 < k) (w : World) (hWd : Wd w v n X) :
    Calls Tryz.prog 18 #[.agg #[.string nm, .string tn, .int .i64 a, .int .i64 b, .int .i64 f, v], .int .i64 k] w fun e w' => e = .returned (.tuple #[.int .i64 0, .bool false, .int .i64 0]) ∧ Below w.heap.size w w' := by
  have CK := Lib.hid (fun W h => rcheck_c nm tn a b f v n X s1 s2 hn W h)
  obtain ⟨_, _, _, hf, hn0, hn1, _⟩ := rk_ok hz
  have LA := Lib.hid (fun W h => last_c nm tn a b f v n X hf hn1 W h)
  rw [hz] at CK
  have q1 : ¬ k < f := by omega
  have q2 : f + (n : Int) - 1 < k := by omega
  clear hz hk hf hn0 hn1
  obtain ⟨sa, cp, rfl⟩ := hWd.len
  have hW := Lib.hid hWd
  clear hWd
  obtain ⟨D, hD⟩ : ∃ D, w.heap.size = D := ⟨_, rfl⟩
  go_enter Tryz.func18, Tryz.ntmps18
  have ld1 : (w.alloc (.cells #[.string nm, .string tn, .int .i64 a, .int .i64 b, .int .i64 f, .slice sa n cp] 26)).heap[D]? = some (.cells #[.string nm, .string tn, .int .i64 a, .int .i64 b, .int .i64 f, .slice sa n cp] 26) := (heap_new (by first | omega | (simp; omega)))
  have y1_0 := cell6_0 ld1
  have y1_1 := cell6_1 ld1
  have y1_2 := cell6_2 ld1
  have y1_3 := cell6_3 ld1
  have y1_4 := cell6_4 ld1
  have y1_5 := cell6_5 ld1
  clear ld1
  have W9 : Wd (w.alloc (.cells #[.string nm, .string tn, .int .i64 a, .int .i64 b, .int .i64 f, .slice sa n cp] 26)) (.slice sa n cp) n X := hW.out.below (by first | exact ((Below.refl _ w).alloc (by first | omega | (simp; omega)) (.cells #[.string nm, .string tn, .int .i64 a, .int .i64 b, .int .i64 f, .slice sa n cp] 26)) | (rw [hD]; exact ((Below.refl _ w).alloc (by first | omega | (simp; omega)) (.cells #[.string nm, .string tn, .int .i64 a, .int .i64 b, .int .i64 f, .slice sa n cp] 26))))
  go_wp2_with fail
  refine (CK.out _ W9).mono ?_
  rintro e v2 ⟨rfl, hb_v2⟩
  have cR_v2 : v2.heap[D]? = some (.cells #[.string nm, .string tn, .int .i64 a, .int .i64 b, .int .i64 f, .slice sa n cp] 26) := (hb_v2.block (D) (Array.getElem?_eq_some_iff.1 (show (w.alloc (.cells #[.string nm, .string tn, .int .i64 a, .int .i64 b, .int .i64 f, .slice sa n cp] 26)).heap[D]? = some (.cells #[.string nm, .string tn, .int .i64 a, .int .i64 b, .int .i64 f, .slice sa n cp] 26) from (heap_new (by first | omega | (simp; omega))))).1).trans (heap_new (by first | omega | (simp; omega)))
  have hw_v2 : Below D w v2 := (((Below.refl _ w).alloc (by first | omega | (simp; omega)) (.cells #[.string nm, .string tn, .int .i64 a, .int .i64 b, .int .i64 f, .slice sa n cp] 26))).trans (hb_v2.mono (by first | omega | (simp; omega)))
  clear hb_v2 y1_0 y1_1 y1_2 y1_3 y1_4 y1_5
  have ld3 : v2.heap[D]? = some (.cells #[.string nm, .string tn, .int .i64 a, .int .i64 b, .int .i64 f, .slice sa n cp] 26) := cR_v2
  have y3_0 := cell6_0 ld3
  have y3_1 := cell6_1 ld3
  have y3_2 := cell6_2 ld3
  have y3_3 := cell6_3 ld3
  have y3_4 := cell6_4 ld3
  have y3_5 := cell6_5 ld3
  clear ld3
  have W10 : Wd v2 (.slice sa n cp) n X := hW.out.below (by first | exact hw_v2 | (rw [hD]; exact hw_v2))
  go_wp2_with fail
  refine (LA.out _ W10).mono ?_
  rintro e v4 ⟨rfl, hb_v4⟩
  have hs_v4 := hw_v2.size
  have cR_v4 : v4.heap[D]? = some (.cells #[.string nm, .string tn, .int .i64 a, .int .i64 b, .int .i64 f, .slice sa n cp] 26) := (hb_v4.block (D) (Array.getElem?_eq_some_iff.1 (show v2.heap[D]? = some (.cells #[.string nm, .string tn, .int .i64 a, .int .i64 b, .int .i64 f, .slice sa n cp] 26) from cR_v2)).1).trans cR_v2
  have hw_v4 : Below D w v4 := (hw_v2).trans (hb_v4.mono (by first | omega | (simp; omega)))
  clear cR_v2 hb_v4 y3_0 y3_1 y3_2 y3_3 y3_4 y3_5 hw_v2 hs_v4
  have HW := Lib.hid (hw_v4)
  go_wp2
  go_ret3
  exact ⟨rfl, by first | exact HW.out | (rw [hD]; exact HW.out)⟩

set_option maxRecDepth 100000 in
set_option maxHeartbeats 4000000 in
theorem sound_yes (nm tn : ByteArray) (a b f : Int) (v : Value) (n : Nat) (X : Nat → Int) (k s : Int) (s1 : nm.size ≤ 1099511627776) (s2 : tn.size ≤ 1099511627776) (hn : n ≤ 1099511627776) (hz : rkE nm tn a b f n X = 0) (hk : 0 ≤ k ∧ k < n) (hs : ShI (8 * b) (1 * a) s) (hb : 0 ≤ f + k + s ∧ f + k + s ≤ 127) (w : World) (hWd : Wd w v n X) (G : Gi w) :
    Calls Tryz.prog 23 #[.agg #[.string nm, .string tn, .int .i64 a, .int .i64 b, .int .i64 f, v], .int .i64 k] w fun e w' => e = .returned (.tuple #[.int .i64 (f + k + s), .bool true, .int .i64 0]) ∧ Below w.heap.size w w' := by
  obtain ⟨_, _, hp, hf, hn0, hn1, _⟩ := rk_ok hz
  obtain ⟨_, p1, p2, p3, p4, _⟩ := pk_ok hp
  have bs := sh_of_eq hs (by omega) (by omega) (by omega) (by omega)
  have SH := Lib.hid (fun W G => pshift_ok a b 8 1 s hp (by decide +kernel) hs W G)
  have CP := Lib.hid (fun W h => cpipe_ok nm tn a b f v n X k s1 s2 hn hz hk W h)
  have q1 := wrap_in (q := f + k) (by omega) (by omega)
  have q2 := wrap_in (q := f + k + s) (by omega) (by omega)
  have q3 : ¬ f + k + s < 0 := by omega
  have q4 : ¬ 127 < f + k + s := by omega
  clear hb hz hk hs bs hp hf hn0 hn1 p1 p2 p3 p4
  obtain ⟨sa, cp, rfl⟩ := hWd.len
  have hW := Lib.hid hWd
  clear hWd
  obtain ⟨D, hD⟩ : ∃ D, w.heap.size = D := ⟨_, rfl⟩
  go_enter Tryz.func23, Tryz.ntmps23
  have ld1 : (w.alloc (.cells #[.string nm, .string tn, .int .i64 a, .int .i64 b, .int .i64 f, .slice sa n cp] 26)).heap[D]? = some (.cells #[.string nm, .string tn, .int .i64 a, .int .i64 b, .int .i64 f, .slice sa n cp] 26) := (heap_new (by first | omega | (simp; omega)))
  have y1_0 := cell6_0 ld1
  have y1_1 := cell6_1 ld1
  have y1_2 := cell6_2 ld1
  have y1_3 := cell6_3 ld1
  have y1_4 := cell6_4 ld1
  have y1_5 := cell6_5 ld1
  clear ld1
  have W11 : Wd (w.alloc (.cells #[.string nm, .string tn, .int .i64 a, .int .i64 b, .int .i64 f, .slice sa n cp] 26)) (.slice sa n cp) n X := hW.out.below (by first | exact ((Below.refl _ w).alloc (by first | omega | (simp; omega)) (.cells #[.string nm, .string tn, .int .i64 a, .int .i64 b, .int .i64 f, .slice sa n cp] 26)) | (rw [hD]; exact ((Below.refl _ w).alloc (by first | omega | (simp; omega)) (.cells #[.string nm, .string tn, .int .i64 a, .int .i64 b, .int .i64 f, .slice sa n cp] 26))))
  go_wp2_with fail
  refine (CP.out _ W11).mono ?_
  rintro e v2 ⟨rfl, hb_v2⟩
  have cR_v2 : v2.heap[D]? = some (.cells #[.string nm, .string tn, .int .i64 a, .int .i64 b, .int .i64 f, .slice sa n cp] 26) := (hb_v2.block (D) (Array.getElem?_eq_some_iff.1 (show (w.alloc (.cells #[.string nm, .string tn, .int .i64 a, .int .i64 b, .int .i64 f, .slice sa n cp] 26)).heap[D]? = some (.cells #[.string nm, .string tn, .int .i64 a, .int .i64 b, .int .i64 f, .slice sa n cp] 26) from (heap_new (by first | omega | (simp; omega))))).1).trans (heap_new (by first | omega | (simp; omega)))
  have hw_v2 : Below D w v2 := (((Below.refl _ w).alloc (by first | omega | (simp; omega)) (.cells #[.string nm, .string tn, .int .i64 a, .int .i64 b, .int .i64 f, .slice sa n cp] 26))).trans (hb_v2.mono (by first | omega | (simp; omega)))
  clear hb_v2 y1_0 y1_1 y1_2 y1_3 y1_4 y1_5
  have ld3 : v2.heap[D]? = some (.cells #[.string nm, .string tn, .int .i64 a, .int .i64 b, .int .i64 f, .slice sa n cp] 26) := cR_v2
  have y3_0 := cell6_0 ld3
  have y3_1 := cell6_1 ld3
  have y3_2 := cell6_2 ld3
  have y3_3 := cell6_3 ld3
  have y3_4 := cell6_4 ld3
  have y3_5 := cell6_5 ld3
  clear ld3
  have G12 : Gi v2 := G.below (by first | exact hw_v2 | (rw [hD]; exact hw_v2))
  go_wp2_with fail
  refine (SH.out _ G12).mono ?_
  rintro e v4 ⟨rfl, hb_v4⟩
  have hs_v4 := hw_v2.size
  have cR_v4 : v4.heap[D]? = some (.cells #[.string nm, .string tn, .int .i64 a, .int .i64 b, .int .i64 f, .slice sa n cp] 26) := (hb_v4.block (D) (Array.getElem?_eq_some_iff.1 (show v2.heap[D]? = some (.cells #[.string nm, .string tn, .int .i64 a, .int .i64 b, .int .i64 f, .slice sa n cp] 26) from cR_v2)).1).trans cR_v2
  have hw_v4 : Below D w v4 := (hw_v2).trans (hb_v4.mono (by first | omega | (simp; omega)))
  clear cR_v2 hb_v4 y3_0 y3_1 y3_2 y3_3 y3_4 y3_5 hw_v2 hs_v4
  have ld5 : v4.heap[D]? = some (.cells #[.string nm, .string tn, .int .i64 a, .int .i64 b, .int .i64 f, .slice sa n cp] 26) := cR_v4
  have y5_0 := cell6_0 ld5
  have y5_1 := cell6_1 ld5
  have y5_2 := cell6_2 ld5
  have y5_3 := cell6_3 ld5
  have y5_4 := cell6_4 ld5
  have y5_5 := cell6_5 ld5
  clear ld5
  have HW := Lib.hid (hw_v4)
  go_wp2
  go_ret3
  exact ⟨rfl, by first | exact HW.out | (rw [hD]; exact HW.out)⟩

set_option maxRecDepth 100000 in
set_option maxHeartbeats 4000000 in
theorem sound_no (nm tn : ByteArray) (a b f : Int) (v : Value) (n : Nat) (X : Nat → Int) (k s : Int) (s1 : nm.size ≤ 1099511627776) (s2 : tn.size ≤ 1099511627776) (hn : n ≤ 1099511627776) (hz : rkE nm tn a b f n X = 0) (hk : 0 ≤ k ∧ k < n) (hs : ShI (8 * b) (1 * a) s) (hb : ¬ (0 ≤ f + k + s ∧ f + k + s ≤ 127)) (w : World) (hWd : Wd w v n X) (G : Gi w) :
    Calls Tryz.prog 23 #[.agg #[.string nm, .string tn, .int .i64 a, .int .i64 b, .int .i64 f, v], .int .i64 k] w fun e w' => e = .returned (.tuple #[.int .i64 0, .bool false, .int .i64 0]) ∧ Below w.heap.size w w' := by
  obtain ⟨_, _, hp, hf, hn0, hn1, _⟩ := rk_ok hz
  obtain ⟨_, p1, p2, p3, p4, _⟩ := pk_ok hp
  have bs := sh_of_eq hs (by omega) (by omega) (by omega) (by omega)
  have SH := Lib.hid (fun W G => pshift_ok a b 8 1 s hp (by decide +kernel) hs W G)
  have CP := Lib.hid (fun W h => cpipe_ok nm tn a b f v n X k s1 s2 hn hz hk W h)
  have q1 := wrap_in (q := f + k) (by omega) (by omega)
  have q2 := wrap_in (q := f + k + s) (by omega) (by omega)
  clear hz hk hs bs hp hf hn0 hn1 p1 p2 p3 p4
  obtain ⟨sa, cp, rfl⟩ := hWd.len
  have hW := Lib.hid hWd
  clear hWd
  obtain ⟨D, hD⟩ : ∃ D, w.heap.size = D := ⟨_, rfl⟩
  rcases (show f + k + s < 0 ∨ (¬ f + k + s < 0 ∧ 127 < f + k + s) by omega) with q3 | ⟨q3, q4⟩
  · skip
    go_enter Tryz.func23, Tryz.ntmps23
    have ld1 : (w.alloc (.cells #[.string nm, .string tn, .int .i64 a, .int .i64 b, .int .i64 f, .slice sa n cp] 26)).heap[D]? = some (.cells #[.string nm, .string tn, .int .i64 a, .int .i64 b, .int .i64 f, .slice sa n cp] 26) := (heap_new (by first | omega | (simp; omega)))
    have y1_0 := cell6_0 ld1
    have y1_1 := cell6_1 ld1
    have y1_2 := cell6_2 ld1
    have y1_3 := cell6_3 ld1
    have y1_4 := cell6_4 ld1
    have y1_5 := cell6_5 ld1
    clear ld1
    have W13 : Wd (w.alloc (.cells #[.string nm, .string tn, .int .i64 a, .int .i64 b, .int .i64 f, .slice sa n cp] 26)) (.slice sa n cp) n X := hW.out.below (by first | exact ((Below.refl _ w).alloc (by first | omega | (simp; omega)) (.cells #[.string nm, .string tn, .int .i64 a, .int .i64 b, .int .i64 f, .slice sa n cp] 26)) | (rw [hD]; exact ((Below.refl _ w).alloc (by first | omega | (simp; omega)) (.cells #[.string nm, .string tn, .int .i64 a, .int .i64 b, .int .i64 f, .slice sa n cp] 26))))
    go_wp2_with fail
    refine (CP.out _ W13).mono ?_
    rintro e v2 ⟨rfl, hb_v2⟩
    have cR_v2 : v2.heap[D]? = some (.cells #[.string nm, .string tn, .int .i64 a, .int .i64 b, .int .i64 f, .slice sa n cp] 26) := (hb_v2.block (D) (Array.getElem?_eq_some_iff.1 (show (w.alloc (.cells #[.string nm, .string tn, .int .i64 a, .int .i64 b, .int .i64 f, .slice sa n cp] 26)).heap[D]? = some (.cells #[.string nm, .string tn, .int .i64 a, .int .i64 b, .int .i64 f, .slice sa n cp] 26) from (heap_new (by first | omega | (simp; omega))))).1).trans (heap_new (by first | omega | (simp; omega)))
    have hw_v2 : Below D w v2 := (((Below.refl _ w).alloc (by first | omega | (simp; omega)) (.cells #[.string nm, .string tn, .int .i64 a, .int .i64 b, .int .i64 f, .slice sa n cp] 26))).trans (hb_v2.mono (by first | omega | (simp; omega)))
    clear hb_v2 y1_0 y1_1 y1_2 y1_3 y1_4 y1_5
    have ld3 : v2.heap[D]? = some (.cells #[.string nm, .string tn, .int .i64 a, .int .i64 b, .int .i64 f, .slice sa n cp] 26) := cR_v2
    have y3_0 := cell6_0 ld3
    have y3_1 := cell6_1 ld3
    have y3_2 := cell6_2 ld3
    have y3_3 := cell6_3 ld3
    have y3_4 := cell6_4 ld3
    have y3_5 := cell6_5 ld3
    clear ld3
    have G14 : Gi v2 := G.below (by first | exact hw_v2 | (rw [hD]; exact hw_v2))
    go_wp2_with fail
    refine (SH.out _ G14).mono ?_
    rintro e v4 ⟨rfl, hb_v4⟩
    have hs_v4 := hw_v2.size
    have cR_v4 : v4.heap[D]? = some (.cells #[.string nm, .string tn, .int .i64 a, .int .i64 b, .int .i64 f, .slice sa n cp] 26) := (hb_v4.block (D) (Array.getElem?_eq_some_iff.1 (show v2.heap[D]? = some (.cells #[.string nm, .string tn, .int .i64 a, .int .i64 b, .int .i64 f, .slice sa n cp] 26) from cR_v2)).1).trans cR_v2
    have hw_v4 : Below D w v4 := (hw_v2).trans (hb_v4.mono (by first | omega | (simp; omega)))
    clear cR_v2 hb_v4 y3_0 y3_1 y3_2 y3_3 y3_4 y3_5 hw_v2 hs_v4
    have ld5 : v4.heap[D]? = some (.cells #[.string nm, .string tn, .int .i64 a, .int .i64 b, .int .i64 f, .slice sa n cp] 26) := cR_v4
    have y5_0 := cell6_0 ld5
    have y5_1 := cell6_1 ld5
    have y5_2 := cell6_2 ld5
    have y5_3 := cell6_3 ld5
    have y5_4 := cell6_4 ld5
    have y5_5 := cell6_5 ld5
    clear ld5
    have HW := Lib.hid (hw_v4)
    go_wp2
    go_ret3
    exact ⟨rfl, by first | exact HW.out | (rw [hD]; exact HW.out)⟩
  · skip
    go_enter Tryz.func23, Tryz.ntmps23
    have ld1 : (w.alloc (.cells #[.string nm, .string tn, .int .i64 a, .int .i64 b, .int .i64 f, .slice sa n cp] 26)).heap[D]? = some (.cells #[.string nm, .string tn, .int .i64 a, .int .i64 b, .int .i64 f, .slice sa n cp] 26) := (heap_new (by first | omega | (simp; omega)))
    have y1_0 := cell6_0 ld1
    have y1_1 := cell6_1 ld1
    have y1_2 := cell6_2 ld1
    have y1_3 := cell6_3 ld1
    have y1_4 := cell6_4 ld1
    have y1_5 := cell6_5 ld1
    clear ld1
    have W15 : Wd (w.alloc (.cells #[.string nm, .string tn, .int .i64 a, .int .i64 b, .int .i64 f, .slice sa n cp] 26)) (.slice sa n cp) n X := hW.out.below (by first | exact ((Below.refl _ w).alloc (by first | omega | (simp; omega)) (.cells #[.string nm, .string tn, .int .i64 a, .int .i64 b, .int .i64 f, .slice sa n cp] 26)) | (rw [hD]; exact ((Below.refl _ w).alloc (by first | omega | (simp; omega)) (.cells #[.string nm, .string tn, .int .i64 a, .int .i64 b, .int .i64 f, .slice sa n cp] 26))))
    go_wp2_with fail
    refine (CP.out _ W15).mono ?_
    rintro e v2 ⟨rfl, hb_v2⟩
    have cR_v2 : v2.heap[D]? = some (.cells #[.string nm, .string tn, .int .i64 a, .int .i64 b, .int .i64 f, .slice sa n cp] 26) := (hb_v2.block (D) (Array.getElem?_eq_some_iff.1 (show (w.alloc (.cells #[.string nm, .string tn, .int .i64 a, .int .i64 b, .int .i64 f, .slice sa n cp] 26)).heap[D]? = some (.cells #[.string nm, .string tn, .int .i64 a, .int .i64 b, .int .i64 f, .slice sa n cp] 26) from (heap_new (by first | omega | (simp; omega))))).1).trans (heap_new (by first | omega | (simp; omega)))
    have hw_v2 : Below D w v2 := (((Below.refl _ w).alloc (by first | omega | (simp; omega)) (.cells #[.string nm, .string tn, .int .i64 a, .int .i64 b, .int .i64 f, .slice sa n cp] 26))).trans (hb_v2.mono (by first | omega | (simp; omega)))
    clear hb_v2 y1_0 y1_1 y1_2 y1_3 y1_4 y1_5
    have ld3 : v2.heap[D]? = some (.cells #[.string nm, .string tn, .int .i64 a, .int .i64 b, .int .i64 f, .slice sa n cp] 26) := cR_v2
    have y3_0 := cell6_0 ld3
    have y3_1 := cell6_1 ld3
    have y3_2 := cell6_2 ld3
    have y3_3 := cell6_3 ld3
    have y3_4 := cell6_4 ld3
    have y3_5 := cell6_5 ld3
    clear ld3
    have G16 : Gi v2 := G.below (by first | exact hw_v2 | (rw [hD]; exact hw_v2))
    go_wp2_with fail
    refine (SH.out _ G16).mono ?_
    rintro e v4 ⟨rfl, hb_v4⟩
    have hs_v4 := hw_v2.size
    have cR_v4 : v4.heap[D]? = some (.cells #[.string nm, .string tn, .int .i64 a, .int .i64 b, .int .i64 f, .slice sa n cp] 26) := (hb_v4.block (D) (Array.getElem?_eq_some_iff.1 (show v2.heap[D]? = some (.cells #[.string nm, .string tn, .int .i64 a, .int .i64 b, .int .i64 f, .slice sa n cp] 26) from cR_v2)).1).trans cR_v2
    have hw_v4 : Below D w v4 := (hw_v2).trans (hb_v4.mono (by first | omega | (simp; omega)))
    clear cR_v2 hb_v4 y3_0 y3_1 y3_2 y3_3 y3_4 y3_5 hw_v2 hs_v4
    have ld5 : v4.heap[D]? = some (.cells #[.string nm, .string tn, .int .i64 a, .int .i64 b, .int .i64 f, .slice sa n cp] 26) := cR_v4
    have y5_0 := cell6_0 ld5
    have y5_1 := cell6_1 ld5
    have y5_2 := cell6_2 ld5
    have y5_3 := cell6_3 ld5
    have y5_4 := cell6_4 ld5
    have y5_5 := cell6_5 ld5
    clear ld5
    have HW := Lib.hid (hw_v4)
    go_wp2
    go_ret3
    exact ⟨rfl, by first | exact HW.out | (rw [hD]; exact HW.out)⟩

set_option maxRecDepth 100000 in
set_option maxHeartbeats 4000000 in
theorem sound_bad (nm tn : ByteArray) (a b f : Int) (v : Value) (n : Nat) (X : Nat → Int) (k z : Int) (s1 : nm.size ≤ 1099511627776) (s2 : tn.size ≤ 1099511627776) (hn : n ≤ 1099511627776) (hz : rkE nm tn a b f n X = z) (hne : ¬ z = 0) (w : World) (hWd : Wd w v n X) :
    Calls Tryz.prog 23 #[.agg #[.string nm, .string tn, .int .i64 a, .int .i64 b, .int .i64 f, v], .int .i64 k] w fun e w' => e = .returned (.tuple #[.int .i64 0, .bool false, .int .i64 z]) ∧ Below w.heap.size w w' := by
  have CP := Lib.hid (fun W h => cpipe_bad nm tn a b f v n X k z s1 s2 hn hz hne W h)
  clear hz
  obtain ⟨sa, cp, rfl⟩ := hWd.len
  have hW := Lib.hid hWd
  clear hWd
  obtain ⟨D, hD⟩ : ∃ D, w.heap.size = D := ⟨_, rfl⟩
  go_enter Tryz.func23, Tryz.ntmps23
  have ld1 : (w.alloc (.cells #[.string nm, .string tn, .int .i64 a, .int .i64 b, .int .i64 f, .slice sa n cp] 26)).heap[D]? = some (.cells #[.string nm, .string tn, .int .i64 a, .int .i64 b, .int .i64 f, .slice sa n cp] 26) := (heap_new (by first | omega | (simp; omega)))
  have y1_0 := cell6_0 ld1
  have y1_1 := cell6_1 ld1
  have y1_2 := cell6_2 ld1
  have y1_3 := cell6_3 ld1
  have y1_4 := cell6_4 ld1
  have y1_5 := cell6_5 ld1
  clear ld1
  have W17 : Wd (w.alloc (.cells #[.string nm, .string tn, .int .i64 a, .int .i64 b, .int .i64 f, .slice sa n cp] 26)) (.slice sa n cp) n X := hW.out.below (by first | exact ((Below.refl _ w).alloc (by first | omega | (simp; omega)) (.cells #[.string nm, .string tn, .int .i64 a, .int .i64 b, .int .i64 f, .slice sa n cp] 26)) | (rw [hD]; exact ((Below.refl _ w).alloc (by first | omega | (simp; omega)) (.cells #[.string nm, .string tn, .int .i64 a, .int .i64 b, .int .i64 f, .slice sa n cp] 26))))
  go_wp2_with fail
  refine (CP.out _ W17).mono ?_
  rintro e v2 ⟨rfl, hb_v2⟩
  have cR_v2 : v2.heap[D]? = some (.cells #[.string nm, .string tn, .int .i64 a, .int .i64 b, .int .i64 f, .slice sa n cp] 26) := (hb_v2.block (D) (Array.getElem?_eq_some_iff.1 (show (w.alloc (.cells #[.string nm, .string tn, .int .i64 a, .int .i64 b, .int .i64 f, .slice sa n cp] 26)).heap[D]? = some (.cells #[.string nm, .string tn, .int .i64 a, .int .i64 b, .int .i64 f, .slice sa n cp] 26) from (heap_new (by first | omega | (simp; omega))))).1).trans (heap_new (by first | omega | (simp; omega)))
  have hw_v2 : Below D w v2 := (((Below.refl _ w).alloc (by first | omega | (simp; omega)) (.cells #[.string nm, .string tn, .int .i64 a, .int .i64 b, .int .i64 f, .slice sa n cp] 26))).trans (hb_v2.mono (by first | omega | (simp; omega)))
  clear hb_v2 y1_0 y1_1 y1_2 y1_3 y1_4 y1_5
  have HW := Lib.hid (hw_v2)
  go_wp2
  go_ret3
  exact ⟨rfl, by first | exact HW.out | (rw [hD]; exact HW.out)⟩
end Go.Proofs.YtbkbncapgljfaaaGreatDoor
