/- FractionLaws: under way. -/
import Derived.Test.YtoeacbmlodfciaaDoorFracQ
import Derived.Test.YtoeacbmlodfciaaDoorFracV
import Derived.Test.YtoeacbmlodfciaaDoorNsBx
namespace Go.Proofs.YtoeacbmlodfciaaDoor
open Go.RowKit


theorem n_ne2 (n : Nat) : (n = n + 1 + 1) = False := eq_false (by omega)
theorem n_ne2' (n : Nat) : (n + 1 + 1 = n) = False := eq_false (by omega)
theorem n_lt2 (n : Nat) : (n < n + 1 + 1) = True := eq_true (by omega)


/-- What the operations of 'x, y, z := Make(s), Make(t), Make(u)' yield. -/
def lawInv (p q r s t u a b c d f g : Int) (j : Nat) (v : Value) : Prop :=
  match j with
  | 0 => v = .agg #[.int .i16 p, .int .u8 q]
  | 1 => v = .agg #[.int .i64 a, .int .i64 b]
  | 2 => v = .agg #[.int .i16 r, .int .u8 s]
  | 3 => v = .agg #[.int .i64 c, .int .i64 d]
  | 4 => v = .agg #[.int .i16 t, .int .u8 u]
  | 5 => v = .agg #[.int .i64 f, .int .i64 g]
  | _ => True
def lawV0 (a c f : Int) (i : Nat) : Value := .int .i64 (match i with | 0 => a | 1 => c | _ => f)
def lawV1 (b d g : Int) (i : Nat) : Value := .int .i64 (match i with | 0 => b | 1 => d | _ => g)
set_option maxRecDepth 100000 in
set_option maxHeartbeats 40000000 in
theorem laws_core (p q r s t u a b c d f g a1 a2 ae m1 m2 me s1 s2 se t1 t2 te n v1 b1 b2 be v3 v4 : Int) (w : World)
    (hX : ∀ W : World, Calls Tryd.prog 10 #[.agg #[.int .i16 p, .int .u8 q]] W fun e w' => e = .returned (.agg #[.int .i64 a, .int .i64 b]) ∧ Below W.heap.size W w')
    (hY : ∀ W : World, Calls Tryd.prog 10 #[.agg #[.int .i16 r, .int .u8 s]] W fun e w' => e = .returned (.agg #[.int .i64 c, .int .i64 d]) ∧ Below W.heap.size W w')
    (hZ : ∀ W : World, Calls Tryd.prog 10 #[.agg #[.int .i16 t, .int .u8 u]] W fun e w' => e = .returned (.agg #[.int .i64 f, .int .i64 g]) ∧ Below W.heap.size W w')
    (hA : ∀ W : World, Calls Tryd.prog 11 #[.agg #[.int .i64 a, .int .i64 b], .agg #[.int .i64 c, .int .i64 d]] W fun e w' => e = .returned (.tuple #[.agg #[.int .i64 a1, .int .i64 a2], .int .i64 ae]) ∧ Below W.heap.size W w')
    (hA' : ∀ W : World, Calls Tryd.prog 11 #[.agg #[.int .i64 c, .int .i64 d], .agg #[.int .i64 a, .int .i64 b]] W fun e w' => e = .returned (.tuple #[.agg #[.int .i64 a1, .int .i64 a2], .int .i64 ae]) ∧ Below W.heap.size W w')
    (hM : ∀ W : World, Calls Tryd.prog 12 #[.agg #[.int .i64 a, .int .i64 b], .agg #[.int .i64 c, .int .i64 d]] W fun e w' => e = .returned (.tuple #[.agg #[.int .i64 m1, .int .i64 m2], .int .i64 me]) ∧ Below W.heap.size W w')
    (hM' : ∀ W : World, Calls Tryd.prog 12 #[.agg #[.int .i64 c, .int .i64 d], .agg #[.int .i64 a, .int .i64 b]] W fun e w' => e = .returned (.tuple #[.agg #[.int .i64 m1, .int .i64 m2], .int .i64 me]) ∧ Below W.heap.size W w')
    (hS : ∀ W : World, Calls Tryd.prog 13 #[.agg #[.int .i64 a1, .int .i64 a2], .agg #[.int .i64 c, .int .i64 d]] W fun e w' => e = .returned (.tuple #[.agg #[.int .i64 s1, .int .i64 s2], .int .i64 se]) ∧ Below W.heap.size W w')
    (hD : ∀ W : World, Calls Tryd.prog 14 #[.agg #[.int .i64 m1, .int .i64 m2], .agg #[.int .i64 c, .int .i64 d]] W fun e w' => e = .returned (.tuple #[.agg #[.int .i64 t1, .int .i64 t2], .int .i64 te]) ∧ Below W.heap.size W w')
    (hF : ∀ W : World, Calls Tryd.prog 15 #[.agg #[.int .i64 a, .int .i64 b]] W fun e w' => e = .returned (.tuple #[.int .i64 n, .int .i64 0]) ∧ Below W.heap.size W w')
    (hW : ∀ W : World, Calls Tryd.prog 16 #[.int .i64 n] W fun e w' => e = .returned (.tuple #[.agg #[.int .i64 n, .int .i64 1], .int .i64 0]) ∧ Below W.heap.size W w')
    (hV : ∀ W : World, Calls Tryd.prog 16 #[.int .i64 (n + 1)] W fun e w' => e = .returned (.tuple #[.agg #[.int .i64 (n + 1), .int .i64 1], .int .i64 0]) ∧ Below W.heap.size W w')
    (hC1 : ∀ W : World, Calls Tryd.prog 17 #[.agg #[.int .i64 n, .int .i64 1], .agg #[.int .i64 a, .int .i64 b]] W fun e w' => e = .returned (.tuple #[.int .i64 v1, .int .i64 0]) ∧ Below W.heap.size W w')
    (hC2 : ∀ W : World, Calls Tryd.prog 17 #[.agg #[.int .i64 a, .int .i64 b], .agg #[.int .i64 (n + 1), .int .i64 1]] W fun e w' => e = .returned (.tuple #[.int .i64 (-1), .int .i64 0]) ∧ Below W.heap.size W w')
    (hB : ∀ W : World, Calls Tryd.prog 18 #[.agg #[.int .i64 a, .int .i64 b], .agg #[.int .i64 c, .int .i64 d]] W fun e w' => e = .returned (.tuple #[.agg #[.int .i64 b1, .int .i64 b2], .int .i64 be]) ∧ Below W.heap.size W w')
    (hC3 : ∀ W : World, Calls Tryd.prog 17 #[.agg #[.int .i64 a, .int .i64 b], .agg #[.int .i64 f, .int .i64 g]] W fun e w' => e = .returned (.tuple #[.int .i64 v3, .int .i64 0]) ∧ Below W.heap.size W w')
    (hC4 : ∀ W : World, Calls Tryd.prog 17 #[.agg #[.int .i64 f, .int .i64 g], .agg #[.int .i64 c, .int .i64 d]] W fun e w' => e = .returned (.tuple #[.int .i64 v4, .int .i64 0]) ∧ Below W.heap.size W w')
    (hn : -1000000 ≤ n ∧ n ≤ 1000000) (hv1 : v1 ≤ 0) (hs : ae = 0 → s1 = a ∧ s2 = b ∧ se = 0) (hd : me = 0 → c ≠ 0 → t1 = a ∧ t2 = b ∧ te = 0) (hb : be = 0 → v3 ≤ 0 → v4 ≤ 0 → b2 ≤ g) :
    Calls Tryd.prog 3 #[.agg #[.int .i16 p, .int .u8 q], .agg #[.int .i16 r, .int .u8 s], .agg #[.int .i16 t, .int .u8 u]] w fun e w' => e = .returned (.bool true) ∧ Below w.heap.size w w' := by
  have X := Lib.hid hX
  have Y := Lib.hid hY
  have Z := Lib.hid hZ
  have A := Lib.hid hA
  have A' := Lib.hid hA'
  have M := Lib.hid hM
  have M' := Lib.hid hM'
  have S := Lib.hid hS
  have D := Lib.hid hD
  have F := Lib.hid hF
  have W1 := Lib.hid hW
  have W2 := Lib.hid hV
  have C1 := Lib.hid hC1
  have C2 := Lib.hid hC2
  have B := Lib.hid hB
  have C3 := Lib.hid hC3
  have C4 := Lib.hid hC4
  have HS := Lib.hid hs
  have HD := Lib.hid hd
  have HB := Lib.hid hb
  clear hX hY hZ hs hd hb hA hA' hM hM' hS hD hF hW hV hC1 hC2 hB hC3 hC4
  go_enter Tryd.func3, Tryd.ntmps3
  go_wp2_with fail
  refine (known_any _).mono ?_
  rintro e w1 ⟨rfl, hb1⟩
  have hb1' := hb1
  obtain ⟨ga0, ga1, gal, _⟩ := (((Two.new w (.int .i16 p) (.int .u8 q) 24).alloc _).alloc _).below hb1
  obtain ⟨gb0, gb1, gbl, _⟩ := ((Two.new (w.alloc _) (.int .i16 r) (.int .u8 s) 24).alloc _).below hb1
  obtain ⟨gc0, gc1, gcl, _⟩ := (Two.new ((w.alloc _).alloc _) (.int .i16 t) (.int .u8 u) 24).below hb1
  simp at gb0 gb1 gbl
  simp at gc0 gc1 gcl
  have hz1 := hb1.size
  simp at hz1
  have GS := Lib.hid (show ∀ W : World, Below w1.heap.size w1 W → (W.cell? ⟨w.heap.size, 0, none⟩ = some (.int .i16 p) ∧ W.cell? ⟨w.heap.size, 1, none⟩ = some (.int .u8 q) ∧ W.cell? ⟨w.heap.size + 1, 0, none⟩ = some (.int .i16 r) ∧ W.cell? ⟨w.heap.size + 1, 1, none⟩ = some (.int .u8 s) ∧ W.cell? ⟨w.heap.size + 2, 0, none⟩ = some (.int .i16 t) ∧ W.cell? ⟨w.heap.size + 2, 1, none⟩ = some (.int .u8 u) ∧ Below w1.heap.size w1 W) from fun W hW => ⟨(hW.cell (p := ⟨w.heap.size, 0, none⟩) gal).trans ga0, (hW.cell (p := ⟨w.heap.size, 1, none⟩) gal).trans ga1, (hW.cell (p := ⟨w.heap.size + 1, 0, none⟩) gbl).trans gb0, (hW.cell (p := ⟨w.heap.size + 1, 1, none⟩) gbl).trans gb1, (hW.cell (p := ⟨w.heap.size + 2, 0, none⟩) gcl).trans gc0, (hW.cell (p := ⟨w.heap.size + 2, 1, none⟩) gcl).trans gc1, hW⟩)
  have HL := Lib.hid (show ∀ W : World, (W.cell? ⟨w.heap.size, 0, none⟩ = some (.int .i16 p) ∧ W.cell? ⟨w.heap.size, 1, none⟩ = some (.int .u8 q) ∧ W.cell? ⟨w.heap.size + 1, 0, none⟩ = some (.int .i16 r) ∧ W.cell? ⟨w.heap.size + 1, 1, none⟩ = some (.int .u8 s) ∧ W.cell? ⟨w.heap.size + 2, 0, none⟩ = some (.int .i16 t) ∧ W.cell? ⟨w.heap.size + 2, 1, none⟩ = some (.int .u8 u) ∧ Below w1.heap.size w1 W) → Below w1.heap.size w1 W from fun W h => h.2.2.2.2.2.2)
  have HN := Lib.hid (show ∀ W W' : World, Below W.heap.size W W' → (W.cell? ⟨w.heap.size, 0, none⟩ = some (.int .i16 p) ∧ W.cell? ⟨w.heap.size, 1, none⟩ = some (.int .u8 q) ∧ W.cell? ⟨w.heap.size + 1, 0, none⟩ = some (.int .i16 r) ∧ W.cell? ⟨w.heap.size + 1, 1, none⟩ = some (.int .u8 s) ∧ W.cell? ⟨w.heap.size + 2, 0, none⟩ = some (.int .i16 t) ∧ W.cell? ⟨w.heap.size + 2, 1, none⟩ = some (.int .u8 u) ∧ Below w1.heap.size w1 W) → Below w1.heap.size w1 W' from fun W W' hb h => h.2.2.2.2.2.2.trans (hb.mono h.2.2.2.2.2.2.size))
  go_upto_region 3 with fail
  go_cut [7, 8, 9] (fun s7 s8 s9 wx => ∃ x y z : Nat, s7 = .pointer (some ⟨x, 0, none⟩) ∧ s8 = .pointer (some ⟨y, 0, none⟩) ∧ s9 = .pointer (some ⟨z, 0, none⟩) ∧ Rd wx x (.int .i64 a) (.int .i64 b) ∧ Rd wx y (.int .i64 c) (.int .i64 d) ∧ Rd wx z (.int .i64 f) (.int .i64 g) ∧ Below w1.heap.size w1 wx)
  case first =>
    have C00 := Lib.hid ga0
    have C01 := Lib.hid ga1
    have L0 := Lib.hid gal
    have C10 := Lib.hid gb0
    have C11 := Lib.hid gb1
    have L1 := Lib.hid gbl
    have C20 := Lib.hid gc0
    have C21 := Lib.hid gc1
    have L2 := Lib.hid gcl
    clear ga0 ga1 gal gb0 gb1 gbl gc0 gc1 gcl GS HL HN A A' M M' S D F W1 W2 C1 C2 B C3 C4 HS HD HB
    refine wp_region_slots_at rfl rfl (fun base ys => (((((((((base.set 40 (ys 0)).set 41 (ys 1)).set 42 (ys 2)).set 43 (ys 3)).set 44 (ys 4)).set 45 (ys 5)).set 7 (ys 6)).set 8 (ys 7)).set 9 (ys 8))) (BoxI 6 9 3 27 w1 (lawInv p q r s t u a b c d f g) (lawV0 a c f) (lawV1 b d g)) (fun _ => undef) (by kernel_rfl) ?h0 ?h
    case h0 =>
      refine ⟨(Below.refl _ _).drew, fun j hj => ?_, fun i hi hl => ?_, fun i hi hl => ?_, fun i j hi hj hne hl => ?_⟩
      · have : 12 ≤ j := of_decide_eq_true hj
        obtain ⟨k, rfl⟩ : ∃ k, j = k + 6 := ⟨j - 6, by omega⟩
        trivial
      · have : 12 ≤ 9 + i := of_decide_eq_true hl
        omega
      · have : 12 ≤ 6 + i := of_decide_eq_true hl
        omega
      · have : 12 ≤ 6 + i := of_decide_eq_true hl
        omega
    case h =>
      intro F hF
      simp only [List.set_cons_succ, List.set_cons_zero] at hF
      subst hF
      refine ⟨rfl, ?_, ?_⟩
      refine ⟨?_, ?_⟩
      · intro L ys W hn hd hI K hK
        have c0 := (hI.below.cell (p := ⟨w.heap.size, 0, none⟩) L0.out).trans C00.out
        have c1 := (hI.below.cell (p := ⟨w.heap.size, 1, none⟩) L0.out).trans C01.out
        go_simp
        exact hK _ _ (hI.other (by decide) (by decide) rfl (Below.refl _ _))
      refine ⟨?_, ?_⟩
      · intro L ys W hn hd hI K hK
        have d0 : ys 0 = .agg #[.int .i16 p, .int .u8 q] := hI.inv 0 (waits_at hd (by kernel_rfl))
        go_simp
        refine (X.out _).mono ?_
        rintro e W' ⟨rfl, hb⟩
        have hK2 := hK _ _ (hI.other (by decide) (by decide) rfl hb)
        simp (config := { decide := true }) only [upd, if_true, if_false, d0] at hK2
        exact hK2
      refine ⟨?_, ?_⟩
      · intro L ys W hn hd hI K hK
        have c0 := (hI.below.cell (p := ⟨w.heap.size + 1, 0, none⟩) L1.out).trans C10.out
        have c1 := (hI.below.cell (p := ⟨w.heap.size + 1, 1, none⟩) L1.out).trans C11.out
        go_simp
        exact hK _ _ (hI.other (by decide) (by decide) rfl (Below.refl _ _))
      refine ⟨?_, ?_⟩
      · intro L ys W hn hd hI K hK
        have d0 : ys 2 = .agg #[.int .i16 r, .int .u8 s] := hI.inv 2 (waits_at hd (by kernel_rfl))
        go_simp
        refine (Y.out _).mono ?_
        rintro e W' ⟨rfl, hb⟩
        have hK2 := hK _ _ (hI.other (by decide) (by decide) rfl hb)
        simp (config := { decide := true }) only [upd, if_true, if_false, d0] at hK2
        exact hK2
      refine ⟨?_, ?_⟩
      · intro L ys W hn hd hI K hK
        have c0 := (hI.below.cell (p := ⟨w.heap.size + 2, 0, none⟩) L2.out).trans C20.out
        have c1 := (hI.below.cell (p := ⟨w.heap.size + 2, 1, none⟩) L2.out).trans C21.out
        go_simp
        exact hK _ _ (hI.other (by decide) (by decide) rfl (Below.refl _ _))
      refine ⟨?_, ?_⟩
      · intro L ys W hn hd hI K hK
        have d0 : ys 4 = .agg #[.int .i16 t, .int .u8 u] := hI.inv 4 (waits_at hd (by kernel_rfl))
        go_simp
        refine (Z.out _).mono ?_
        rintro e W' ⟨rfl, hb⟩
        have hK2 := hK _ _ (hI.other (by decide) (by decide) rfl hb)
        simp (config := { decide := true }) only [upd, if_true, if_false, d0] at hK2
        exact hK2
      refine ⟨?_, ?_⟩
      · intro L ys W hn hd hI K hK
        go_simp
        exact hK _ _ (hI.alloc (i := 0) (by decide) (by decide) hn trivial)
      refine ⟨?_, ?_⟩
      · intro L ys W hn hd hI K hK
        go_simp
        exact hK _ _ (hI.alloc (i := 1) (by decide) (by decide) hn trivial)
      refine ⟨?_, ?_⟩
      · intro L ys W hn hd hI K hK
        go_simp
        exact hK _ _ (hI.alloc (i := 2) (by decide) (by decide) hn trivial)
      refine ⟨?_, ?_⟩
      · intro L ys W hn hd hI K hK
        obtain ⟨qq, x0, x1, hy, hq, hh, _⟩ := hI.box 0 (by decide) (waits_at hd (by kernel_rfl))
        have f0 := cells_f0 hh
        have f1 := cells_f1 hh
        have g0 := cells_fst hh
        have g1 := cells_snd hh
        have hy' : ys 6 = _ := hy
        have dv : ys 1 = .agg #[.int .i64 a, .int .i64 b] := hI.inv 1 (waits_at hd (by kernel_rfl))
        go_simp
        have hK2 := hK undef _ (hI.store (i := 0) (by decide) (by decide) (waits_at hd (by kernel_rfl)) hy trivial)
        simp (config := { decide := true }) only [upd, if_false, hy', dv, lawV0, lawV1] at hK2
        exact hK2
      refine ⟨?_, ?_⟩
      · intro L ys W hn hd hI K hK
        obtain ⟨qq, x0, x1, hy, hq, hh, _⟩ := hI.box 1 (by decide) (waits_at hd (by kernel_rfl))
        have f0 := cells_f0 hh
        have f1 := cells_f1 hh
        have g0 := cells_fst hh
        have g1 := cells_snd hh
        have hy' : ys 7 = _ := hy
        have dv : ys 3 = .agg #[.int .i64 c, .int .i64 d] := hI.inv 3 (waits_at hd (by kernel_rfl))
        go_simp
        have hK2 := hK undef _ (hI.store (i := 1) (by decide) (by decide) (waits_at hd (by kernel_rfl)) hy trivial)
        simp (config := { decide := true }) only [upd, if_false, hy', dv, lawV0, lawV1] at hK2
        exact hK2
      refine ⟨?_, ?_⟩
      · intro L ys W hn hd hI K hK
        obtain ⟨qq, x0, x1, hy, hq, hh, _⟩ := hI.box 2 (by decide) (waits_at hd (by kernel_rfl))
        have f0 := cells_f0 hh
        have f1 := cells_f1 hh
        have g0 := cells_fst hh
        have g1 := cells_snd hh
        have hy' : ys 8 = _ := hy
        have dv : ys 5 = .agg #[.int .i64 f, .int .i64 g] := hI.inv 5 (waits_at hd (by kernel_rfl))
        go_simp
        have hK2 := hK undef _ (hI.store (i := 2) (by decide) (by decide) (waits_at hd (by kernel_rfl)) hy trivial)
        simp (config := { decide := true }) only [upd, if_false, hy', dv, lawV0, lawV1] at hK2
        exact hK2
      trivial
      intro L ys W hL hI
      obtain ⟨pu, u0, u1, hyu, hnu, hhu, hcu⟩ := hI.box 0 (by decide) (hL 6 (by decide))
      obtain ⟨pc, v0, v1, hyc, hnc, hhc, hcc⟩ := hI.box 1 (by decide) (hL 7 (by decide))
      obtain ⟨pv, x0, x1, hyv, hnv, hhv, hcv⟩ := hI.box 2 (by decide) (hL 8 (by decide))
      obtain ⟨rfl, rfl⟩ := hcu (hL 9 (by decide))
      obtain ⟨rfl, rfl⟩ := hcc (hL 10 (by decide))
      obtain ⟨rfl, rfl⟩ := hcv (hL 11 (by decide))
      have hbW := hI.below
      have hyu' : ys 6 = _ := hyu
      have hyc' : ys 7 = _ := hyc
      have hyv' : ys 8 = _ := hyv
      simp only [hyu', hyc', hyv']
      clear hL hI hyu hyc hyv hyu' hyc' hyv' hcu hcc hcv
      go_wp2_with fail
      go_meet
      exact ⟨pu, pc, pv, rfl, rfl, rfl, ⟨cells_fst hhu, cells_snd hhu, heap_lt hhu⟩, ⟨cells_fst hhc, cells_snd hhc, heap_lt hhc⟩, ⟨cells_fst hhv, cells_snd hhv, heap_lt hhv⟩, hbW⟩
  case rest =>
    obtain ⟨x, y, z, rfl, rfl, rfl, x0, y0, z0, hB0⟩ := hcut
    have hq0 := hB0.size
    have xa := x0.fst
    have xb := x0.snd
    have xl := x0.lt
    have ya := y0.fst
    have yb := y0.snd
    have yl := y0.lt
    have za := z0.fst
    have zb := z0.snd
    have zl := z0.lt
    go_wp2_with fail
    refine (A.out _).mono ?_
    rintro e u1 ⟨rfl, hb1⟩
    have hz1 := hb1.size
    have x1 := (x0).below hb1
    have y1 := (y0).below hb1
    have z1 := (z0).below hb1
    clear x0 xa xb xl y0 ya yb yl z0 za zb zl
    have hB1 := hB0.trans (hb1.mono (by go_size))
    have hq1 := hB1.size
    have xa := x1.fst
    have xb := x1.snd
    have xl := x1.lt
    have ya := y1.fst
    have yb := y1.snd
    have yl := y1.lt
    have za := z1.fst
    have zb := z1.snd
    have zl := z1.lt
    go_wp2_with fail
    refine (A'.out _).mono ?_
    rintro e u2 ⟨rfl, hb2⟩
    have hz2 := hb2.size
    simp only [World.size_alloc] at hz2
    have x2 := (x1.alloc _).below hb2
    have y2 := (y1.alloc _).below hb2
    have z2 := (z1.alloc _).below hb2
    have p2 := (Rd.new u1 (.int .i64 a1) (.int .i64 a2) 27).below hb2
    clear x1 xa xb xl y1 ya yb yl z1 za zb zl
    have hB2 := (hB1.alloc (by omega) _).trans (hb2.mono (by go_size))
    have hq2 := hB2.size
    have xa := x2.fst
    have xb := x2.snd
    have xl := x2.lt
    have ya := y2.fst
    have yb := y2.snd
    have yl := y2.lt
    have za := z2.fst
    have zb := z2.snd
    have zl := z2.lt
    have pa := p2.fst
    have pb := p2.snd
    have pl := p2.lt
    go_wp2_with fail
    refine (M.out _).mono ?_
    rintro e u3 ⟨rfl, hb3⟩
    have hz3 := hb3.size
    simp only [World.size_alloc] at hz3
    have x3 := (x2.alloc _).below hb3
    have y3 := (y2.alloc _).below hb3
    have z3 := (z2.alloc _).below hb3
    have p3 := (p2.alloc _).below hb3
    have q3 := (Rd.new u2 (.int .i64 a1) (.int .i64 a2) 27).below hb3
    clear x2 xa xb xl y2 ya yb yl z2 za zb zl p2 pa pb pl
    have hB3 := (hB2.alloc (by omega) _).trans (hb3.mono (by go_size))
    have hq3 := hB3.size
    have xa := x3.fst
    have xb := x3.snd
    have xl := x3.lt
    have ya := y3.fst
    have yb := y3.snd
    have yl := y3.lt
    have za := z3.fst
    have zb := z3.snd
    have zl := z3.lt
    have pa := p3.fst
    have pb := p3.snd
    have pl := p3.lt
    have qa := q3.fst
    have qb := q3.snd
    have ql := q3.lt
    go_wp2_with fail
    refine (M'.out _).mono ?_
    rintro e u4 ⟨rfl, hb4⟩
    have hz4 := hb4.size
    simp only [World.size_alloc] at hz4
    have x4 := (x3.alloc _).below hb4
    have y4 := (y3.alloc _).below hb4
    have z4 := (z3.alloc _).below hb4
    have p4 := (p3.alloc _).below hb4
    have q4 := (q3.alloc _).below hb4
    have r4 := (Rd.new u3 (.int .i64 m1) (.int .i64 m2) 27).below hb4
    clear x3 xa xb xl y3 ya yb yl z3 za zb zl p3 pa pb pl q3 qa qb ql
    have hB4 := (hB3.alloc (by omega) _).trans (hb4.mono (by go_size))
    have hq4 := hB4.size
    have xa := x4.fst
    have xb := x4.snd
    have xl := x4.lt
    have ya := y4.fst
    have yb := y4.snd
    have yl := y4.lt
    have za := z4.fst
    have zb := z4.snd
    have zl := z4.lt
    have pa := p4.fst
    have pb := p4.snd
    have pl := p4.lt
    have qa := q4.fst
    have qb := q4.snd
    have ql := q4.lt
    have ra := r4.fst
    have rb := r4.snd
    have rl := r4.lt
    go_wp2_with fail
    refine (S.out _).mono ?_
    rintro e u5 ⟨rfl, hb5⟩
    have hz5 := hb5.size
    simp only [World.size_alloc] at hz5
    have x5 := (x4.alloc _).below hb5
    have y5 := (y4.alloc _).below hb5
    have z5 := (z4.alloc _).below hb5
    have p5 := (p4.alloc _).below hb5
    have q5 := (q4.alloc _).below hb5
    have r5 := (r4.alloc _).below hb5
    have s5 := (Rd.new u4 (.int .i64 m1) (.int .i64 m2) 27).below hb5
    clear x4 xa xb xl y4 ya yb yl z4 za zb zl p4 pa pb pl q4 qa qb ql r4 ra rb rl
    have hB5 := (hB4.alloc (by omega) _).trans (hb5.mono (by go_size))
    have hq5 := hB5.size
    have xa := x5.fst
    have xb := x5.snd
    have xl := x5.lt
    have ya := y5.fst
    have yb := y5.snd
    have yl := y5.lt
    have za := z5.fst
    have zb := z5.snd
    have zl := z5.lt
    have pa := p5.fst
    have pb := p5.snd
    have pl := p5.lt
    have qa := q5.fst
    have qb := q5.snd
    have ql := q5.lt
    have ra := r5.fst
    have rb := r5.snd
    have rl := r5.lt
    have sa := s5.fst
    have sb := s5.snd
    have sl := s5.lt
    clear q5 qa qb ql
    clear s5 sa sb sl
    go_upto_region 11 with fail
    go_cut [104] (fun s104 wx => s104 = .bool false ∧ wx = u5.alloc (.cells #[.int .i64 s1, .int .i64 s2] 27))
    case first =>
      by_cases he : ae = 0
      · obtain ⟨e1, e2, e3⟩ := HS.out he
        subst e1 e2 e3 he
        go_wp2_with fail
        go_meet
        exact ⟨rfl, rfl⟩
      · have he' : (ae == 0) = false := by simpa using he
        clear he
        go_wp2_with fail
        go_meet
        exact ⟨rfl, rfl⟩
    case rest =>
    obtain ⟨rfl, rfl⟩ := hcut
    go_wp2_with fail
    refine (D.out _).mono ?_
    rintro e u6 ⟨rfl, hb6⟩
    have hz6 := hb6.size
    simp only [World.size_alloc] at hz6
    have x6 := (x5.alloc _).below hb6
    have y6 := (y5.alloc _).below hb6
    have z6 := (z5.alloc _).below hb6
    have p6 := (p5.alloc _).below hb6
    have r6 := (r5.alloc _).below hb6
    clear x5 xa xb xl y5 ya yb yl z5 za zb zl p5 pa pb pl r5 ra rb rl
    have hB6 := (hB5.alloc (by omega) _).trans (hb6.mono (by go_size))
    have hq6 := hB6.size
    have xa := x6.fst
    have xb := x6.snd
    have xl := x6.lt
    have ya := y6.fst
    have yb := y6.snd
    have yl := y6.lt
    have za := z6.fst
    have zb := z6.snd
    have zl := z6.lt
    have pa := p6.fst
    have pb := p6.snd
    have pl := p6.lt
    have ra := r6.fst
    have rb := r6.snd
    have rl := r6.lt
    clear p6 pa pb pl
    clear r6 ra rb rl
    go_upto_region 14 with fail
    go_cut [126] (fun s126 wx => s126 = .bool false ∧ wx = u6.alloc (.cells #[.int .i64 t1, .int .i64 t2] 27))
    case first =>
      by_cases he : me = 0
      · by_cases hc0 : c = 0
        · have hc1 : (c != 0) = false := by simp [hc0]
          subst he
          have HC := Lib.hid hc0
          clear hc0
          go_wp2_with fail
          go_meet
          exact ⟨rfl, rfl⟩
        · obtain ⟨e1, e2, e3⟩ := HD.out he hc0
          have hc1 : (c != 0) = true := by simp [hc0]
          subst e1 e2 e3 he
          clear hc0
          go_wp2_with fail
          go_meet
          exact ⟨rfl, rfl⟩
      · have he' : (me == 0) = false := by simpa using he
        clear he
        go_wp2_with fail
        go_meet
        exact ⟨rfl, rfl⟩
    case rest =>
    obtain ⟨rfl, rfl⟩ := hcut
    go_wp2_with fail
    refine (F.out _).mono ?_
    rintro e u7 ⟨rfl, hb7⟩
    have hz7 := hb7.size
    simp only [World.size_alloc] at hz7
    have x7 := (x6.alloc _).below hb7
    have y7 := (y6.alloc _).below hb7
    have z7 := (z6.alloc _).below hb7
    clear x6 xa xb xl y6 ya yb yl z6 za zb zl
    have hB7 := (hB6.alloc (by omega) _).trans (hb7.mono (by go_size))
    have hq7 := hB7.size
    have xa := x7.fst
    have xb := x7.snd
    have xl := x7.lt
    have ya := y7.fst
    have yb := y7.snd
    have yl := y7.lt
    have za := z7.fst
    have zb := z7.snd
    have zl := z7.lt
    go_wp2_with fail
    refine (W1.out _).mono ?_
    rintro e u8 ⟨rfl, hb8⟩
    have hz8 := hb8.size
    have x8 := (x7).below hb8
    have y8 := (y7).below hb8
    have z8 := (z7).below hb8
    clear x7 xa xb xl y7 ya yb yl z7 za zb zl
    have hB8 := hB7.trans (hb8.mono (by go_size))
    have hq8 := hB8.size
    have xa := x8.fst
    have xb := x8.snd
    have xl := x8.lt
    have ya := y8.fst
    have yb := y8.snd
    have yl := y8.lt
    have za := z8.fst
    have zb := z8.snd
    have zl := z8.lt
    go_wp2_with fail
    refine (W2.out _).mono ?_
    rintro e u9 ⟨rfl, hb9⟩
    have hz9 := hb9.size
    simp only [World.size_alloc] at hz9
    have x9 := (x8.alloc _).below hb9
    have y9 := (y8.alloc _).below hb9
    have z9 := (z8.alloc _).below hb9
    have p9 := (Rd.new u8 (.int .i64 n) (.int .i64 1) 27).below hb9
    clear x8 xa xb xl y8 ya yb yl z8 za zb zl
    have hB9 := (hB8.alloc (by omega) _).trans (hb9.mono (by go_size))
    have hq9 := hB9.size
    have xa := x9.fst
    have xb := x9.snd
    have xl := x9.lt
    have ya := y9.fst
    have yb := y9.snd
    have yl := y9.lt
    have za := z9.fst
    have zb := z9.snd
    have zl := z9.lt
    have pa := p9.fst
    have pb := p9.snd
    have pl := p9.lt
    go_wp2_with fail
    refine (C1.out _).mono ?_
    rintro e u10 ⟨rfl, hb10⟩
    have hz10 := hb10.size
    simp only [World.size_alloc] at hz10
    have x10 := (x9.alloc _).below hb10
    have y10 := (y9.alloc _).below hb10
    have z10 := (z9.alloc _).below hb10
    have p10 := (p9.alloc _).below hb10
    have q10 := (Rd.new u9 (.int .i64 (n + 1)) (.int .i64 1) 27).below hb10
    clear x9 xa xb xl y9 ya yb yl z9 za zb zl p9 pa pb pl
    have hB10 := (hB9.alloc (by omega) _).trans (hb10.mono (by go_size))
    have hq10 := hB10.size
    have xa := x10.fst
    have xb := x10.snd
    have xl := x10.lt
    have ya := y10.fst
    have yb := y10.snd
    have yl := y10.lt
    have za := z10.fst
    have zb := z10.snd
    have zl := z10.lt
    have pa := p10.fst
    have pb := p10.snd
    have pl := p10.lt
    have qa := q10.fst
    have qb := q10.snd
    have ql := q10.lt
    clear p10 pa pb pl
    go_wp2_with fail
    refine (C2.out _).mono ?_
    rintro e u11 ⟨rfl, hb11⟩
    have hz11 := hb11.size
    have x11 := (x10).below hb11
    have y11 := (y10).below hb11
    have z11 := (z10).below hb11
    have q11 := (q10).below hb11
    clear x10 xa xb xl y10 ya yb yl z10 za zb zl q10 qa qb ql
    have hB11 := hB10.trans (hb11.mono (by go_size))
    have hq11 := hB11.size
    have xa := x11.fst
    have xb := x11.snd
    have xl := x11.lt
    have ya := y11.fst
    have yb := y11.snd
    have yl := y11.lt
    have za := z11.fst
    have zb := z11.snd
    have zl := z11.lt
    have qa := q11.fst
    have qb := q11.snd
    have ql := q11.lt
    clear q11 qa qb ql
    go_wp2_with fail
    refine (B.out _).mono ?_
    rintro e u12 ⟨rfl, hb12⟩
    have hz12 := hb12.size
    have x12 := (x11).below hb12
    have y12 := (y11).below hb12
    have z12 := (z11).below hb12
    clear x11 xa xb xl y11 ya yb yl z11 za zb zl
    have hB12 := hB11.trans (hb12.mono (by go_size))
    have hq12 := hB12.size
    have xa := x12.fst
    have xb := x12.snd
    have xl := x12.lt
    have ya := y12.fst
    have yb := y12.snd
    have yl := y12.lt
    have za := z12.fst
    have zb := z12.snd
    have zl := z12.lt
    go_wp2_with fail
    refine (C3.out _).mono ?_
    rintro e u13 ⟨rfl, hb13⟩
    have hz13 := hb13.size
    simp only [World.size_alloc] at hz13
    have x13 := (x12.alloc _).below hb13
    have y13 := (y12.alloc _).below hb13
    have z13 := (z12.alloc _).below hb13
    have p13 := (Rd.new u12 (.int .i64 b1) (.int .i64 b2) 27).below hb13
    clear x12 xa xb xl y12 ya yb yl z12 za zb zl
    have hB13 := (hB12.alloc (by omega) _).trans (hb13.mono (by go_size))
    have hq13 := hB13.size
    have xa := x13.fst
    have xb := x13.snd
    have xl := x13.lt
    have ya := y13.fst
    have yb := y13.snd
    have yl := y13.lt
    have za := z13.fst
    have zb := z13.snd
    have zl := z13.lt
    have pa := p13.fst
    have pb := p13.snd
    have pl := p13.lt
    go_wp2_with fail
    refine (C4.out _).mono ?_
    rintro e u14 ⟨rfl, hb14⟩
    have hz14 := hb14.size
    have x14 := (x13).below hb14
    have y14 := (y13).below hb14
    have z14 := (z13).below hb14
    have p14 := (p13).below hb14
    clear x13 xa xb xl y13 ya yb yl z13 za zb zl p13 pa pb pl
    have hB14 := hB13.trans (hb14.mono (by go_size))
    have hq14 := hB14.size
    have xa := x14.fst
    have xb := x14.snd
    have xl := x14.lt
    have ya := y14.fst
    have yb := y14.snd
    have yl := y14.lt
    have za := z14.fst
    have zb := z14.snd
    have zl := z14.lt
    have pa := p14.fst
    have pb := p14.snd
    have pl := p14.lt
    by_cases he : be = 0
    · subst he
      by_cases h3 : 0 < v3
      · go_wp2
        go_ret
        exact ⟨rfl, ((((((Below.refl _ _).alloc (Nat.le_refl _) _).alloc (by go_size) _).alloc (by go_size) _).trans (hb1'.mono (by go_size))).trans (hB14.mono (by omega)))⟩
      · by_cases h4 : 0 < v4
        · go_wp2
          go_ret
          exact ⟨rfl, ((((((Below.refl _ _).alloc (Nat.le_refl _) _).alloc (by go_size) _).alloc (by go_size) _).trans (hb1'.mono (by go_size))).trans (hB14.mono (by omega)))⟩
        · have hle := HB.out rfl (by omega) (by omega)
          go_wp2
          go_ret
          exact ⟨rfl, ((((((Below.refl _ _).alloc (Nat.le_refl _) _).alloc (by go_size) _).alloc (by go_size) _).trans (hb1'.mono (by go_size))).trans (hB14.mono (by omega)))⟩
    · have he' : (be != 0) = true := by simpa using he
      clear he
      go_wp2
      go_ret
      exact ⟨rfl, ((((((Below.refl _ _).alloc (Nat.le_refl _) _).alloc (by go_size) _).alloc (by go_size) _).trans (hb1'.mono (by go_size))).trans (hB14.mono (by omega)))⟩

end Go.Proofs.YtoeacbmlodfciaaDoor
