/- NotesetCombines: the law's walk. -/
import Derived.Test.YtibdnfcbgcbdeaaDoorNsZd
import Derived.Test.YtibdnfcbgcbdeaaDoorNsBx
import Derived.Test.YtibdnfcbgcbdeaaDoorNsO
namespace Go.Proofs.YtibdnfcbgcbdeaaDoor
open Go Go.RowKit Go.Shelf

/-- What the operations of 'u, c, w := Union(a, b), Both(a, b), Without(a, b)' yield. -/
def combInv (a b c d : Nat) (j : Nat) (v : Value) : Prop :=
  match j with
  | 0 | 3 | 6 => v = .agg #[.int .u64 a, .int .u64 b]
  | 1 | 4 | 7 => v = .agg #[.int .u64 c, .int .u64 d]
  | 2 => v = .agg #[.int .u64 (a ||| c : Nat), .int .u64 (b ||| d : Nat)]
  | 5 => v = .agg #[.int .u64 (a &&& c : Nat), .int .u64 (b &&& d : Nat)]
  | 8 => v = .agg #[.int .u64 (Ns.wo a c : Nat), .int .u64 (Ns.wo b d : Nat)]
  | _ => True
def combV0 (a c : Nat) (i : Nat) : Value := .int .u64 (match i with | 0 => (a ||| c : Nat) | 1 => (a &&& c : Nat) | _ => (Ns.wo a c : Nat))

structure CombR (w : World) (pa pb pu pc pv a b c d : Nat) (W : World) : Prop where
  A : Rn W pa a b
  B : Rn W pb c d
  U : Rn W pu (a ||| c) (b ||| d)
  C : Rn W pc (a &&& c) (b &&& d)
  V : Rn W pv (Ns.wo a c) (Ns.wo b d)
  below : Below w.heap.size w W
theorem CombR.call {w W W' : World} {pa pb pu pc pv a b c d : Nat} (h : CombR w pa pb pu pc pv a b c d W) (hb : Below W.heap.size W W') : CombR w pa pb pu pc pv a b c d W' :=
  ⟨h.A.below hb, h.B.below hb, h.U.below hb, h.C.below hb, h.V.below hb, h.below.trans (hb.mono h.below.size)⟩

theorem withinB_all (a b c d : Nat) (la : a < 18446744073709551616) (lb : b < 18446744073709551616) (lc : c < 18446744073709551616) (ld : d < 18446744073709551616) :
    Ns.withinB a b c d = (List.range 128).all fun m => !Ns.has a b m || Ns.has c d m := by
  unfold Ns.withinB
  cases h : (List.range 128).all fun m => !Ns.has a b m || Ns.has c d m with
  | true =>
    refine decide_eq_true (Ns.ext (Ns.wo_lt _ _ la) (Ns.wo_lt _ _ lb) (by decide) (by decide) fun m hm => ?_)
    rw [Ns.has_wo _ _ _ _ _ la lb lc ld, has_zero]
    have := List.all_eq_true.1 h m (List.mem_range.2 hm)
    revert this
    cases Ns.has a b m <;> cases Ns.has c d m <;> simp
  | false =>
    refine decide_eq_false fun ⟨h1, h2⟩ => ?_
    rw [← Bool.not_eq_true, List.all_eq_true] at h
    refine h fun m _ => ?_
    have := Ns.has_wo a b c d m la lb lc ld
    rw [h1, h2, has_zero] at this
    revert this
    cases Ns.has a b m <;> cases Ns.has c d m <;> simp

set_option maxRecDepth 100000 in
set_option maxHeartbeats 4000000 in
theorem combines_law (a b c d : Nat) (n : Int) (hv ha hb_ : Bool) (hvab : hv = (ha || hb_)) (la : a < 18446744073709551616) (lb : b < 18446744073709551616) (lc : c < 18446744073709551616) (ld : d < 18446744073709551616) (w : World) (G : Gl w)
    (hH : ∀ W, Calls Tryd.prog 30 #[.agg #[.int .u64 (a ||| c : Nat), .int .u64 (b ||| d : Nat)], .int .i64 n] W fun e w' => e = .returned (.bool hv) ∧ Below W.heap.size W w')
    (hA : ∀ W, Calls Tryd.prog 31 #[.agg #[.int .u64 a, .int .u64 b], .int .i64 n] W fun e w' => e = .returned (.bool ha) ∧ Below W.heap.size W w')
    (hB : ∀ W, Calls Tryd.prog 31 #[.agg #[.int .u64 c, .int .u64 d], .int .i64 n] W fun e w' => e = .returned (.bool hb_) ∧ Below W.heap.size W w') :
    Calls Tryd.prog 7 #[.agg #[.int .u64 a, .int .u64 b], .agg #[.int .u64 c, .int .u64 d], .int .i64 n] w fun e w' => e = .returned (.bool true) ∧ Below w.heap.size w w' := by
  have UN := Lib.hid (fun W => union_any a b c d la lb lc ld W)
  have BO := Lib.hid (fun W => both_any a b c d la lb lc ld W)
  have WO := Lib.hid (fun W => without_any a b c d la lb lc ld W)
  have b0 : Below w.heap.size w (w.alloc (.cells #[.int .u64 a, .int .u64 b] 34)) := (Below.refl _ _).alloc (Nat.le_refl _) _
  have b1 : Below w.heap.size w ((w.alloc (.cells #[.int .u64 a, .int .u64 b] 34)).alloc (.cells #[.int .u64 c, .int .u64 d] 34)) := b0.alloc (by simp) _
  have s0 : SetAt ((w.alloc (.cells #[.int .u64 a, .int .u64 b] 34)).alloc (.cells #[.int .u64 c, .int .u64 d] 34)) w.heap.size a b :=
    (SetAt.new w a b).below (SetAt.new w a b).lt ((Below.refl _ _).alloc (Nat.le_refl _) _)
  have s1 : SetAt ((w.alloc (.cells #[.int .u64 a, .int .u64 b] 34)).alloc (.cells #[.int .u64 c, .int .u64 d] 34)) (w.heap.size + 1) c d := by
    simpa using SetAt.new (w.alloc (.cells #[.int .u64 a, .int .u64 b] 34)) c d
  have B1 := Lib.hid b1
  have S0 := Lib.hid s0
  have S1 := Lib.hid s1
  have K := Lib.hid (known_any ((w.alloc (.cells #[.int .u64 a, .int .u64 b] 34)).alloc (.cells #[.int .u64 c, .int .u64 d] 34)) (G.below b1))
  have HH := Lib.hid hH
  have HA := Lib.hid hA
  have HB := Lib.hid hB
  clear b0 b1 s0 s1 hH hA hB
  go_enter Tryd.func7, Tryd.ntmps7
  go_wp2_with fail
  refine K.out.mono ?_
  rintro e w1 ⟨rfl, hb1⟩
  have t0 : SetAt w1 w.heap.size a b := S0.out.below (by simp; omega) hb1
  have t1 : SetAt w1 (w.heap.size + 1) c d := S1.out.below (by simp) hb1
  have bb1 : Below w.heap.size w w1 := B1.out.trans (hb1.mono (by simp; omega))
  have Ca0 := Lib.hid t0.fst
  have Ca1 := Lib.hid t0.snd
  have Cb0 := Lib.hid t1.fst
  have Cb1 := Lib.hid t1.snd
  have LTa := Lib.hid t0.lt
  have LTb := Lib.hid t1.lt
  go_upto_region 3 with fail
  obtain ⟨pa, hpa⟩ : ∃ pa, w.heap.size = pa := ⟨_, rfl⟩
  obtain ⟨pb, hpb⟩ : ∃ pb, w.heap.size + 1 = pb := ⟨_, rfl⟩
  rw [hpb] at Cb0 Cb1 LTb
  rw [hpa] at Ca0 Ca1 LTa
  rw [hpb, hpa]
  refine wp_region_slots_at rfl rfl (fun base ys => ((((((((((((base.set 16 (ys 0)).set 17 (ys 1)).set 18 (ys 2)).set 19 (ys 3)).set 20 (ys 4)).set 21 (ys 5)).set 22 (ys 6)).set 23 (ys 7)).set 24 (ys 8)).set 7 (ys 9)).set 8 (ys 10)).set 9 (ys 11))) (BoxI 9 12 3 34 w1 (combInv a b c d) (combV0 a c) (combV0 b d)) (fun _ => undef) (by kernel_rfl) ?h0 ?h
  case h0 =>
    refine ⟨(Below.refl _ _).drew, fun j hj => ?_, fun i hi hl => ?_, fun i hi hl => ?_, fun i j hi hj hne hl => ?_⟩
    · have : 15 ≤ j := of_decide_eq_true hj
      obtain ⟨k, rfl⟩ : ∃ k, j = k + 9 := ⟨j - 9, by omega⟩
      trivial
    · have : 15 ≤ 12 + i := of_decide_eq_true hl
      omega
    · have : 15 ≤ 9 + i := of_decide_eq_true hl
      omega
    · have : 15 ≤ 9 + i := of_decide_eq_true hl
      omega
  case h =>
    intro F hF
    simp only [List.set_cons_succ, List.set_cons_zero] at hF
    subst hF
    refine ⟨rfl, ?_, ?_⟩
    refine ⟨?_, ?_⟩
    · intro L ys W hn hd hI K hK
      have c0 := (hI.below.cell (p := ⟨pa, 0, none⟩) (LTa.out)).trans (Ca0.out)
      have c1 := (hI.below.cell (p := ⟨pa, 1, none⟩) (LTa.out)).trans (Ca1.out)
      go_simp
      exact hK _ _ (hI.other (by decide) (by decide) rfl (Below.refl _ _))
    refine ⟨?_, ?_⟩
    · intro L ys W hn hd hI K hK
      have c0 := (hI.below.cell (p := ⟨pb, 0, none⟩) (LTb.out)).trans (Cb0.out)
      have c1 := (hI.below.cell (p := ⟨pb, 1, none⟩) (LTb.out)).trans (Cb1.out)
      go_simp
      exact hK _ _ (hI.other (by decide) (by decide) rfl (Below.refl _ _))
    refine ⟨?_, ?_⟩
    · intro L ys W hn hd hI K hK
      have d0 : ys 0 = .agg #[.int .u64 a, .int .u64 b] := hI.inv 0 (waits_at hd (by kernel_rfl))
      have d1 : ys 1 = .agg #[.int .u64 c, .int .u64 d] := hI.inv 1 (waits_at hd (by kernel_rfl))
      go_simp
      refine (UN.out _).mono ?_
      rintro e W' ⟨rfl, hb⟩
      have hK2 := hK _ _ (hI.other (by decide) (by decide) rfl hb)
      simp (config := { decide := true }) only [upd, if_true, if_false, d0, d1] at hK2
      exact hK2
    refine ⟨?_, ?_⟩
    · intro L ys W hn hd hI K hK
      have c0 := (hI.below.cell (p := ⟨pa, 0, none⟩) (LTa.out)).trans (Ca0.out)
      have c1 := (hI.below.cell (p := ⟨pa, 1, none⟩) (LTa.out)).trans (Ca1.out)
      go_simp
      exact hK _ _ (hI.other (by decide) (by decide) rfl (Below.refl _ _))
    refine ⟨?_, ?_⟩
    · intro L ys W hn hd hI K hK
      have c0 := (hI.below.cell (p := ⟨pb, 0, none⟩) (LTb.out)).trans (Cb0.out)
      have c1 := (hI.below.cell (p := ⟨pb, 1, none⟩) (LTb.out)).trans (Cb1.out)
      go_simp
      exact hK _ _ (hI.other (by decide) (by decide) rfl (Below.refl _ _))
    refine ⟨?_, ?_⟩
    · intro L ys W hn hd hI K hK
      have d0 : ys 3 = .agg #[.int .u64 a, .int .u64 b] := hI.inv 3 (waits_at hd (by kernel_rfl))
      have d1 : ys 4 = .agg #[.int .u64 c, .int .u64 d] := hI.inv 4 (waits_at hd (by kernel_rfl))
      go_simp
      refine (BO.out _).mono ?_
      rintro e W' ⟨rfl, hb⟩
      have hK2 := hK _ _ (hI.other (by decide) (by decide) rfl hb)
      simp (config := { decide := true }) only [upd, if_true, if_false, d0, d1] at hK2
      exact hK2
    refine ⟨?_, ?_⟩
    · intro L ys W hn hd hI K hK
      have c0 := (hI.below.cell (p := ⟨pa, 0, none⟩) (LTa.out)).trans (Ca0.out)
      have c1 := (hI.below.cell (p := ⟨pa, 1, none⟩) (LTa.out)).trans (Ca1.out)
      go_simp
      exact hK _ _ (hI.other (by decide) (by decide) rfl (Below.refl _ _))
    refine ⟨?_, ?_⟩
    · intro L ys W hn hd hI K hK
      have c0 := (hI.below.cell (p := ⟨pb, 0, none⟩) (LTb.out)).trans (Cb0.out)
      have c1 := (hI.below.cell (p := ⟨pb, 1, none⟩) (LTb.out)).trans (Cb1.out)
      go_simp
      exact hK _ _ (hI.other (by decide) (by decide) rfl (Below.refl _ _))
    refine ⟨?_, ?_⟩
    · intro L ys W hn hd hI K hK
      have d0 : ys 6 = .agg #[.int .u64 a, .int .u64 b] := hI.inv 6 (waits_at hd (by kernel_rfl))
      have d1 : ys 7 = .agg #[.int .u64 c, .int .u64 d] := hI.inv 7 (waits_at hd (by kernel_rfl))
      go_simp
      refine (WO.out _).mono ?_
      rintro e W' ⟨rfl, hb⟩
      have hK2 := hK _ _ (hI.other (by decide) (by decide) rfl hb)
      simp (config := { decide := true }) only [upd, if_true, if_false, d0, d1] at hK2
      exact hK2
    refine ⟨?_, ?_⟩
    · intro L ys W hn hd hI K hK
      go_simp
      exact hK _ _ (hI.alloc (i := 0) (by decide) (by decide) hn trivial)
    refine ⟨?_, ?_⟩
    · intro L ys W hn hd hI K hK
      go_simp
      exact hK _ _ (hI.alloc (i := 1) (by decide) (by decide) hn trivial)
    refine ⟨?_, ?_⟩
    · intro L ys W hn hd hI K hK
      go_simp
      exact hK _ _ (hI.alloc (i := 2) (by decide) (by decide) hn trivial)
    refine ⟨?_, ?_⟩
    · intro L ys W hn hd hI K hK
      obtain ⟨q, x0, x1, hy, hq, hh, _⟩ := hI.box 0 (by decide) (waits_at hd (by kernel_rfl))
      have f0 := cells_f0 hh
      have f1 := cells_f1 hh
      have g0 := cells_fst hh
      have g1 := cells_snd hh
      have hy' : ys 9 = _ := hy
      have dv : ys 2 = .agg #[.int .u64 (a ||| c : Nat), .int .u64 (b ||| d : Nat)] := hI.inv 2 (waits_at hd (by kernel_rfl))
      go_simp
      have hK2 := hK undef _ (hI.store (i := 0) (by decide) (by decide) (waits_at hd (by kernel_rfl)) hy trivial)
      simp (config := { decide := true }) only [upd, if_false, hy', dv, combV0] at hK2
      exact hK2
    refine ⟨?_, ?_⟩
    · intro L ys W hn hd hI K hK
      obtain ⟨q, x0, x1, hy, hq, hh, _⟩ := hI.box 1 (by decide) (waits_at hd (by kernel_rfl))
      have f0 := cells_f0 hh
      have f1 := cells_f1 hh
      have g0 := cells_fst hh
      have g1 := cells_snd hh
      have hy' : ys 10 = _ := hy
      have dv : ys 5 = .agg #[.int .u64 (a &&& c : Nat), .int .u64 (b &&& d : Nat)] := hI.inv 5 (waits_at hd (by kernel_rfl))
      go_simp
      have hK2 := hK undef _ (hI.store (i := 1) (by decide) (by decide) (waits_at hd (by kernel_rfl)) hy trivial)
      simp (config := { decide := true }) only [upd, if_false, hy', dv, combV0] at hK2
      exact hK2
    refine ⟨?_, ?_⟩
    · intro L ys W hn hd hI K hK
      obtain ⟨q, x0, x1, hy, hq, hh, _⟩ := hI.box 2 (by decide) (waits_at hd (by kernel_rfl))
      have f0 := cells_f0 hh
      have f1 := cells_f1 hh
      have g0 := cells_fst hh
      have g1 := cells_snd hh
      have hy' : ys 11 = _ := hy
      have dv : ys 8 = .agg #[.int .u64 (Ns.wo a c : Nat), .int .u64 (Ns.wo b d : Nat)] := hI.inv 8 (waits_at hd (by kernel_rfl))
      go_simp
      have hK2 := hK undef _ (hI.store (i := 2) (by decide) (by decide) (waits_at hd (by kernel_rfl)) hy trivial)
      simp (config := { decide := true }) only [upd, if_false, hy', dv, combV0] at hK2
      exact hK2
    trivial

    intro L ys W hL hI
    obtain ⟨pu, u0, u1, hyu, hnu, hhu, hcu⟩ := hI.box 0 (by decide) (hL 9 (by decide))
    obtain ⟨pc, v0, v1, hyc, hnc, hhc, hcc⟩ := hI.box 1 (by decide) (hL 10 (by decide))
    obtain ⟨pv, x0, x1, hyv, hnv, hhv, hcv⟩ := hI.box 2 (by decide) (hL 11 (by decide))
    obtain ⟨rfl, rfl⟩ := hcu (hL 12 (by decide))
    obtain ⟨rfl, rfl⟩ := hcc (hL 13 (by decide))
    obtain ⟨rfl, rfl⟩ := hcv (hL 14 (by decide))
    have hbW := hI.below
    have hR : CombR w pa pb pu pc pv a b c d W := by
      have k0 := (hbW.cell (p := ⟨pa, 0, none⟩) LTa.out).trans Ca0.out
      have k1 := (hbW.cell (p := ⟨pa, 1, none⟩) LTa.out).trans Ca1.out
      have k2 := (hbW.cell (p := ⟨pb, 0, none⟩) LTb.out).trans Cb0.out
      have k3 := (hbW.cell (p := ⟨pb, 1, none⟩) LTb.out).trans Cb1.out
      exact ⟨⟨k0, k1, Nat.lt_of_lt_of_le LTa.out hbW.size⟩, ⟨k2, k3, Nat.lt_of_lt_of_le LTb.out hbW.size⟩, ⟨cells_fst hhu, cells_snd hhu, heap_lt hhu⟩, ⟨cells_fst hhc, cells_snd hhc, heap_lt hhc⟩, ⟨cells_fst hhv, cells_snd hhv, heap_lt hhv⟩, bb1.trans (hbW.mono bb1.size)⟩
    have hyu' : ys 9 = _ := hyu
    have hyc' : ys 10 = _ := hyc
    have hyv' : ys 11 = _ := hyv
    simp only [hyu', hyc', hyv']
    generalize ys 0 = y0
    generalize ys 1 = y1
    generalize ys 2 = y2
    generalize ys 3 = y3
    generalize ys 4 = y4
    generalize ys 5 = y5
    generalize ys 6 = y6
    generalize ys 7 = y7
    generalize ys 8 = y8
    clear hL hI hyu hyc hyv hyu' hyc' hyv' hhu hhc hhv hcu hcc hcv hnu hnc hnv hbW t0 t1 hb1 bb1 hpb Ca0 Ca1 Cb0 Cb1 LTa LTb B1 S0 S1 K UN BO WO
    obtain ⟨wi, hwi⟩ : ∃ wi : Nat → Bool, wi = fun k => (List.range k).all fun m => !Ns.has a b m || Ns.has c d m := ⟨_, rfl⟩
    have wi0 : wi 0 = true := by rw [hwi]; rfl
    have wis : ∀ k, wi (k + 1) = (wi k && (!Ns.has a b k || Ns.has c d k)) := fun k => by rw [hwi]; simp [List.range_succ]
    have wie : Ns.withinB a b c d = wi 128 := by rw [hwi]; exact withinB_all a b c d la lb lc ld
    have WI0 := Lib.hid wi0
    have WIS := Lib.hid wis
    have WIE := Lib.hid wie
    clear hwi wi0 wis wie
    go_wp2_with fail
    go_loopw [11, 10] (fun i v wr => ∃ k : Nat, k ≤ 128 ∧ i = .int .i64 (k : Int) ∧ v = .bool (wi k) ∧ CombR w pa pb pu pc pv a b c d wr) (fun i _ _ => 128 - (intOf i).toNat)
    case atStart => exact ⟨0, Nat.zero_le _, rfl, by rw [WI0.out], hR⟩
    case round =>
      obtain ⟨k, hk, rfl, rfl, hR⟩ := hrel
      by_cases h1 : k < 128
      · have RA := Lib.hid (fun W => rhas_below a b k h1 la lb W)
        have RB := Lib.hid (fun W => rhas_below c d k h1 lc ld W)
        have RU := Lib.hid (fun W => rhas_below (a ||| c) (b ||| d) k h1 (Ns.or_lt la lc) (Ns.or_lt lb ld) W)
        have RC := Lib.hid (fun W => rhas_below (a &&& c) (b &&& d) k h1 (Ns.and_lt _ la) (Ns.and_lt _ lb) W)
        have RV := Lib.hid (fun W => rhas_below (Ns.wo a c) (Ns.wo b d) k h1 (Ns.wo_lt _ _ la) (Ns.wo_lt _ _ lb) W)
        rw [Ns.has_or] at RU
        rw [Ns.has_and] at RC
        rw [Ns.has_wo _ _ _ _ _ la lb lc ld] at RV
        have hs := WIS.out k
        have hk127 : (k : Int) ≤ 127 := by omega
        generalize Ns.has a b k = x at *
        generalize Ns.has c d k = y at *
        generalize wi k = q at *
        have HS := Lib.hid hs
        have hR0 := hR.call (Below.refl _ _).drew
        clear hs
        cases x
        all_goals cases y
        all_goals cases q
        all_goals
          go_upto_region 8 with fail
          go_region_held3 (fun W => W.cell? ⟨pa, 0, none⟩ = some (.int .u64 a) ∧ W.cell? ⟨pa, 1, none⟩ = some (.int .u64 b) ∧ W.cell? ⟨pb, 0, none⟩ = some (.int .u64 c) ∧ W.cell? ⟨pb, 1, none⟩ = some (.int .u64 d) ∧ CombR w pa pb pu pc pv a b c d W) (exact ⟨hR0.A.fst, hR0.A.snd, hR0.B.fst, hR0.B.snd, hR0⟩)
            ((go_at_call 31; first | (with_reducible refine (RA.out _).mono ?_; rintro e w5 ⟨rfl, hb5⟩; have hR0 := hR0.call hb5) | (with_reducible refine (RB.out _).mono ?_; rintro e w5 ⟨rfl, hb5⟩; have hR0 := hR0.call hb5)))
        all_goals
          have u0 := hR0.U.fst
          have u1 := hR0.U.snd
          go_wp2_with fail
          refine (RU.out _).mono ?_
          rintro e w6 ⟨rfl, hb6⟩
          have hR6 := hR0.call hb6
          have v0 := hR6.C.fst
          have v1 := hR6.C.snd
          clear u0 u1
          go_wp2_with fail
          refine (RC.out _).mono ?_
          rintro e w7 ⟨rfl, hb7⟩
          have hR7 := hR6.call hb7
          have x0 := hR7.V.fst
          have x1 := hR7.V.snd
          clear v0 v1
          go_wp2_with fail
          refine (RV.out _).mono ?_
          rintro e w8 ⟨rfl, hb8⟩
          have hR8 := hR7.call hb8
          clear x0 x1
          go_wp2
          go_roundw
          case rel => exact ⟨k + 1, by omega, by go_num, by rw [HS.out]; rfl, hR8⟩
          case measure => simp [intOf]; omega
      · obtain rfl : k = 128 := by omega
        have WC := Lib.hid (fun W => within_any a b c d la lb lc ld W)
        rw [WIE.out] at WC
        generalize wi 128 = q at WC
        have hR0 := hR.call (Below.refl _ _).drew
        cases ha
        all_goals cases hb_
        all_goals
          simp at hvab
          subst hvab
          obtain ⟨R, hRR⟩ : ∃ R, R = CombR w pa pb pu pc pv a b c d := ⟨_, rfl⟩
          have HRC : Hid (∀ A B, R A → Below A.heap.size A B → R B) := fun A B h k => by rw [hRR] at h ⊢; exact h.call k
          have HRB : Hid (∀ A, R A → Below w.heap.size w A) := fun A h => by rw [hRR] at h; exact h.below
          have toL : ∀ A, R A → CombR w pa pb pu pc pv a b c d A := fun A h => by rw [hRR] at h; exact h
          have f1 : ∀ z : Held R, z.W.cell? ⟨pa, 0, none⟩ = some (.int .u64 a) := fun z => (toL _ z.h).A.fst
          have f2 : ∀ z : Held R, z.W.cell? ⟨pa, 1, none⟩ = some (.int .u64 b) := fun z => (toL _ z.h).A.snd
          have f3 : ∀ z : Held R, z.W.cell? ⟨pb, 0, none⟩ = some (.int .u64 c) := fun z => (toL _ z.h).B.fst
          have f4 : ∀ z : Held R, z.W.cell? ⟨pb, 1, none⟩ = some (.int .u64 d) := fun z => (toL _ z.h).B.snd
          have f5 : ∀ z : Held R, z.W.cell? ⟨pu, 0, none⟩ = some (.int .u64 (a ||| c : Nat)) := fun z => (toL _ z.h).U.fst
          have f6 : ∀ z : Held R, z.W.cell? ⟨pu, 1, none⟩ = some (.int .u64 (b ||| d : Nat)) := fun z => (toL _ z.h).U.snd
          have hRx := (show R _ from by rw [hRR]; exact hR0)
          clear hR0 hRR toL hR WI0 WIS WIE
          have hne : Nonempty (Held R) := ⟨⟨_, hRx⟩⟩
          go_upto_region 12 with fail
          refine wp_region_quiet (C := fun W => ∃ z : Held R, W = z.W) (by kernel_rfl) (by kernel_rfl) ⟨⟨_, hRx⟩, rfl⟩ ?_
          simp only []
          repeat (quiet_step ((first | (with_reducible exact quiet_held HRC.out (WC.out _)) | (with_reducible exact quiet_held HRC.out (HH.out _)) | (with_reducible exact quiet_held HRC.out (HA.out _)) | (with_reducible exact quiet_held HRC.out (HB.out _)))))
          refine wpQuiet_nil ?_
          rintro w6 ⟨⟨W6, hR6⟩, rfl⟩
          have hB6 := HRB.out _ hR6
          go_wp2
          go_ret
          exact ⟨rfl, hB6⟩

theorem combines_walk (a b c d n : Int) (w : World) (G : Gl w) (h1 : 0 ≤ a) (h2 : a ≤ 18446744073709551615) (h3 : 0 ≤ b) (h4 : b ≤ 18446744073709551615) (h5 : 0 ≤ c) (h6 : c ≤ 18446744073709551615) (h7 : 0 ≤ d) (h8 : d ≤ 18446744073709551615) :
    Calls Tryd.prog 7 #[.agg #[.int .u64 a, .int .u64 b], .agg #[.int .u64 c, .int .u64 d], .int .i64 n] w fun e w' => e = .returned (.bool true) ∧ Below w.heap.size w w' := by
  obtain ⟨x, rfl⟩ := Int.eq_ofNat_of_zero_le h1
  obtain ⟨y, rfl⟩ := Int.eq_ofNat_of_zero_le h3
  obtain ⟨u, rfl⟩ := Int.eq_ofNat_of_zero_le h5
  obtain ⟨v, rfl⟩ := Int.eq_ofNat_of_zero_le h7
  have lx : x < 18446744073709551616 := by omega
  have ly : y < 18446744073709551616 := by omega
  have lu : u < 18446744073709551616 := by omega
  have lv : v < 18446744073709551616 := by omega
  by_cases hn : n < 0 ∨ 127 < n
  · have hb : ∀ (a b : Nat) (W : World), Calls Tryd.prog 31 #[.agg #[.int .u64 a, .int .u64 b], .int .i64 n] W fun e w' => e = .returned (.bool false) ∧ Below W.heap.size W w' :=
      fun a b W => (rhas_no a b n hn W).mono fun _ _ ⟨h1, h2⟩ => ⟨h1, h2 ▸ (Below.refl _ _).alloc (Nat.le_refl _) _⟩
    exact combines_law x y u v n false false false rfl lx ly lu lv w G (fun W => has_no _ _ n hn W) (fun W => hb _ _ W) (fun W => hb _ _ W)
  · obtain ⟨m, rfl⟩ : ∃ m : Nat, n = m := ⟨n.toNat, by omega⟩
    have hm : m < 128 := by omega
    refine combines_law x y u v m _ _ _ (Ns.has_or x y u v m) lx ly lu lv w G (fun W => ?_) (fun W => rhas_below x y m hm lx ly W) (fun W => rhas_below u v m hm lu lv W)
    rw [← withinB_has _ _ m hm (Ns.or_lt lx lu) (Ns.or_lt ly lv)]
    exact has_yes _ _ m hm (Ns.or_lt lx lu) (Ns.or_lt ly lv) W
end Go.Proofs.YtibdnfcbgcbdeaaDoor
