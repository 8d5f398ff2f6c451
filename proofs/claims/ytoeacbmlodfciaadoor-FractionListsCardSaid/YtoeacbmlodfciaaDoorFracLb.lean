/- Contract of the reference's Sum over a list of right fractions: the numbers added up one after another, as FracMath.sumL says. -/
import Derived.Test.YtoeacbmlodfciaaDoorFracLa
namespace Go.Proofs.YtoeacbmlodfciaaDoor
open Go.RowKit

/-- What the operations of 'next, e := Add(sum, l[i])' yield. -/
def sumInv (a b c d p q e : Int) (B off cap n k : Nat) (j : Nat) (v : Value) : Prop :=
  match j with
  | 0 => v = .agg #[.int .i64 a, .int .i64 b]
  | 1 => v = .slice (some ⟨B, off, none⟩) n cap
  | 2 => v = .int .i64 (k : Nat)
  | 3 => v = .pointer (some ⟨B, off + k * 2, none⟩)
  | 4 => v = .agg #[.int .i64 c, .int .i64 d]
  | 5 => v = .tuple #[.agg #[.int .i64 p, .int .i64 q], .int .i64 e]
  | 6 => v = .tuple #[.agg #[.int .i64 p, .int .i64 q], .int .i64 e]
  | 7 => v = .agg #[.int .i64 p, .int .i64 q]
  | 8 => v = .int .i64 e
  | 11 => v = .int .i64 e
  | _ => True

set_option maxRecDepth 100000 in
set_option maxHeartbeats 8000000 in
theorem rsum_row (sa : Option Addr) (B off cap n : Nat) (X Y : Nat → Int) (w : World) (hn : n ≤ 1099511627776) (ha : 0 < n → sa = some ⟨B, off, none⟩ ∧ B < w.heap.size)
    (hx : ∀ k, k < n → w.cell? ⟨B, off + k * 2, none⟩ = some (.int .i64 (X k)) ∧ w.cell? ⟨B, off + k * 2 + 1, none⟩ = some (.int .i64 (Y k)))
    (hr : ∀ k, k < n → FracMath.rightB (X k) (Y k) = true) (L : List (Int × Int)) (hL : L.length = n) (hd : ∀ k, k < n → L.drop k = (X k, Y k) :: L.drop (k + 1))
    (r1 r2 r3 : Int) (hR : FracMath.sumL 0 1 L = (r1, r2, r3)) :
    Calls Tryd.prog 20 #[.slice sa n cap] w fun e w' =>
      e = .returned (.tuple #[.agg #[.int .i64 r1, .int .i64 r2], .int .i64 r3]) ∧ Below w.heap.size w w' := by
  have HX := Lib.hid hx
  have HR := Lib.hid hr
  have HL := Lib.hid hL
  have HD := Lib.hid hd
  have HRR := Lib.hid hR
  have r01 : FracMath.rightB 0 1 = true := by decide +kernel
  have HA := Lib.hid ha
  clear hx hr hL hd hR ha
  go_enter Tryd.func20, Tryd.ntmps20
  go_wp2_with fail
  go_loopw [4] (fun i wr => ∃ k : Nat, k ≤ n ∧ i = .int .i64 (k : Int) ∧ FAt wr w.heap.size 0 0 ∧ Below w.heap.size w wr) (fun i _ => n - (intOf i).toNat)
  case atStart => exact ⟨0, Nat.zero_le _, rfl, FAt.new w 0 0, (Below.refl _ _).alloc (Nat.le_refl _) _⟩
  case round =>
    obtain ⟨k, hk, rfl, hf, hw⟩ := hrel
    have hsz := hw.size
    by_cases h1 : k < n
    · obtain ⟨rfl, hB⟩ := HA.out (by omega)
      have hx0 := (hw.cell (p := ⟨B, off + k * 2, none⟩) hB).trans (HX.out k h1).1
      have hx1 := (hw.cell (p := ⟨B, off + k * 2 + 1, none⟩) hB).trans (HX.out k h1).2
      have hkn : (k : Int) < (n : Int) := by omega
      have RR := fun W => ref_right_any (X k) (Y k) W
      rw [HR.out k h1] at RR
      have RRR := Lib.hid RR
      clear RR
      go_wp2_with fail
      refine (RRR.out _).mono ?_
      rintro e w3 ⟨rfl, hb3⟩
      go_wp2
      go_roundw
      case rel => exact ⟨k + 1, by omega, by go_num, hf.call hb3, hw.trans (hb3.mono (by omega))⟩
      case measure => simp [intOf]; omega
    · have hS : SumS w w.heap.size wr.heap.size 0 1 (wr.alloc (.cells #[.int .i64 0, .int .i64 1] 27)) :=
        ⟨FAt.new wr 0 1, hf.alloc _, by have := hf.lt; omega, Nat.le_refl _, by omega, hw.alloc (by omega) _⟩
      obtain ⟨ps, hps⟩ : ∃ ps, wr.heap.size = ps := ⟨_, rfl⟩
      rw [hps] at hS
      obtain rfl : k = n := by omega
      go_wp2_with fail
      clear hps hf hw hsz
      go_loopw [6] (fun i wr => ∃ (k' : Nat) (a b : Int), k' ≤ k ∧ i = .int .i64 (k' : Int) ∧ FracMath.rightB a b = true ∧ FracMath.sumL a b (L.drop k') = (r1, r2, r3) ∧ SumS w w.heap.size ps a b wr) (fun i _ => k - (intOf i).toNat)
      case atStart => exact ⟨0, 0, 1, Nat.zero_le _, rfl, r01, HRR.out, hS⟩
      case round =>
        obtain ⟨k', a, b, hk', rfl, hab, hRk, hs⟩ := hrel
        have HRK := Lib.hid hRk
        clear hRk hS h1 hk
        obtain ⟨n, hn'⟩ : ∃ n, n = k := ⟨_, rfl⟩
        subst hn'
        obtain ⟨k, hk'2⟩ : ∃ k, k = k' := ⟨_, rfl⟩
        subst hk'2
        have hsz := hs.below.size
        by_cases h1 : k < n
        · obtain ⟨rfl, hB⟩ := HA.out (by omega)
          have X0 := Lib.hid ((hs.below.cell (p := ⟨B, off + k * 2, none⟩) hB).trans (HX.out k h1).1)
          have X1 := Lib.hid ((hs.below.cell (p := ⟨B, off + k * 2 + 1, none⟩) hB).trans (HX.out k h1).2)
          have hkn : (k : Int) < (n : Int) := by omega
          have hxy := HR.out k h1
          have HDk := Lib.hid (HD.out k h1)
          have AD0 := fun W => ref_add_right a b (X k) (Y k) W hab hxy
          have hcase := FracMath.add_cases hab hxy
          have S0 := Lib.hid hs.sum.fst
          have S1 := Lib.hid hs.sum.snd
          have LS := Lib.hid hs.sum.lt
          have LB := Lib.hid (show B < wr.heap.size by omega)
          obtain ⟨p, hp⟩ : ∃ p, (FracMath.mk (a * Y k + X k * b) (b * Y k)).1 = p := ⟨_, rfl⟩
          obtain ⟨q, hq⟩ : ∃ q, (FracMath.mk (a * Y k + X k * b) (b * Y k)).2.1 = q := ⟨_, rfl⟩
          obtain ⟨e, he⟩ : ∃ e, (FracMath.mk (a * Y k + X k * b) (b * Y k)).2.2 = e := ⟨_, rfl⟩
          have hmk : FracMath.mk (a * Y k + X k * b) (b * Y k) = (p, q, e) := by rw [← hp, ← hq, ← he]
          rw [hp, hq, he] at AD0
          rw [hmk] at hcase
          have HMK := Lib.hid hmk
          have AD := Lib.hid AD0
          have HC := Lib.hid hcase
          clear AD0 hcase hp hq he hmk hxy
          generalize X k = c at *
          generalize Y k = d at *
          go_upto_region 10 with fail
          refine wp_region_slots_at rfl rfl (fun base ys => (((((((((((base.set 30 (ys 0)).set 31 (ys 1)).set 32 (ys 2)).set 33 (ys 3)).set 34 (ys 4)).set 35 (ys 5)).set 29 (ys 6)).set 36 (ys 7)).set 37 (ys 8)).set 7 (ys 9)).set 8 (ys 11))) (BoxI 9 10 1 27 wr (sumInv a b c d p q e B off cap n k) (fun _ => .int .i64 p) (fun _ => .int .i64 q)) (fun j => match j with | 0 => u30 | 1 => u31 | 2 => u32 | 3 => u33 | 4 => u34 | 5 => u35 | 6 => u29 | 7 => u36 | 8 => u37 | 9 => u7 | 11 => u8 | _ => undef) (by kernel_rfl) ?h0 ?h
          case h0 =>
            refine ⟨(Below.refl _ _).drew, fun j hj => ?_, fun i hi hl => ?_, fun i hi hl => ?_, fun i j hi hj hne hl => ?_⟩
            · have : 12 ≤ j := of_decide_eq_true hj
              obtain ⟨k, rfl⟩ : ∃ k, j = k + 12 := ⟨j - 12, by omega⟩
              trivial
            · have : 12 ≤ 10 + i := of_decide_eq_true hl
              omega
            · have : 12 ≤ 9 + i := of_decide_eq_true hl
              omega
            · have : 12 ≤ 9 + i := of_decide_eq_true hl
              omega
          case h =>
            intro F hF
            simp only [List.set_cons_succ, List.set_cons_zero] at hF
            subst hF
            refine ⟨rfl, ?_, ?_⟩
            refine ⟨?_, ?_⟩
            · intro L ys W hn hd hI K hK
              have c0 := (hI.below.cell (p := ⟨ps, 0, none⟩) LS.out).trans S0.out
              have c1 := (hI.below.cell (p := ⟨ps, 1, none⟩) LS.out).trans S1.out
              go_simp
              have hK2 := hK _ _ (hI.other (v := .agg #[.int .i64 a, .int .i64 b]) (by decide) (by decide) rfl (Below.refl _ _))
              simp (config := { decide := true }) only [upd, if_false, if_true] at hK2
              exact hK2
            refine ⟨?_, ?_⟩
            · intro L ys W hn hd hI K hK
              go_simp
              have hK2 := hK _ _ (hI.other (v := .slice (some ⟨B, off, none⟩) n cap) (by decide) (by decide) rfl (Below.refl _ _))
              simp (config := { decide := true }) only [upd, if_false, if_true] at hK2
              exact hK2
            refine ⟨?_, ?_⟩
            · intro L ys W hn hd hI K hK
              go_simp
              have hK2 := hK _ _ (hI.other (v := .int .i64 (k : Nat)) (by decide) (by decide) rfl (Below.refl _ _))
              simp (config := { decide := true }) only [upd, if_false, if_true] at hK2
              exact hK2
            refine ⟨?_, ?_⟩
            · intro L ys W hn hd hI K hK
              have d1 : ys 1 = .slice (some ⟨B, off, none⟩) n cap := hI.inv 1 (waits_at hd (by kernel_rfl))
              have d2 : ys 2 = .int .i64 (k : Nat) := hI.inv 2 (waits_at hd (by kernel_rfl))
              go_simp
              have hK2 := hK _ _ (hI.other (v := .pointer (some ⟨B, off + k * 2, none⟩)) (by decide) (by decide) rfl (Below.refl _ _))
              simp (config := { decide := true }) only [upd, if_false, if_true, d1, d2] at hK2
              exact hK2
            refine ⟨?_, ?_⟩
            · intro L ys W hn hd hI K hK
              have d3 : ys 3 = .pointer (some ⟨B, off + k * 2, none⟩) := hI.inv 3 (waits_at hd (by kernel_rfl))
              have c0 := (hI.below.cell (p := ⟨B, off + k * 2, none⟩) LB.out).trans X0.out
              have c1 := (hI.below.cell (p := ⟨B, off + k * 2 + 1, none⟩) LB.out).trans X1.out
              go_simp
              have hK2 := hK _ _ (hI.other (v := .agg #[.int .i64 c, .int .i64 d]) (by decide) (by decide) rfl (Below.refl _ _))
              simp (config := { decide := true }) only [upd, if_false, if_true, d3] at hK2
              exact hK2
            refine ⟨?_, ?_⟩
            · intro L ys W hn hd hI K hK
              have d0 : ys 0 = .agg #[.int .i64 a, .int .i64 b] := hI.inv 0 (waits_at hd (by kernel_rfl))
              have d4 : ys 4 = .agg #[.int .i64 c, .int .i64 d] := hI.inv 4 (waits_at hd (by kernel_rfl))
              go_simp
              refine (AD.out _).mono ?_
              rintro e' W' ⟨rfl, hb⟩
              have hK2 := hK _ _ (hI.other (v := .tuple #[.agg #[.int .i64 p, .int .i64 q], .int .i64 e]) (by decide) (by decide) rfl hb)
              simp (config := { decide := true }) only [upd, if_true, if_false, d0, d4] at hK2
              exact hK2
            refine ⟨?_, ?_⟩
            · intro L ys W hn hd hI K hK
              have d5 : ys 5 = .tuple #[.agg #[.int .i64 p, .int .i64 q], .int .i64 e] := hI.inv 5 (waits_at hd (by kernel_rfl))
              go_simp
              have hK2 := hK _ _ (hI.other (v := .tuple #[.agg #[.int .i64 p, .int .i64 q], .int .i64 e]) (by decide) (by decide) rfl (Below.refl _ _))
              simp (config := { decide := true }) only [upd, if_false, if_true, d5] at hK2
              exact hK2
            refine ⟨?_, ?_⟩
            · intro L ys W hn hd hI K hK
              have d6 : ys 6 = .tuple #[.agg #[.int .i64 p, .int .i64 q], .int .i64 e] := hI.inv 6 (waits_at hd (by kernel_rfl))
              go_simp
              have hK2 := hK _ _ (hI.other (v := .agg #[.int .i64 p, .int .i64 q]) (by decide) (by decide) rfl (Below.refl _ _))
              simp (config := { decide := true }) only [upd, if_false, if_true, d6] at hK2
              exact hK2
            refine ⟨?_, ?_⟩
            · intro L ys W hn hd hI K hK
              have d6 : ys 6 = .tuple #[.agg #[.int .i64 p, .int .i64 q], .int .i64 e] := hI.inv 6 (waits_at hd (by kernel_rfl))
              go_simp
              have hK2 := hK _ _ (hI.other (v := .int .i64 e) (by decide) (by decide) rfl (Below.refl _ _))
              simp (config := { decide := true }) only [upd, if_false, if_true, d6] at hK2
              exact hK2
            refine ⟨?_, ?_⟩
            · intro L ys W hn hd hI K hK
              go_simp
              exact hK _ _ (hI.alloc (i := 0) (by decide) (by decide) hn trivial)
            refine ⟨?_, ?_⟩
            · intro L ys W hn hd hI K hK
              obtain ⟨qq, x0, x1, hy, hq, hh, _⟩ := hI.box 0 (by decide) (waits_at hd (by kernel_rfl))
              have f0 := cells_f0 hh
              have f1 := cells_f1 hh
              have g0 := cells_fst hh
              have g1 := cells_snd hh
              have hy' : ys 9 = _ := hy
              have dv : ys 7 = .agg #[.int .i64 p, .int .i64 q] := hI.inv 7 (waits_at hd (by kernel_rfl))
              go_simp
              have hK2 := hK undef _ (hI.store (i := 0) (by decide) (by decide) (waits_at hd (by kernel_rfl)) hy trivial)
              simp (config := { decide := true }) only [upd, if_false, hy', dv] at hK2
              exact hK2
            refine ⟨?_, ?_⟩
            · intro L ys W hn hd hI K hK
              have d8 : ys 8 = .int .i64 e := hI.inv 8 (waits_at hd (by kernel_rfl))
              go_simp
              have hK2 := hK _ _ (hI.other (v := .int .i64 e) (by decide) (by decide) rfl (Below.refl _ _))
              simp (config := { decide := true }) only [upd, if_false, if_true, d8] at hK2
              exact hK2
            trivial

            intro L2 ys W hL2 hI
            obtain ⟨pn, u0, u1, hyn, hnn, hhn, hcn⟩ := hI.box 0 (by decide) (hL2 9 (by decide))
            obtain ⟨rfl, rfl⟩ := hcn (hL2 10 (by decide))
            have hbW := hI.below
            have hyn' : ys 9 = _ := hyn
            have hye : ys 11 = .int .i64 e := hI.inv 11 (hL2 11 (by decide))
            simp only [hyn', hye]
            have hs3 := hs.call hbW
            have hpn : ps ≠ pn := by have := LS.out; omega
            clear hL2 hI hyn hyn' hye hcn
            have n0 := cells_fst hhn
            have n1 := cells_snd hhn
            rcases HC.out with ⟨p', q', hm, hpq⟩ | hm
            · cases hm
              have hgo := HRK.out
              rw [HDk.out, FracMath.sumL_ok HMK.out] at hgo
              have HGO := Lib.hid hgo
              have u2 := hs3.sum.f0
              have u3 := hs3.sum.f1
              have u4 := hs3.sum.fst
              have u5 := hs3.sum.snd
              have hs5 := hs3.put p q
              clear hgo
              go_wp2
              go_roundw
              case rel => exact ⟨k + 1, p, q, by omega, by go_num, hpq, HGO.out, hs5⟩
              case measure => simp [intOf]; omega
            · cases hm
              have hfin := HRK.out.symm.trans ((congrArg (FracMath.sumL a b) HDk.out).trans (FracMath.sumL_bad HMK.out (by decide)))
              cases hfin
              have u2 := hs3.res.f0
              have u3 := hs3.res.f1
              have u4 := hs3.res.fst
              have u5 := hs3.res.snd
              have hp := hs3.res.put 0 0
              have v0 := hp.fst
              have v1 := hp.snd
              go_wp2
              refine bodyPost_ret (v := .tuple #[.agg #[.int .i64 0, .int .i64 0], .int .i64 4]) (by simp [results, Tryd.results20, go_sem, v0, v1]) rfl ⟨rfl, ?_⟩
              exact (hs3.below.setCell (p := ⟨w.heap.size, 0, none⟩) (Nat.le_refl _) _).setCell (p := ⟨w.heap.size, 1, none⟩) (Nat.le_refl _) _
        · obtain rfl : k = n := by omega
          have hfin : (r1, r2, r3) = (a, b, (0 : Int)) := by rw [← HRK.out, ← HL.out, List.drop_length]; rfl
          cases hfin
          have g0 := hs.sum.fst
          have g1 := hs.sum.snd
          have u2 := hs.res.f0
          have u3 := hs.res.f1
          have u4 := hs.res.fst
          have u5 := hs.res.snd
          have hp := hs.res.put r1 r2
          have v0 := hp.fst
          have v1 := hp.snd
          go_wp2
          refine bodyPost_ret (v := .tuple #[.agg #[.int .i64 r1, .int .i64 r2], .int .i64 0]) (by simp [results, Tryd.results20, go_sem, v0, v1]) rfl ⟨rfl, ?_⟩
          exact (hs.below.setCell (p := ⟨w.heap.size, 0, none⟩) (Nat.le_refl _) _).setCell (p := ⟨w.heap.size, 1, none⟩) (Nat.le_refl _) _
end Go.Proofs.YtoeacbmlodfciaaDoor
