/- Contracts of Sum over a list of right fractions, and of the reference's: the numbers added up one after another, as FracMath.sumL says. -/
import Derived.Test.YtoeacbmlodfciaaDoorFracQ
import Derived.Test.YtoeacbmlodfciaaDoorFracV
import Derived.Test.YtoeacbmlodfciaaDoorNsBx
namespace Go.Proofs.YtoeacbmlodfciaaDoor
open Go.RowKit

namespace FracMath
/-- What Sum returns: the numbers are added up; the first sum that is too great ends it. -/
def sumL : Int → Int → List (Int × Int) → Int × Int × Int
  | a, b, [] => (a, b, 0)
  | a, b, (c, d) :: r => if (mk (a * d + c * b) (b * d)).2.2 = 0 then sumL (mk (a * d + c * b) (b * d)).1 (mk (a * d + c * b) (b * d)).2.1 r else (0, 0, (mk (a * d + c * b) (b * d)).2.2)
theorem sumL_bad {a b c d e : Int} {r : List (Int × Int)} (h : mk (a * d + c * b) (b * d) = (0, 0, e)) (he : e ≠ 0) : sumL a b ((c, d) :: r) = (0, 0, e) := by
  rw [sumL, h, if_neg he]
theorem sumL_ok {a b c d p q : Int} {r : List (Int × Int)} (h : mk (a * d + c * b) (b * d) = (p, q, 0)) : sumL a b ((c, d) :: r) = sumL p q r := by
  rw [sumL, h, if_pos rfl]
theorem add_cases {a b c d : Int} (h1 : rightB a b = true) (h2 : rightB c d = true) : (∃ p q, mk (a * d + c * b) (b * d) = (p, q, 0) ∧ rightB p q = true) ∨ mk (a * d + c * b) (b * d) = (0, 0, 4) := by
  obtain ⟨k1, k2, k3, k4, k5⟩ := right_of h1
  obtain ⟨l1, l2, l3, l4, l5⟩ := right_of h2
  have hbd := Int.mul_pos (a := b) (b := d) (by omega) (by omega)
  rcases mk_cases (n := a * d + c * b) (d := b * d) (by omega) with ⟨p, q, h⟩ | h
  · exact .inl ⟨p, q, h, (mk_val (by omega) h).1⟩
  · exact .inr h
end FracMath

/-- A fraction lies in a block of its own. -/
def FAt (w : World) (b : Nat) (n d : Int) : Prop := w.heap[b]? = some (.cells #[.int .i64 n, .int .i64 d] 27)
theorem FAt.fst {w : World} {b : Nat} {n d : Int} (h : FAt w b n d) : w.cell? ⟨b, 0, none⟩ = some (.int .i64 n) := cells_fst h
theorem FAt.snd {w : World} {b : Nat} {n d : Int} (h : FAt w b n d) : w.cell? ⟨b, 1, none⟩ = some (.int .i64 d) := cells_snd h
theorem FAt.f0 {w : World} {b : Nat} {n d : Int} (h : FAt w b n d) : w.frozen? ⟨b, 0, none⟩ = false := cells_f0 h
theorem FAt.f1 {w : World} {b : Nat} {n d : Int} (h : FAt w b n d) : w.frozen? ⟨b, 1, none⟩ = false := cells_f1 h
theorem FAt.lt {w : World} {b : Nat} {n d : Int} (h : FAt w b n d) : b < w.heap.size := heap_lt h
theorem FAt.new (w : World) (n d : Int) : FAt (w.alloc (.cells #[.int .i64 n, .int .i64 d] 27)) w.heap.size n d := World.alloc_heap_new w _
theorem FAt.below {w w' : World} {b B : Nat} {n d : Int} (h : FAt w b n d) (hB : b < B) (hb : Below B w w') : FAt w' b n d := (hb.block b hB).trans h
theorem FAt.call {w w' : World} {b : Nat} {n d : Int} (h : FAt w b n d) (hb : Below w.heap.size w w') : FAt w' b n d := h.below h.lt hb
theorem FAt.alloc {w : World} {b : Nat} {n d : Int} (h : FAt w b n d) (o : Obj) : FAt (w.alloc o) b n d := (Below.heap_alloc _ _ _ h.lt).trans h
theorem FAt.put {w : World} {b : Nat} {n d : Int} (h : FAt w b n d) (x y : Int) : FAt ((w.setCell ⟨b, 0, none⟩ (.int .i64 x)).setCell ⟨b, 1, none⟩ (.int .i64 y)) b x y := set_two h
theorem FAt.other {w : World} {b b' : Nat} {n d : Int} (h : FAt w b n d) (hne : b ≠ b') (x y : Value) : FAt ((w.setCell ⟨b', 0, none⟩ x).setCell ⟨b', 1, none⟩ y) b n d := (set_two_other hne).trans h

/-- What is kept between the rounds: the sum in its box, the result's box, and nothing else written. -/
structure SumS (w : World) (pr ps : Nat) (a b : Int) (W : World) : Prop where
  sum : FAt W ps a b
  res : FAt W pr 0 0
  ne : pr ≠ ps
  hr : w.heap.size ≤ pr
  hs : w.heap.size ≤ ps
  below : Below w.heap.size w W
theorem SumS.call {w W W' : World} {pr ps : Nat} {a b : Int} (h : SumS w pr ps a b W) (hb : Below W.heap.size W W') : SumS w pr ps a b W' :=
  ⟨h.sum.call hb, h.res.call hb, h.ne, h.hr, h.hs, h.below.trans (hb.mono h.below.size)⟩
theorem SumS.alloc {w W : World} {pr ps : Nat} {a b : Int} (h : SumS w pr ps a b W) (o : Obj) : SumS w pr ps a b (W.alloc o) := h.call ((Below.refl _ _).alloc (Nat.le_refl _) _)
theorem SumS.put {w W : World} {pr ps : Nat} {a b : Int} (h : SumS w pr ps a b W) (x y : Int) : SumS w pr ps x y ((W.setCell ⟨ps, 0, none⟩ (.int .i64 x)).setCell ⟨ps, 1, none⟩ (.int .i64 y)) :=
  ⟨h.sum.put x y, h.res.other h.ne _ _, h.ne, h.hr, h.hs, (h.below.setCell (p := ⟨ps, 0, none⟩) h.hs _).setCell (p := ⟨ps, 1, none⟩) h.hs _⟩

theorem checkAll_empty (sa : Option Addr) (cap : Nat) (w : World) : Calls Tryd.prog 32 #[.slice sa 0 cap] w fun e w' => e = .returned (.int .i64 0) ∧ Below w.heap.size w w' := by
  go_enter Tryd.func32, Tryd.ntmps32
  go_wp2
  go_loopw [8] (fun i wr => i = .int .i64 0 ∧ wr = w) (fun _ _ => 0)
  case atStart => exact ⟨rfl, rfl⟩
  case round =>
    obtain ⟨rfl, rfl⟩ := hrel
    go_wp2
    go_ret
    exact ⟨rfl, Below.refl _ _⟩

set_option maxRecDepth 100000 in
set_option maxHeartbeats 4000000 in
theorem sum_row (sa : Option Addr) (B off cap n : Nat) (X Y : Nat → Int) (w : World) (hn : n ≤ 1099511627776) (ha : 0 < n → sa = some ⟨B, off, none⟩ ∧ B < w.heap.size)
    (hx : ∀ k, k < n → w.cell? ⟨B, off + k * 2, none⟩ = some (.int .i64 (X k)) ∧ w.cell? ⟨B, off + k * 2 + 1, none⟩ = some (.int .i64 (Y k)))
    (hr : ∀ k, k < n → FracMath.rightB (X k) (Y k) = true) (L : List (Int × Int)) (hL : L.length = n) (hd : ∀ k, k < n → L.drop k = (X k, Y k) :: L.drop (k + 1))
    (r1 r2 r3 : Int) (hR : FracMath.sumL 0 1 L = (r1, r2, r3)) :
    Calls Tryd.prog 19 #[.slice sa n cap] w fun e w' =>
      e = .returned (.tuple #[.agg #[.int .i64 r1, .int .i64 r2], .int .i64 r3]) ∧ Below w.heap.size w w' := by
  have HA := Lib.hid ha
  have CA := Lib.hid (show ∀ W : World, Below w.heap.size w W → Calls Tryd.prog 32 #[.slice sa n cap] W fun e w' => e = .returned (.int .i64 0) ∧ Below W.heap.size W w' from fun W hW => by
    by_cases h0 : n = 0
    · subst h0; exact checkAll_empty sa cap W
    · obtain ⟨rfl, hB⟩ := ha (by omega)
      exact checkAll_upto B off cap n n X Y W (Nat.le_refl _) hn (Nat.lt_of_lt_of_le hB hW.size) (fun k hk => ⟨(hW.cell (p := ⟨B, off + k * 2, none⟩) hB).trans (hx k hk).1, (hW.cell (p := ⟨B, off + k * 2 + 1, none⟩) hB).trans (hx k hk).2⟩) hr (fun h => absurd h (Nat.lt_irrefl _)) 0 (by rw [if_pos rfl]))
  have HX := Lib.hid hx
  have HR := Lib.hid hr
  have HL := Lib.hid hL
  have HD := Lib.hid hd
  have HRR := Lib.hid hR
  have r01 : FracMath.rightB 0 1 = true := by decide +kernel
  clear hx hr hL hd hR ha
  go_enter Tryd.func19, Tryd.ntmps19
  go_wp2_with fail
  refine (CA.out _ ((Below.refl _ _).alloc (Nat.le_refl _) _)).mono ?_
  rintro e w1 ⟨rfl, hb1⟩
  have hz1 := hb1.size
  simp at hz1
  have hS : SumS w w.heap.size w1.heap.size 0 1 (w1.alloc (.cells #[.int .i64 0, .int .i64 1] 27)) :=
    ⟨FAt.new w1 0 1, ((FAt.new w 0 0).call hb1).alloc _, by omega, Nat.le_refl _, by omega, (((Below.refl _ _).alloc (Nat.le_refl _) _).trans (hb1.mono (by simp))).alloc (by omega) _⟩
  obtain ⟨ps, hps⟩ : ∃ ps, w1.heap.size = ps := ⟨_, rfl⟩
  rw [hps] at hS
  go_wp2_with fail
  clear hps hb1 CA
  go_loopw [19] (fun i wr => ∃ (k : Nat) (a b : Int), k ≤ n ∧ i = .int .i64 (k : Int) ∧ FracMath.rightB a b = true ∧ FracMath.sumL a b (L.drop k) = (r1, r2, r3) ∧ SumS w w.heap.size ps a b wr) (fun i _ => n - (intOf i).toNat)
  case atStart => exact ⟨0, 0, 1, Nat.zero_le _, rfl, r01, HRR.out, hS⟩
  case round =>
    obtain ⟨k, a, b, hk, rfl, hab, hRk, hs⟩ := hrel
    have HRK := Lib.hid hRk
    clear hRk hS
    have hsz := hs.below.size
    by_cases h1 : k < n
    · obtain ⟨rfl, hB⟩ := HA.out (by omega)
      have hx0 := (hs.below.cell (p := ⟨B, off + k * 2, none⟩) hB).trans (HX.out k h1).1
      have hx1 := (hs.below.cell (p := ⟨B, off + k * 2 + 1, none⟩) hB).trans (HX.out k h1).2
      have hkn : (k : Int) < (n : Int) := by omega
      have hxy := HR.out k h1
      have HDk := Lib.hid (HD.out k h1)
      have AD := Lib.hid (fun W => add_right a b (X k) (Y k) W hab hxy)
      generalize X k = c at *
      generalize Y k = d at *
      have hs2 := hs.alloc (.cells #[.int .i64 c, .int .i64 d] 27)
      have x2 := FAt.new wr c d
      have g0 := hs2.sum.fst
      have g1 := hs2.sum.snd
      have g2 := hs2.sum.lt
      have q0 := x2.fst
      have q1 := x2.snd
      go_wp2_with fail
      refine (AD.out _).mono ?_
      rintro e w3 ⟨rfl, hb3⟩
      have hs3 := hs2.call hb3
      clear g0 g1 g2 q0 q1 hx0 hx1
      rcases FracMath.add_cases hab hxy with ⟨p, q, hm, hpq⟩ | hm
      · rw [hm]
        have hgo := HRK.out
        rw [HDk.out, FracMath.sumL_ok hm] at hgo
        have HGO := Lib.hid hgo
        have hs4 := hs3.alloc (.cells #[.int .i64 p, .int .i64 q] 27)
        have x4 := FAt.new w3 p q
        have u0 := x4.fst
        have u1 := x4.snd
        have u2 := hs4.sum.f0
        have u3 := hs4.sum.f1
        have u4 := hs4.sum.fst
        have u5 := hs4.sum.snd
        have hs5 := hs4.put p q
        clear hgo hm
        go_wp2
        go_roundw
        case rel => exact ⟨k + 1, p, q, by omega, by go_num, hpq, HGO.out, hs5⟩
        case measure => simp [intOf]; omega
      · rw [hm]
        have hfin := HRK.out.symm.trans ((congrArg (FracMath.sumL a b) HDk.out).trans (FracMath.sumL_bad hm (by decide)))
        cases hfin
        have hs4 := hs3.alloc (.cells #[.int .i64 0, .int .i64 0] 27)
        have u2 := hs4.res.f0
        have u3 := hs4.res.f1
        have u4 := hs4.res.fst
        have u5 := hs4.res.snd
        have hp := hs4.res.put 0 0
        have v0 := hp.fst
        have v1 := hp.snd
        clear hm
        go_wp2
        refine bodyPost_ret (v := .tuple #[.agg #[.int .i64 0, .int .i64 0], .int .i64 4]) (by simp [results, Tryd.results19, go_sem, v0, v1]) rfl ⟨rfl, ?_⟩
        exact (hs4.below.setCell (p := ⟨w.heap.size, 0, none⟩) (Nat.le_refl _) _).setCell (p := ⟨w.heap.size, 1, none⟩) (Nat.le_refl _) _
    · obtain rfl : k = n := by omega
      have hfin : (r1, r2, r3) = (a, b, (0 : Int)) := by rw [← HRK.out, ← HL.out, List.drop_length]; rfl
      cases hfin
      have g0 := hs.sum.fst
      have g1 := hs.sum.snd
      have u2 := hs.res.f0
      have u3 := hs.res.f1
      have u4 := hs.res.fst
      have u5 := hs.res.snd
      have hp := hs.res.put r1 r2
      have v0 := hp.fst
      have v1 := hp.snd
      go_wp2
      refine bodyPost_ret (v := .tuple #[.agg #[.int .i64 r1, .int .i64 r2], .int .i64 0]) (by simp [results, Tryd.results19, go_sem, v0, v1]) rfl ⟨rfl, ?_⟩
      exact (hs.below.setCell (p := ⟨w.heap.size, 0, none⟩) (Nat.le_refl _) _).setCell (p := ⟨w.heap.size, 1, none⟩) (Nat.le_refl _) _
end Go.Proofs.YtoeacbmlodfciaaDoor
