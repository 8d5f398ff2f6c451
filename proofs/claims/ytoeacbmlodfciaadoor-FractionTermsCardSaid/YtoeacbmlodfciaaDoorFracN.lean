/- Contract of between: for positive parts up to a million it returns the pair that FracMath.bet reckons. -/
import Derived.Test.YtoeacbmlodfciaaDoorFracBet
import Derived.Test.YtoeacbmlodfciaaDoorFracJ
namespace Go.Proofs.YtoeacbmlodfciaaDoor
open Go.RowKit

set_option maxHeartbeats 1000000 in
theorem between_any (k : Nat) : ∀ (a b c d : Int) (w : World), 1 ≤ a → a ≤ 1000000 → 1 ≤ b → b ≤ 1000000 → 1 ≤ c → c ≤ 1000000 → 1 ≤ d → d ≤ 1000000 → b + d ≤ k → a * d ≤ c * b →
    Calls Tryd.prog 37 #[.int .i64 a, .int .i64 b, .int .i64 c, .int .i64 d] w fun e w' => e = .returned (.tuple #[.int .i64 (FracMath.bet k a b c d).1, .int .i64 (FracMath.bet k a b c d).2]) ∧ w = w' := by
  induction k with
  | zero => intro a b c d w _ _ hb _ _ _ hd _ hk; omega
  | succ k ih =>
    intro a b c d w ha ha' hb hb' hc hc' hd hd' hk h
    have cb := FracMath.ceil_bd a b hb
    have cp := FracMath.ceil_pos ha hb
    have ce : -((-a) / b) = FracMath.ceil a b := rfl
    have ca : FracMath.ceil a b ≤ a := FracMath.ceil_le ha hb
    have cd := FracMath.prod_bd (x := FracMath.ceil a b) (y := d) ⟨by omega, by omega⟩ ⟨by omega, by omega⟩
    have F := Lib.hid fun W => floor_any (-a) b W (by omega) (by omega) (by omega) (by omega)
    by_cases hn : FracMath.ceil a b * d ≤ c
    · rw [FracMath.bet_one hn]
      generalize FracMath.ceil a b = C at ce hn cp ca cd cb
      generalize hf : (-a) / b = f at F ce
      subst ce
      clear hf cb ih h
      go_enter Tryd.func37, Tryd.ntmps37
      go_wp2_with (go_at_call 35; refine (F.out _).mono ?_; rintro e w' ⟨rfl, rfl⟩)
      go_ret2
      exact ⟨rfl, rfl⟩
    · rw [FracMath.bet_step hn]
      obtain ⟨p1, p2, p3, p4, p5⟩ := FracMath.parts hb hd h hn
      have best := FracMath.bet_best k d (c - (FracMath.ceil a b - 1) * d) b (a - (FracMath.ceil a b - 1) * b) hd p1 hb p3 (by omega) p5
      have bd := FracMath.best_bd hd p1 hb p3 p5 best
      have I := Lib.hid fun W => ih d (c - (FracMath.ceil a b - 1) * d) b (a - (FracMath.ceil a b - 1) * b) W hd hd' p1 (by omega) hb hb' p3 (by omega) (by omega) p5
      clear best ih h p5
      have wd := FracMath.prod_bd (x := FracMath.ceil a b - 1) (y := d) ⟨by omega, by omega⟩ ⟨by omega, by omega⟩
      have wb := FracMath.prod_bd (x := FracMath.ceil a b - 1) (y := b) ⟨by omega, by omega⟩ ⟨by omega, by omega⟩
      generalize hr : FracMath.bet k d (c - (FracMath.ceil a b - 1) * d) b (a - (FracMath.ceil a b - 1) * b) = r at I bd ⊢
      clear hr
      have wr := FracMath.prod_bd (x := FracMath.ceil a b - 1) (y := r.1) ⟨by omega, by omega⟩ ⟨by omega, by omega⟩
      obtain ⟨q1, q2, q3, q4⟩ := bd
      obtain ⟨wr1, wr2⟩ := wr
      have q5 : r.2 ≤ 1000000 := by omega
      generalize FracMath.ceil a b = C at ce hn cp ca cd cb I wd wb wr1 wr2 p1 p2 p3 p4 q4 ⊢
      generalize hf : (-a) / b = f at F ce
      subst ce
      clear hf cb
      have hn' : decide (-f * d ≤ c) = false := by simpa using hn
      go_enter Tryd.func37, Tryd.ntmps37
      go_wp2_with (first | (go_at_call 35; refine (F.out _).mono ?_; rintro e w' ⟨rfl, rfl⟩) | (go_at_call 37; refine (I.out _).mono ?_; rintro e w' ⟨rfl, rfl⟩))
      go_ret2
      exact ⟨rfl, rfl⟩
end Go.Proofs.YtoeacbmlodfciaaDoor
