/- FractionLaws: for every three described fractions the law returns true; no condition. -/
import Derived.Test.YtoeacbmlodfciaaDoorFracW
namespace Go.Proofs.YtoeacbmlodfciaaDoor
open Go.RowKit

theorem one_right {n : Int} (h : -1000000 ≤ n) (h' : n ≤ 1000000) : FracMath.rightB n 1 = true := by
  rw [FracMath.right_in h h' (by omega) (by omega), FracMath.gg_one]; rfl
theorem not_right : FracMath.rightB 0 0 = false := by decide +kernel

theorem laws_add (a b c d : Int) (rx : FracMath.rightB a b = true) (ry : FracMath.rightB c d = true) : ∃ a1 a2 ae s1 s2 se : Int,
    (∀ W : World, Calls Tryd.prog 11 #[.agg #[.int .i64 a, .int .i64 b], .agg #[.int .i64 c, .int .i64 d]] W fun e w' => e = .returned (.tuple #[.agg #[.int .i64 a1, .int .i64 a2], .int .i64 ae]) ∧ Below W.heap.size W w') ∧ (∀ W : World, Calls Tryd.prog 11 #[.agg #[.int .i64 c, .int .i64 d], .agg #[.int .i64 a, .int .i64 b]] W fun e w' => e = .returned (.tuple #[.agg #[.int .i64 a1, .int .i64 a2], .int .i64 ae]) ∧ Below W.heap.size W w') ∧ (∀ W : World, Calls Tryd.prog 13 #[.agg #[.int .i64 a1, .int .i64 a2], .agg #[.int .i64 c, .int .i64 d]] W fun e w' => e = .returned (.tuple #[.agg #[.int .i64 s1, .int .i64 s2], .int .i64 se]) ∧ Below W.heap.size W w') ∧ (ae = 0 → s1 = a ∧ s2 = b ∧ se = 0) := by
  obtain ⟨k1, k2, k3, k4, _⟩ := FracMath.right_of rx
  obtain ⟨l1, l2, l3, l4, _⟩ := FracMath.right_of ry
  have hbd := Int.mul_pos (a := b) (b := d) (by omega) (by omega)
  have A := fun W => add_right a b c d W rx ry
  have A' := fun W => add_right c d a b W ry rx
  rw [show c * b + a * d = a * d + c * b from Int.add_comm _ _, show d * b = b * d from Int.mul_comm _ _] at A'
  rcases FracMath.mk_cases (n := a * d + c * b) (d := b * d) (by omega) with ⟨p, q, hm⟩ | hm
  · obtain ⟨r, hs⟩ := FracMath.sub_back rx ry hm
    have S := fun W => sub_right p q c d W r ry
    rw [hm] at A A'
    rw [hs] at S
    exact ⟨p, q, 0, a, b, 0, A, A', S, fun _ => ⟨rfl, rfl, rfl⟩⟩
  · rw [hm] at A A'
    exact ⟨0, 0, 4, 0, 0, 2, A, A', fun W => sub_wrong 0 0 c d W (by rw [not_right]; rfl), fun h => by omega⟩

theorem laws_mul (a b c d : Int) (rx : FracMath.rightB a b = true) (ry : FracMath.rightB c d = true) : ∃ m1 m2 me t1 t2 te : Int,
    (∀ W : World, Calls Tryd.prog 12 #[.agg #[.int .i64 a, .int .i64 b], .agg #[.int .i64 c, .int .i64 d]] W fun e w' => e = .returned (.tuple #[.agg #[.int .i64 m1, .int .i64 m2], .int .i64 me]) ∧ Below W.heap.size W w') ∧ (∀ W : World, Calls Tryd.prog 12 #[.agg #[.int .i64 c, .int .i64 d], .agg #[.int .i64 a, .int .i64 b]] W fun e w' => e = .returned (.tuple #[.agg #[.int .i64 m1, .int .i64 m2], .int .i64 me]) ∧ Below W.heap.size W w') ∧ (∀ W : World, Calls Tryd.prog 14 #[.agg #[.int .i64 m1, .int .i64 m2], .agg #[.int .i64 c, .int .i64 d]] W fun e w' => e = .returned (.tuple #[.agg #[.int .i64 t1, .int .i64 t2], .int .i64 te]) ∧ Below W.heap.size W w') ∧ (me = 0 → c ≠ 0 → t1 = a ∧ t2 = b ∧ te = 0) := by
  obtain ⟨k1, k2, k3, k4, _⟩ := FracMath.right_of rx
  obtain ⟨l1, l2, l3, l4, _⟩ := FracMath.right_of ry
  have hbd := Int.mul_pos (a := b) (b := d) (by omega) (by omega)
  have A := fun W => mul_right a b c d W rx ry
  have A' := fun W => mul_right c d a b W ry rx
  rw [show c * a = a * c from Int.mul_comm _ _, show d * b = b * d from Int.mul_comm _ _] at A'
  rcases FracMath.mk_cases (n := a * c) (d := b * d) (by omega) with ⟨p, q, hm⟩ | hm
  · have r := (FracMath.mk_val (by omega) hm).1
    have S := fun W => div_right p q c d W r ry
    rw [hm] at A A'
    by_cases hc : c = 0
    · exact ⟨p, q, 0, _, _, _, A, A', S, fun _ h => absurd hc h⟩
    · rw [FracMath.div_back rx ry hc hm] at S
      exact ⟨p, q, 0, a, b, 0, A, A', S, fun _ _ => ⟨rfl, rfl, rfl⟩⟩
  · rw [hm] at A A'
    exact ⟨0, 0, 4, 0, 0, 2, A, A', fun W => div_wrong 0 0 c d W (by rw [not_right]; rfl), fun h => by omega⟩

theorem laws_best (a b c d f g : Int) (rx : FracMath.rightB a b = true) (ry : FracMath.rightB c d = true) (hg : 1 ≤ g) : ∃ b1 b2 be : Int,
    (∀ W : World, Calls Tryd.prog 18 #[.agg #[.int .i64 a, .int .i64 b], .agg #[.int .i64 c, .int .i64 d]] W fun e w' => e = .returned (.tuple #[.agg #[.int .i64 b1, .int .i64 b2], .int .i64 be]) ∧ Below W.heap.size W w') ∧ (be = 0 → a * g ≤ f * b → f * d ≤ c * g → b2 ≤ g) := by
  obtain ⟨k1, k2, k3, k4, _⟩ := FracMath.right_of rx
  obtain ⟨l1, l2, l3, l4, _⟩ := FracMath.right_of ry
  by_cases ho : a * d ≤ c * b
  · by_cases hp : 1 ≤ a
    · have hc : 1 ≤ c := FracMath.pos_of ho hp k3 l3
      have best := FracMath.bet_best (b + d).toNat a b c d hp k3 hc l3 (by omega) ho
      exact ⟨_, _, 0, fun W => simplest_pos a b c d W rx ry ho hp, fun _ h1 h2 => (best.2.2.2.2 f g hg h1 h2).1⟩
    · by_cases hn : c < 0
      · have ho' : -c * b ≤ -a * d := by rw [Int.neg_mul, Int.neg_mul]; omega
        have ha : 1 ≤ -a := FracMath.pos_of ho' (by omega) l3 k3
        have best := FracMath.bet_best (d + b).toNat (-c) d (-a) b (by omega) l3 ha k3 (by omega) ho'
        exact ⟨_, _, 0, fun W => simplest_neg a b c d W rx ry ho hn, fun _ h1 h2 => (best.2.2.2.2 (-f) g hg (by rw [Int.neg_mul, Int.neg_mul]; omega) (by rw [Int.neg_mul, Int.neg_mul]; omega)).1⟩
      · exact ⟨0, 1, 0, fun W => simplest_zero a b c d W rx ry ho (by omega) (by omega), fun _ _ _ => hg⟩
  · exact ⟨0, 0, 6, fun W => simplest_order a b c d W rx ry (by omega), fun h => by omega⟩

theorem cmpI_not {a b : Int} (h : FracMath.cmpI a b ≤ 0) : a ≤ b := by
  by_cases hh : a ≤ b
  · exact hh
  · rw [FracMath.cmpI_gt (by omega)] at h; omega

theorem fractionLaws_walk (p q r s t u : Int) (w : World) (h1 : -32768 ≤ p) (h2 : p ≤ 32767) (h3 : 0 ≤ q) (h4 : q ≤ 255) (h5 : -32768 ≤ r) (h6 : r ≤ 32767) (h7 : 0 ≤ s) (h8 : s ≤ 255) (h9 : -32768 ≤ t) (h10 : t ≤ 32767) (h11 : 0 ≤ u) (h12 : u ≤ 255) :
    Calls Tryd.prog 3 #[.agg #[.int .i16 p, .int .u8 q], .agg #[.int .i16 r, .int .u8 s], .agg #[.int .i16 t, .int .u8 u]] w fun e w' => e = .returned (.bool true) ∧ Below w.heap.size w w' := by
  have X := fun W => small_any p q W h1 h2 h3 h4
  have Y := fun W => small_any r s W h5 h6 h7 h8
  have Z := fun W => small_any t u W h9 h10 h11 h12
  have rx := FracMath.small_right h1 h2 h3 h4
  have ry := FracMath.small_right h5 h6 h7 h8
  have rz := FracMath.small_right h9 h10 h11 h12
  have sb := FracMath.small_num h1 h2 h3 h4
  generalize FracMath.sn p q = a at X rx sb
  generalize FracMath.sd p q = b at X rx
  generalize FracMath.sn r s = c at Y ry
  generalize FracMath.sd r s = d at Y ry
  generalize FracMath.sn t u = f at Z rz
  generalize FracMath.sd t u = g at Z rz
  obtain ⟨k1, k2, k3, k4, _⟩ := FracMath.right_of rx
  obtain ⟨m1, m2, m3, m4, _⟩ := FracMath.right_of rz
  obtain ⟨a1, a2, ae, s1, s2, se, A, A', S, hs⟩ := laws_add a b c d rx ry
  obtain ⟨n1, n2, ne, t1, t2, te, M, M', D, hd⟩ := laws_mul a b c d rx ry
  obtain ⟨b1, b2, be, B, hb⟩ := laws_best a b c d f g rx ry m3
  have fb := FracMath.ediv_bd a b k3
  obtain ⟨c1, c2⟩ := FracMath.floor_near (a := a) k3
  have W1 := fun W => whole_any (a / b) W (by omega) (by omega)
  have W2 := fun W => whole_any (a / b + 1) W (by omega) (by omega)
  rw [FracMath.mk_one_ok ⟨by omega, by omega⟩] at W1
  rw [FracMath.mk_one_ok ⟨by omega, by omega⟩] at W2
  have C1 := fun W => compare_right (a / b) 1 a b W (one_right (by omega) (by omega)) rx
  have C2 := fun W => compare_right a b (a / b + 1) 1 W rx (one_right (by omega) (by omega))
  rw [c2] at C2
  exact laws_core p q r s t u a b c d f g a1 a2 ae n1 n2 ne s1 s2 se t1 t2 te (a / b) _ b1 b2 be _ _ w X Y Z A A' M M' S D (fun W => Floor_right a b W rx) W1 W2 C1 C2 B
    (fun W => compare_right a b f g W rx rz) (fun W => compare_right f g c d W rz ry) ⟨by omega, by omega⟩ c1 hs hd (fun h x1 x2 => hb h (cmpI_not x1) (cmpI_not x2))
end Go.Proofs.YtoeacbmlodfciaaDoor
