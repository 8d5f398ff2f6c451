/- What is read of a size that is written over a denominator; the difference the other way round. -/
import Derived.Test.YthdoadkdofgenaaGreatDoorIvO
import Derived.Test.YthdoadkdofgenaaGreatDoorIvH
namespace Go.Proofs.YthdoadkdofgenaaGreatDoor
open Go Go.RowKit Go.Shelf

theorem rd_of_wr {A B C : Int} {D : Nat} (hD : 0 < D) (hok : Iv.okB A B C D = true) :
    Iv.rdE (FracMath.qn A D) (FracMath.qd A D) (FracMath.qn B D) (FracMath.qd B D) (FracMath.qn C D) (FracMath.qd C D) = 0 ∧ ∃ d : Nat, rdD (FracMath.qn A D) (FracMath.qd A D) (FracMath.qn B D) (FracMath.qd B D) (FracMath.qn C D) (FracMath.qd C D) = (d : Int) ∧ 0 < d ∧ d ≤ 240 ∧ rdA (FracMath.qn A D) (FracMath.qd A D) (FracMath.qn B D) (FracMath.qd B D) (FracMath.qn C D) (FracMath.qd C D) * (D : Int) = A * (d : Int) ∧ rdB (FracMath.qn A D) (FracMath.qd A D) (FracMath.qn B D) (FracMath.qd B D) (FracMath.qn C D) (FracMath.qd C D) * (D : Int) = B * (d : Int) ∧ rdC (FracMath.qn A D) (FracMath.qd A D) (FracMath.qn B D) (FracMath.qd B D) (FracMath.qn C D) (FracMath.qd C D) * (D : Int) = C * (d : Int) := by
  have h0 := (Iv.rd_write (a := A) (b := B) (c := C) hD).2 hok
  refine ⟨h0, ?_⟩
  obtain ⟨d, hd, d1, d2⟩ := rd_nat _ _ _ _ _ _ h0
  refine ⟨d, hd, d1, d2, ?_⟩
  have hDi : (0 : Int) < (D : Int) := by omega
  have hg := Iv.g4_pos (a := A) (b := B) (c := C) hDi
  have l1 := Iv.qn_low hg (Iv.g4_a A B C D) (Int.ofNat_dvd.1 (Iv.g4_d A B C D))
  have l2 := Iv.qn_low hg (Iv.g4_b A B C D) (Int.ofNat_dvd.1 (Iv.g4_d A B C D))
  have l3 := Iv.qn_low hg (Iv.g4_c A B C D) (Int.ofNat_dvd.1 (Iv.g4_d A B C D))
  have hp : 0 < D / Iv.g4 A B C D := Iv.low_pos hD
  have e1 := Iv.g4_low (a := A) (b := B) (c := C) hDi
  rw [Iv.tdiv_nat] at e1
  have hD3 : Iv.D3 (FracMath.qd A D) (FracMath.qd B D) (FracMath.qd C D) = D / Iv.g4 A B C D := by
    rw [l1.2, l2.2, l3.2]
    exact Iv.D3_write hp e1
  have hda : ∀ x : Int, (Iv.g4 A B C D : Int) ∣ x → x.tdiv (Iv.g4 A B C D : Int) * (D : Int) = x * ((D / Iv.g4 A B C D : Nat) : Int) := fun x hx => by
    obtain ⟨y, rfl⟩ := hx
    have hz : (Iv.g4 A B C D : Int) ≠ 0 := by omega
    rw [Int.mul_tdiv_cancel_left _ hz]
    obtain ⟨m, hm⟩ := Int.ofNat_dvd.1 (Iv.g4_d A B C D)
    have hm2 : D / Iv.g4 A B C D = m := by conv => lhs; lhs; rw [hm]
                                           exact Nat.mul_div_cancel_left _ hg
    rw [hm2]
    conv => lhs; rw [hm]
    rw [Int.natCast_mul]
    ac_rfl
  have hdd : (d : Int) = ((D / Iv.g4 A B C D : Nat) : Int) := by
    rw [← hd]
    unfold rdD
    rw [if_pos h0, hD3]
  rw [hdd]
  unfold rdA rdB rdC
  rw [if_pos h0, if_pos h0, if_pos h0, hD3]
  refine ⟨?_, ?_, ?_⟩
  · rw [l1.1, l1.2, Iv.up_write hp]; exact hda A (Iv.g4_a A B C D)
  · rw [l2.1, l2.2, Iv.up_write hp]; exact hda B (Iv.g4_b A B C D)
  · rw [l3.1, l3.2, Iv.up_write hp]; exact hda C (Iv.g4_c A B C D)
theorem lg_neg (a b c : Int) : Iv.lg (-a) (-b) (-c) = -Iv.lg a b c := by
  unfold Iv.lg
  rw [Int.neg_mul, Int.neg_mul, Int.neg_mul]
  omega
theorem cb_swap (a b : Int) (d e : Nat) : Iv.cb b a e d (-1) = -Iv.cb a b d e (-1) := by
  unfold Iv.cb
  rw [Nat.lcm_comm e d]
  omega
theorem sg_swap (a b c p q r : Int) (d e : Nat) : Iv.sg (Iv.lg (Iv.cb p a e d (-1)) (Iv.cb q b e d (-1)) (Iv.cb r c e d (-1))) = -Iv.sg (Iv.lg (Iv.cb a p d e (-1)) (Iv.cb b q d e (-1)) (Iv.cb c r d e (-1))) := by
  rw [cb_swap a p, cb_swap b q, cb_swap c r, lg_neg, Iv.sg_neg]
/-- The difference as it is put together, and as it is written and read. -/
theorem sg_wr {a b c p q r oa ob oc : Int} {d e o : Nat} (hd : 0 < d) (he : 0 < e) (ho : 0 < o) (ha : oa * ((d * e : Nat) : Int) = (a * e + (-1) * p * d) * (o : Int)) (hb : ob * ((d * e : Nat) : Int) = (b * e + (-1) * q * d) * (o : Int)) (hc : oc * ((d * e : Nat) : Int) = (c * e + (-1) * r * d) * (o : Int)) :
    Iv.sg (Iv.lg (Iv.cb a p d e (-1)) (Iv.cb b q d e (-1)) (Iv.cb c r d e (-1))) = Iv.sg (Iv.lg oa ob oc) := by
  have h1 := Iv.sg_eqv (Nat.lcm_pos hd he) (Nat.mul_pos hd he) (Iv.lg_eqv (Iv.cb_eqv hd he a p (-1)) (Iv.cb_eqv hd he b q (-1)) (Iv.cb_eqv hd he c r (-1)))
  have h2 := Iv.sg_eqv ho (Nat.mul_pos hd he) (Iv.lg_eqv ha hb hc)
  rw [h1, h2]
end Go.Proofs.YthdoadkdofgenaaGreatDoor
