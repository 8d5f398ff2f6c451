/- Bound; the law's example and known. -/
import Derived.Test.YtojgfpnecdngfaaMtO
namespace Go.Proofs.Ytojgfpnecdngfaa
open Go Go.RowKit Go.Shelf

def BoPost (w : World) (m n nr nc : Nat) (L : Nat → Nat) (f : Nat → Nat → Int) (r c : Nat → Int) (e : Ending) (w' : World) : Prop :=
  (chT true m L f ≠ 0 ∧ e = .returned (.tuple #[.int .i64 0, .int .i64 (chT true m L f)]) ∧ w = w') ∨ (chT true m L f = 0 ∧ BdPost w m n nr nc f r c 1000000000000 e w')
set_option maxHeartbeats 1000000 in
theorem boundE_c (B m n nr nc : Nat) (A R C : Option Addr) (cm cr cc : Nat) (L : Nat → Nat) (f : Nat → Nat → Int) (r c : Nat → Int) (w : World) (hm : m ≤ 9223372036854775807) (hL : ∀ i, i < m → L i ≤ 9223372036854775807) (hn : wid m L = n) (hnr : nr ≤ 9223372036854775807) (hnc : nc ≤ 9223372036854775807)
    (hT : Tb w B A m L f) (hR : Rd w B R nr r) (hC : Rd w B C nc c) :
    Calls Try.prog 17 #[.slice A m cm, .slice R nr cr, .slice C nc cc] w (BoPost w m n nr nc L f r c) := by
  have CK := Lib.hid (check_c B m A cm L f w hm hL hT)
  by_cases h0 : chT true m L f = 0
  · obtain ⟨o1, o2, o3, o4, o5⟩ := chT_ok h0
    rw [hn] at o2 o3
    have BC := Lib.hid (bound_c B m n nr nc A R C cm cr cc f r c 1000000000000 w (by omega) (by omega) (fun h => by rw [← hn]; exact if_pos h) hnr hnc (hT.congr o3 (fun _ _ _ _ => rfl)) hR hC)
    rw [h0] at CK
    have H0 := Lib.hid h0
    clear hT hR hC hL h0 o1 o2 o3 o4 o5 hn
    go_enter Try.func17, Try.ntmps17
    go_wp2_with fail
    refine CK.out.mono ?_
    rintro e w' ⟨rfl, rfl⟩
    go_wp2_with fail
    refine BC.out.mono ?_
    rintro e w' ⟨⟨v, x, rfl, hb⟩, d, rfl⟩
    have HB := Lib.hid hb
    clear hb
    go_wp2_with fail
    go_ret2
    exact .inr ⟨H0.out, ⟨v, x, rfl, HB.out⟩, d, rfl⟩
  · obtain ⟨E, hE⟩ : ∃ E, chT true m L f = E := ⟨_, rfl⟩
    have hne : (E != 0) = true := by rw [hE] at h0; simp [h0]
    have HE := Lib.hid (And.intro hE h0)
    rw [hE] at CK
    clear hT hR hC hL h0 hE
    go_enter Try.func17, Try.ntmps17
    go_wp2_with fail
    refine CK.out.mono ?_
    rintro e w' ⟨rfl, rfl⟩
    go_wp2_with fail
    go_ret2
    exact .inl ⟨HE.out.2, by rw [HE.out.1]; rfl, rfl⟩

/-- The example's costs. -/
def exf (i k : Nat) : Int := (([[4, 1, 3], [2, 0, 5], [3, 2, 2]] : List (List Int)).getD i []).getD k 0
theorem exf_ch (en : Bool) : chT en 3 (fun _ => 3) exf = 0 := by
  refine chT_0 (by unfold wid; simp) (fun i hi => by unfold wid; simp) (by unfold wid; simp) (fun i hi k hk => ?_)
  obtain rfl | rfl | rfl : i = 0 ∨ i = 1 ∨ i = 2 := by omega
  all_goals
    obtain rfl | rfl | rfl : k = 0 ∨ k = 1 ∨ k = 2 := by omega
    all_goals decide
theorem row3 {W : World} {g : Nat} {x y z : Int} (h : W.heap[g]? = some (.cells #[.int .i64 x, .int .i64 y, .int .i64 z] 3)) (f : Nat → Int) (h0 : f 0 = x) (h1 : f 1 = y) (h2 : f 2 = z) {B : Nat} (hB : g < B) : Rd W B (some ⟨g, 0, none⟩) 3 f := fun k hk => by
  refine ⟨_, rfl, hB, ?_⟩
  rw [Addr.add_mid, Nat.zero_add]
  obtain rfl | rfl | rfl : k = 0 ∨ k = 1 ∨ k = 2 := by omega
  · simp [World.cell?, h, h0]
  · simp [World.cell?, h, h1]
  · simp [World.cell?, h, h2]
theorem heap_at {X : World} {o : Obj} {k : Nat} (hk : k = X.heap.size) : (X.alloc o).heap[k]? = some o := by subst hk; exact heap_newM X o
theorem heap_old {X : World} {o o' : Obj} {k : Nat} (h : X.heap[k]? = some o') : (X.alloc o).heap[k]? = some o' := (Below.heap_alloc _ _ _ (Array.getElem?_eq_some_iff.1 h).1).trans h
theorem ex_tb {W : World} {D : Nat} (h0 : W.heap[D]? = some (.cells #[.int .i64 4, .int .i64 1, .int .i64 3] 3)) (h1 : W.heap[D + 1]? = some (.cells #[.int .i64 2, .int .i64 0, .int .i64 5] 3)) (h2 : W.heap[D + 1 + 1]? = some (.cells #[.int .i64 3, .int .i64 2, .int .i64 2] 3))
    (h3 : W.heap[D + 1 + 1 + 1]? = some (.cells #[.slice (some ⟨D, 0, none⟩) 3 3, .slice (some ⟨D + 1, 0, none⟩) 3 3, .slice (some ⟨D + 1 + 1, 0, none⟩) 3 3] 27)) : Tb W W.heap.size (some ⟨D + 1 + 1 + 1, 0, none⟩) 3 (fun _ => 3) exf := fun i hi => by
  obtain rfl | rfl | rfl : i = 0 ∨ i = 1 ∨ i = 2 := by omega
  · exact ⟨_, some ⟨D, 0, none⟩, 3, rfl, (Array.getElem?_eq_some_iff.1 h3).1, by rw [Addr.add_mid, Nat.zero_add]; simp [World.cell?, h3], row3 h0 (exf 0) rfl rfl rfl (Array.getElem?_eq_some_iff.1 h0).1⟩
  · exact ⟨_, some ⟨D + 1, 0, none⟩, 3, rfl, (Array.getElem?_eq_some_iff.1 h3).1, by rw [Addr.add_mid, Nat.zero_add]; simp [World.cell?, h3], row3 h1 (exf 1) rfl rfl rfl (Array.getElem?_eq_some_iff.1 h1).1⟩
  · exact ⟨_, some ⟨D + 1 + 1, 0, none⟩, 3, rfl, (Array.getElem?_eq_some_iff.1 h3).1, by rw [Addr.add_mid, Nat.zero_add]; simp [World.cell?, h3], row3 h2 (exf 2) rfl rfl rfl (Array.getElem?_eq_some_iff.1 h2).1⟩
theorem example_c (w : World) : Calls Try.prog 32 #[] w fun e w' => (∃ g, e = .returned (.slice (some ⟨g, 0, none⟩) 3 3) ∧ Tb w' w'.heap.size (some ⟨g, 0, none⟩) 3 (fun _ => 3) exf) ∧ Below w.heap.size w w' := by
  go_enter Try.func32, Try.ntmps32
  go_wp2_with fail
  go_ret
  refine ⟨⟨w.heap.size + 1 + 1 + 1, rfl, ex_tb (heap_old (heap_old (heap_old (heap_at rfl)))) (heap_old (heap_old (heap_at (by simp)))) (heap_old (heap_at (by simp))) (heap_at (by simp))⟩, ?_⟩
  exact (((((Below.refl _ _).alloc (Nat.le_refl _) _).alloc (by simp) _).alloc (by simp; omega) _).alloc (by simp; omega) _)

theorem ex_best {col r c : Nat → Int} {tot : Int} (h : Mt.Sol 3 3 exf col r c tot) : tot = 5 ∧ col 0 = 1 := by
  have a0 := h.at_ 0 (by omega)
  have a1 := h.at_ 1 (by omega)
  have a2 := h.at_ 2 (by omega)
  have i01 : col 0 ≠ col 1 := fun e => absurd (h.inj 0 1 (by omega) (by omega) e) (by omega)
  have i02 : col 0 ≠ col 2 := fun e => absurd (h.inj 0 2 (by omega) (by omega) e) (by omega)
  have i12 : col 1 ≠ col 2 := fun e => absurd (h.inj 1 2 (by omega) (by omega) e) (by omega)
  have ht := h.total
  have hs := h.sum
  have f1 := h.feas 0 1 (by omega) (by omega)
  have f2 := h.feas 1 0 (by omega) (by omega)
  have f3 := h.feas 2 2 (by omega) (by omega)
  have e1 : Mt.sm (fun i => exf i (col i).toNat) 3 = 0 + exf 0 (col 0).toNat + exf 1 (col 1).toNat + exf 2 (col 2).toNat := rfl
  have e2 : Mt.sm r 3 = 0 + r 0 + r 1 + r 2 := rfl
  have e3 : Mt.sm c 3 = 0 + c 0 + c 1 + c 2 := rfl
  rw [e1] at ht
  rw [e2, e3] at hs
  rw [show exf 0 1 = 1 from rfl] at f1
  rw [show exf 1 0 = 2 from rfl] at f2
  rw [show exf 2 2 = 2 from rfl] at f3
  obtain h0 | h0 | h0 : col 0 = 0 ∨ col 0 = 1 ∨ col 0 = 2 := by omega
  all_goals
    obtain h1 | h1 | h1 : col 1 = 0 ∨ col 1 = 1 ∨ col 1 = 2 := by omega
    all_goals
      obtain h2 | h2 | h2 : col 2 = 0 ∨ col 2 = 1 ∨ col 2 = 2 := by omega
      all_goals
        first
          | (exfalso; omega)
          | (rw [h0, h1, h2] at ht
             have ht' : tot = _ := ht
             simp [exf] at ht'
             omega)
theorem ex_partial {col r c : Nat → Int} {tot : Int} (h : Mt.PSol 3 3 exf 1 col r c tot) : tot = 2 := by
  have ht := h.total
  have hs := h.sum
  have e1 : Mt.sm (fun i => if col i = -1 then 1 else exf i (col i).toNat) 3 = 0 + (if col 0 = -1 then 1 else exf 0 (col 0).toNat) + (if col 1 = -1 then 1 else exf 1 (col 1).toNat) + (if col 2 = -1 then 1 else exf 2 (col 2).toNat) := rfl
  have e2 : Mt.sm r 3 = 0 + r 0 + r 1 + r 2 := rfl
  have e3 : Mt.sm c 3 = 0 + c 0 + c 1 + c 2 := rfl
  rw [e1] at ht
  rw [e2, e3] at hs
  have f2 := h.feas 1 1 (by omega) (by omega)
  rw [show exf 1 1 = 0 from rfl] at f2
  have s0 := h.rskip 0 (by omega)
  have s2 := h.rskip 2 (by omega)
  have n0 := h.cneg 0 (by omega)
  have n2 := h.cneg 2 (by omega)
  have low : ∀ i, i < 3 → (if i = 1 then 0 else 1) ≤ (if col i = -1 then (1 : Int) else exf i (col i).toNat) := fun i hi => by
    have a := h.at_ i hi
    by_cases hc : col i = -1
    · rw [if_pos hc]; split <;> omega
    · rw [if_neg hc]
      obtain h0 | h0 | h0 : col i = 0 ∨ col i = 1 ∨ col i = 2 := by omega
      all_goals
        rw [h0]
        obtain rfl | rfl | rfl : i = 0 ∨ i = 1 ∨ i = 2 := by omega
        all_goals decide
  have l0 := low 0 (by omega)
  have l1 := low 1 (by omega)
  have l2 := low 2 (by omega)
  simp only [if_true] at l1
  rw [if_neg (by omega)] at l0 l2
  omega
end Go.Proofs.Ytojgfpnecdngfaa
