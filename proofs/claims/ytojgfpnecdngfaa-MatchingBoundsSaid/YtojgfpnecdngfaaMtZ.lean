/- Tight: the tight pairs in their order. -/
import Derived.Test.YtojgfpnecdngfaaMtY
namespace Go.Proofs.Ytojgfpnecdngfaa
open Go Go.RowKit Go.Shelf

section
variable (f : Nat → Nat → Int) (r c : Nat → Int) (n : Nat)
/-- The tight pairs of row i before column k; of the rows before i. -/
def tiP (i : Nat) : Nat → List (Nat × Nat)
  | 0 => []
  | k + 1 => tiP i k ++ (if r i + c k = f i k then [(i, k)] else [])
def tiA : Nat → List (Nat × Nat)
  | 0 => []
  | i + 1 => tiA i ++ tiP f r c i n
end
def flat (l : List (Nat × Nat)) : List Value := l.flatMap fun p => [.int .i64 (p.1 : Int), .int .i64 (p.2 : Int)]
theorem flat_add (l l' : List (Nat × Nat)) : flat (l ++ l') = flat l ++ flat l' := by unfold flat; exact List.flatMap_append
theorem flat_len : ∀ l : List (Nat × Nat), (flat l).length = l.length * 2
  | [] => rfl
  | p :: l => by show ([_, _] ++ flat l).length = _; rw [List.length_append, flat_len l]; simp; omega
theorem ti_len (f : Nat → Nat → Int) (r c : Nat → Int) (i : Nat) : ∀ k, (tiP f r c i k).length ≤ k
  | 0 => Nat.le_refl _
  | k + 1 => by
    show (tiP f r c i k ++ _).length ≤ _
    rw [List.length_append]
    have := ti_len f r c i k
    by_cases e : r i + c k = f i k
    · rw [if_pos e]; simp; omega
    · rw [if_neg e]; simp; omega
theorem tiA_len (f : Nat → Nat → Int) (r c : Nat → Int) (n : Nat) : ∀ i, (tiA f r c n i).length ≤ i * n
  | 0 => Nat.zero_le _
  | i + 1 => by
    show (tiA f r c n i ++ _).length ≤ _
    rw [List.length_append, Nat.add_mul, Nat.one_mul]
    have := tiA_len f r c n i
    have := ti_len f r c i n
    omega
theorem info_2 : (Try.prog.info? 59).map (fun i => (i.zero, i.size, i.bytes)) = some (some (.agg #[.int .i64 0, .int .i64 0]), 2, 16) := by kernel_rfl

def TiPost (w : World) (m n nr nc : Nat) (f : Nat → Nat → Int) (r c : Nat → Int) (e : Ending) (w' : World) : Prop :=
  (∃ (v x : Int) (V : Value), e = .returned (.tuple #[V, .int .i64 x]) ∧ BdRes m n nr nc f r c 1000000000000 v x ∧ ((x ≠ 0 ∧ V = .slice none 0 0) ∨ (x = 0 ∧ w'.ownsRow w.heap.size 59 2 V (tiA f r c n m).length (flat (tiA f r c n m))))) ∧ Below w.heap.size w w'

set_option maxRecDepth 100000 in
set_option maxHeartbeats 4000000 in
theorem tight_c (B m n nr nc : Nat) (A R C : Option Addr) (cm cr cc : Nat) (L : Nat → Nat) (f : Nat → Nat → Int) (r c : Nat → Int) (w : World) (hm : m ≤ 9223372036854775807) (hL : ∀ i, i < m → L i ≤ 9223372036854775807) (hn : wid m L = n) (hnr : nr ≤ 9223372036854775807) (hnc : nc ≤ 9223372036854775807)
    (hT : Tb w B A m L f) (hR : Rd w B R nr r) (hC : Rd w B C nc c) (hB : B ≤ w.heap.size) (hE : chT true m L f = 0) :
    Calls Try.prog 18 #[.slice A m cm, .slice R nr cr, .slice C nc cc] w (TiPost w m n nr nc f r c) := by
  have BO := Lib.hid (boundE_c B m n nr nc A R C cm cr cc L f r c w hm hL hn hnr hnc hT hR hC)
  obtain ⟨o1, o2, o3, o4, o5⟩ := chT_ok hE
  rw [hn] at o2 o3 o4 o5
  have HT := Lib.hid (show Tb w B A m (fun _ => n) f from hT.congr o3 (fun _ _ _ _ => rfl))
  have HR := Lib.hid hR
  have HC := Lib.hid hC
  have HE := Lib.hid hE
  clear hL hT hR hC hE hn o3 o4 o5
  go_enter Try.func18, Try.ntmps18
  go_wp2_with fail
  refine BO.out.mono ?_
  rintro e w2 hpost
  obtain ⟨v, x, d, rfl, hbd, rfl⟩ : ∃ (v x : Int) (d : Nat), e = .returned (.tuple #[.int .i64 v, .int .i64 x]) ∧ BdRes m n nr nc f r c 1000000000000 v x ∧ w2 = w.drewN d := by
    rcases hpost with ⟨h, _⟩ | ⟨h, ⟨v, x, rfl, hb⟩, d, rfl⟩
    · exact absurd HE.out h
    · exact ⟨v, x, d, rfl, hb, rfl⟩
  clear hpost
  have HBD := Lib.hid hbd
  have HD0 := Lib.hid (below_drewN (Below.refl w.heap.size w) d)
  by_cases h0 : x = 0
  case neg =>
    have hne : (x != 0) = true := by simp [h0]
    have HN := Lib.hid h0
    clear h0 hbd
    go_wp2_with fail
    go_ret2
    exact ⟨⟨_, _, _, rfl, HBD.out, .inl ⟨HN.out, rfl⟩⟩, HD0.out⟩
  have hsz : nr = m ∧ nc = n ∧ (∀ i, i < m → inP (r i) = true) ∧ ∀ k, k < n → inP (c k) = true := by
    have hs : szE m n nr nc r c = 0 := by
      rcases hbd with ⟨h1, _, h2⟩ | ⟨_, _, _, h2⟩ | ⟨h1, _⟩
      · rw [h0] at h2; exact absurd h2.symm h1
      · rw [h0] at h2; cases h2
      · exact h1
    unfold szE at hs
    by_cases a1 : nr ≠ m ∨ nc ≠ n
    · rw [if_pos a1] at hs; cases hs
    · rw [if_neg a1] at hs
      by_cases a2 : (∀ i, i < nr → inP (r i) = true) ∧ ∀ k, k < nc → inP (c k) = true
      · have e1 : nr = m := by omega
        have e2 : nc = n := by omega
        subst e1; subst e2
        exact ⟨rfl, rfl, a2.1, a2.2⟩
      · rw [if_pos a2] at hs; cases hs
  obtain ⟨rfl, rfl, hr, hc⟩ := hsz
  have Hr := Lib.hid hr
  have Hc := Lib.hid hc
  subst h0
  clear hr hc hbd
  obtain ⟨j0, hj0, hjz0, hjz1, hjz2⟩ := info_parts info_2
  go_wp2_with fail
  obtain ⟨D, hD⟩ : ∃ D, w.heap.size = D := ⟨_, rfl⟩
  have hBD : B ≤ D := by omega
  have HD := Lib.hid hD
  clear hD
  go_loopw [10, 27] (fun v i wr => ∃ t : Nat, t ≤ nr ∧ i = .int .i64 (t : Int) ∧ wr.ownsRow D 59 2 v (tiA f r c nc t).length (flat (tiA f r c nc t)) ∧ Below D w wr) (fun _ i _ => nr - (intOf i).toNat)
  case atStart => exact ⟨0, Nat.zero_le _, rfl, ⟨rfl, .inl ⟨rfl, rfl⟩⟩, by rw [← HD.out]; exact HD0.out⟩
  case round =>
    obtain ⟨t, ht, rfl, hown, hb⟩ := hrel
    have HW := Lib.hid (And.intro hown hb)
    have hDw := HD.out
    have hzw := hb.size
    by_cases htm : t < nr
    · have hti : (t : Int) < (nr : Int) := by omega
      have q := wrap_in (q := (t : Int) + 1) (by omega) (by omega)
      obtain ⟨a, Ai, ci, rfl, hlt, c0, hRd⟩ := (HT.out.below hb hBD) t htm
      have c0' : wr.cell? (a.add t) = some (.slice Ai nc ci) := c0
      have HRd := Lib.hid (show Rd w B Ai nc (f t) by
        obtain ⟨a', Ai', ci', he, _, k0, k1⟩ := HT.out t htm
        obtain rfl : a = a' := by injection he
        have e1 := (hb.cell (p := a.add t) (by rw [block_add]; omega)).symm.trans c0
        have e2 := k0.symm.trans e1
        injection e2 with e2
        injection e2 with e2
        subst e2
        exact k1)
      clear c0 hRd hown hb
      go_wp2_with fail
      go_loopw [10, 34] (fun v i wr => ∃ s : Nat, s ≤ nc ∧ i = .int .i64 (s : Int) ∧ wr.ownsRow D 59 2 v (tiA f r c nc t ++ tiP f r c t s).length (flat (tiA f r c nc t ++ tiP f r c t s)) ∧ Below D w wr) (fun _ i _ => nc - (intOf i).toNat)
      case atStart => exact ⟨0, Nat.zero_le _, rfl, by rw [show tiP f r c t 0 = [] from rfl, List.append_nil]; exact HW.out.1, HW.out.2⟩
      case round =>
        obtain ⟨s, hs, rfl, hown, hb⟩ := hrel
        have HV := Lib.hid (And.intro hown hb)
        have hzr := hb.size
        by_cases hsn : s < nc
        · have hsi : (s : Int) < (nc : Int) := by omega
          have q' := wrap_in (q := (s : Int) + 1) (by omega) (by omega)
          obtain ⟨b1, rfl, _, e0⟩ := (HRd.out.below hb hBD) s hsn
          obtain ⟨b2, rfl, _, e1⟩ := (HR.out.below hb hBD) t htm
          obtain ⟨b3, rfl, _, e2⟩ := (HC.out.below hb hBD) s hsn
          have i1 := of_decide_eq_true (Hr.out t htm)
          have i2 := of_decide_eq_true (Hc.out s hsn)
          have q2 := wrap_in (q := r t + c s) (by omega) (by omega)
          by_cases hgt : r t + c s = f t s
          · have hbq : (r t + c s == f t s) = true := by simp [hgt]
            have HG := Lib.hid hgt
            obtain ⟨LN, hLN⟩ : ∃ LN, (tiA f r c nc t ++ tiP f r c t s).length = LN := ⟨_, rfl⟩
            have hlen : LN ≤ 7320 := by
              rw [← hLN, List.length_append]
              have h1 := tiA_len f r c nc t
              have h2 := ti_len f r c t s
              have h3 : t * nc ≤ 60 * 120 := Nat.mul_le_mul (by omega) (by omega)
              omega
            have FACT : ∀ k : Nat, ((wr.drewN k).alloc (.cells #[.int .i64 (t : Int), .int .i64 (s : Int)] 59)).ownsRow D 59 2 u10 LN (flat (tiA f r c nc t ++ tiP f r c t s)) ∧ (∀ j u', [Value.int .i64 (t : Int), .int .i64 (s : Int)][j]? = some u' → ((wr.drewN k).alloc (.cells #[.int .i64 (t : Int), .int .i64 (s : Int)] 59)).cell? (({ block := wr.heap.size, off := 0 } : Addr).add j) = some u') ∧ D ≤ ((wr.drewN k).alloc (.cells #[.int .i64 (t : Int), .int .i64 (s : Int)] 59)).heap.size ∧ Below D w ((wr.drewN k).alloc (.cells #[.int .i64 (t : Int), .int .i64 (s : Int)] 59)) := by
              intro k
              have hbk : Below wr.heap.size wr ((wr.drewN k).alloc (.cells #[.int .i64 (t : Int), .int .i64 (s : Int)] 59)) := (below_drewN (Below.refl _ _) k).alloc (Nat.le_refl _) _
              have hX : ((wr.drewN k).alloc (.cells #[.int .i64 (t : Int), .int .i64 (s : Int)] 59)).heap[wr.heap.size]? = some (.cells #[.int .i64 (t : Int), .int .i64 (s : Int)] 59) := heap_at rfl
              refine ⟨by rw [← hLN]; exact own_below HV.out.1 hbk, fun j u' hu' => ?_, by have := hbk.size; omega, hb.trans (hbk.mono (by omega))⟩
              have hj := (List.getElem?_eq_some_iff.1 hu').1
              simp at hj
              rw [Addr.add_mid, Nat.zero_add]
              simp only [World.cell?, hX]
              obtain rfl | rfl : j = 0 ∨ j = 1 := by omega
              all_goals simpa using hu'
            have HF := Lib.hid FACT
            have hone : ∀ u' ∈ [Value.int .i64 (t : Int), .int .i64 (s : Int)], u'.oneCell' = true := fun u' hu' => by
              simp at hu'
              rcases hu' with rfl | rfl <;> rfl
            have h63 : LN + 1 ≤ maxLen := by unfold maxLen; omega
            have h64 : (LN + 1) * 16 ≤ 140737488355328 := by omega
            have HLN := Lib.hid hLN
            have HO1 := Lib.hid hone
            clear i1 i2 hgt hown hb FACT hLN hone
            go_wp2_with fail
            go_quiet (fail)
            go_wp2_with (first
              | (at_builtin; refine wpList_append_own _ rfl _ _ 35 rfl D 59 j0 (.agg #[.int .i64 0, .int .i64 0]) 2 16 Try.underlying35 hj0 hjz0 hjz1 hjz2 rfl (by decide) u10 LN (flat (tiA f r c nc t ++ tiP f r c t s)) rfl (HF.out _).1 ⟨wr.heap.size, 0, none⟩ 1 1 [.int .i64 (t : Int), .int .i64 (s : Int)] rfl rfl (HF.out _).2.1 HO1.out h63 h64 (HF.out _).2.2.1 ?_; intro v' w7 hown' hgrow _))
            have HO := Lib.hid (And.intro hown' hgrow)
            clear hown' hgrow
            go_wp2_with fail
            go_roundw
            case rel =>
              refine ⟨s + 1, hsn, rfl, ?_, (HF.out _).2.2.2.trans (grown_below0 (HF.out _).2.2.1 (HF.out _).1 HO.out.2)⟩
              have e1 : tiP f r c t (s + 1) = tiP f r c t s ++ [(t, s)] := by
                show tiP f r c t s ++ (if r t + c s = f t s then [(t, s)] else []) = _
                rw [if_pos HG.out]
              rw [e1, ← List.append_assoc, flat_add, List.length_append, HLN.out]
              exact HO.out.1
            case measure => simp [intOf]; omega
          · have hbq : (r t + c s == f t s) = false := by simp [hgt]
            have HG := Lib.hid hgt
            clear i1 i2 hgt hown hb
            go_wp2_with fail
            go_quiet (fail)
            go_wp2_with fail
            go_roundw
            case rel =>
              refine ⟨s + 1, hsn, rfl, ?_, below_drewN HV.out.2 _⟩
              show World.ownsRow _ _ _ _ _ (tiA f r c nc t ++ (tiP f r c t s ++ _)).length (flat (tiA f r c nc t ++ (tiP f r c t s ++ _)))
              rw [if_neg HG.out, List.append_nil]
              exact own_below HV.out.1 (below_drewN (Below.refl _ _) _)
            case measure => simp [intOf]; omega
        · obtain rfl : s = nc := by omega
          have hsi : ¬ (s : Int) < (s : Int) := by omega
          clear hown hb
          go_wp2_with fail
          go_roundw
          case rel => exact ⟨t + 1, htm, rfl, HV.out.1, HV.out.2⟩
          case measure => simp [intOf]; omega
    · obtain rfl : t = nr := by omega
      have hti : ¬ (t : Int) < (t : Int) := by omega
      clear hown hb
      go_wp2_with fail
      go_ret2
      exact ⟨⟨_, _, _, rfl, HBD.out, .inr ⟨rfl, by rw [hDw]; exact HW.out.1⟩⟩, by rw [hDw]; exact HW.out.2⟩
end Go.Proofs.Ytojgfpnecdngfaa
