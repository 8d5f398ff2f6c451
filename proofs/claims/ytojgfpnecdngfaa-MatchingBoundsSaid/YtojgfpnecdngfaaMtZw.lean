/- MatchingBounds: the walk. -/
import Derived.Test.YtojgfpnecdngfaaMtZ
namespace Go.Proofs.Ytojgfpnecdngfaa
open Go Go.RowKit Go.Shelf

section
variable {f : Nat → Nat → Int} {r c : Nat → Int} {n : Nat}
theorem tiP_pre (i : Nat) : ∀ d k, ∃ rest, tiP f r c i (k + d) = tiP f r c i k ++ rest
  | 0, k => ⟨[], by simp⟩
  | d + 1, k => by
    obtain ⟨rest, h⟩ := tiP_pre i d k
    exact ⟨rest ++ _, by show tiP f r c i (k + d) ++ _ = _; rw [h, List.append_assoc]⟩
theorem tiA_pre : ∀ d i, ∃ rest, tiA f r c n (i + d) = tiA f r c n i ++ rest
  | 0, i => ⟨[], by simp⟩
  | d + 1, i => by
    obtain ⟨rest, h⟩ := tiA_pre d i
    exact ⟨rest ++ _, by show tiA f r c n (i + d) ++ _ = _; rw [h, List.append_assoc]⟩
theorem ti_at {m i k : Nat} (hi : i < m) (hk : k < n) (ht : r i + c k = f i k) : (tiA f r c n m)[(tiA f r c n i ++ tiP f r c i k).length]? = some (i, k) := by
  obtain ⟨r1, h1⟩ := tiP_pre (f := f) (r := r) (c := c) i (n - (k + 1)) (k + 1)
  obtain ⟨r2, h2⟩ := tiA_pre (f := f) (r := r) (c := c) (n := n) (m - (i + 1)) (i + 1)
  rw [show k + 1 + (n - (k + 1)) = n by omega] at h1
  rw [show i + 1 + (m - (i + 1)) = m by omega] at h2
  have e1 : tiP f r c i (k + 1) = tiP f r c i k ++ [(i, k)] := by
    show tiP f r c i k ++ (if r i + c k = f i k then [(i, k)] else []) = _
    rw [if_pos ht]
  have e2 : tiA f r c n m = (tiA f r c n i ++ tiP f r c i k) ++ ((i, k) :: (r1 ++ r2)) := by
    rw [h2]
    show (tiA f r c n i ++ tiP f r c i n) ++ r2 = _
    rw [h1, e1]
    simp
  rw [e2, List.getElem?_append_right (Nat.le_refl _), Nat.sub_self]
  rfl
end
theorem flat_get : ∀ (l : List (Nat × Nat)) (p a b : Nat), l[p]? = some (a, b) → (flat l)[p * 2]? = some (.int .i64 (a : Int)) ∧ (flat l)[p * 2 + 1]? = some (.int .i64 (b : Int))
  | [], _, _, _, h => by simp at h
  | q :: l, 0, a, b, h => by
    simp at h
    subst h
    exact ⟨rfl, rfl⟩
  | q :: l, p + 1, a, b, h => by
    have := flat_get l p a b (by simpa using h)
    rw [show (p + 1) * 2 = p * 2 + 1 + 1 by omega]
    exact this
/-- The list of pairs, as it can be read. -/
def Rp (W : World) (a : Option Addr) (l : List (Nat × Nat)) : Prop := ∀ (p x y : Nat), l[p]? = some (x, y) → ∃ g, a = some ⟨g, 0, none⟩ ∧ g < W.heap.size ∧ W.cell? ⟨g, p * 2, none⟩ = some (.int .i64 (x : Int)) ∧ W.cell? ⟨g, p * 2 + 1, none⟩ = some (.int .i64 (y : Int))
theorem own_rp {W : World} {D : Nat} {V : Value} {l : List (Nat × Nat)} (h : W.ownsRow D 59 2 V l.length (flat l)) : ∃ a cap, V = .slice a l.length cap ∧ Rp W a l := by
  rcases h.2 with ⟨rfl, h0⟩ | ⟨g, cap, cur, rfl, _, hh, hc, _, hs, hx⟩
  · refine ⟨none, 0, by rw [h0], fun p x y hp => ?_⟩
    have := (List.getElem?_eq_some_iff.1 hp).1
    omega
  · refine ⟨_, cap, rfl, fun p x y hp => ⟨g, rfl, (Array.getElem?_eq_some_iff.1 hh).1, ?_⟩⟩
    have hlt := (List.getElem?_eq_some_iff.1 hp).1
    obtain ⟨f1, f2⟩ := flat_get l p x y hp
    rw [← hx, List.getElem?_take_of_lt (by omega)] at f1 f2
    exact ⟨by simp only [World.cell?, hh]; simpa using f1, by simp only [World.cell?, hh]; simpa using f2⟩
theorem Rp.keep {W W' : World} {a : Option Addr} {l : List (Nat × Nat)} (h : Rp W a l) (hb : Below W.heap.size W W') : Rp W' a l := fun p x y hp => by
  obtain ⟨g, e, hg, h1, h2⟩ := h p x y hp
  exact ⟨g, e, by have := hb.size; omega, (hb.cell (p := ⟨g, p * 2, none⟩) hg).trans h1, (hb.cell (p := ⟨g, p * 2 + 1, none⟩) hg).trans h2⟩
theorem bd_one {m n nr nc : Nat} {f : Nat → Nat → Int} {r c : Nat → Int} {most v x v' x' : Int} (h : BdRes m n nr nc f r c most v x) (h' : BdRes m n nr nc f r c most v' x') : v' = v ∧ x' = x := by
  rcases h with ⟨a, rfl, rfl⟩ | ⟨a, b, rfl, rfl⟩ | ⟨a, b, rfl, rfl⟩
  · rcases h' with ⟨_, rfl, rfl⟩ | ⟨c, _⟩ | ⟨c, _⟩
    · exact ⟨rfl, rfl⟩
    · exact absurd c a
    · exact absurd c a
  · rcases h' with ⟨c, _⟩ | ⟨_, _, rfl, rfl⟩ | ⟨_, c, _⟩
    · exact absurd a c
    · exact ⟨rfl, rfl⟩
    · exact absurd c b
  · rcases h' with ⟨c, _⟩ | ⟨_, c, _⟩ | ⟨_, _, rfl, rfl⟩
    · exact absurd a c
    · exact absurd b c
    · exact ⟨rfl, rfl⟩
theorem sz_parts {m n nr nc : Nat} {r c : Nat → Int} (hs : szE m n nr nc r c = 0) : nr = m ∧ nc = n ∧ (∀ i, i < m → inP (r i) = true) ∧ ∀ k, k < n → inP (c k) = true := by
  unfold szE at hs
  by_cases a1 : nr ≠ m ∨ nc ≠ n
  · rw [if_pos a1] at hs; cases hs
  · rw [if_neg a1] at hs
    by_cases a2 : (∀ i, i < nr → inP (r i) = true) ∧ ∀ k, k < nc → inP (c k) = true
    · have e1 : nr = m := by omega
      have e2 : nc = n := by omega
      subst e1; subst e2
      exact ⟨rfl, rfl, a2.1, a2.2⟩
    · rw [if_pos a2] at hs; cases hs

theorem eq2_d (d : Nat) (a b : Int) (W : World) : (Op.equalIn (d + 1 + 1) 59 (.agg #[.int .i64 a, .int .i64 b]) (.agg #[.int .i64 a, .int .i64 b])).run Try.prog W = .ok true W := by
  rw [Op.equalIn]
  simp only [Sem.run_bind, run_underlying Try.underlying59, Result.andThen_ok]
  simp [go_sem]
  try simp [go_sem, List.range', List.forIn_cons, Sem.run_bind]

set_option maxRecDepth 100000 in
set_option maxHeartbeats 4000000 in
theorem bounds_walk (B m nr nc : Nat) (A R C : Option Addr) (cm cr cc : Nat) (L : Nat → Nat) (f : Nat → Nat → Int) (r c : Nat → Int) (w : World) (hm : m ≤ 9223372036854775807) (hL : ∀ i, i < m → L i ≤ 9223372036854775807) (hT : Tb w B A m L f) (hB : B ≤ w.heap.size) (hnr : nr ≤ 9223372036854775807) (hR : Rd w B R nr r) (hnc : nc ≤ 9223372036854775807) (hC : Rd w B C nc c) :
    Calls Try.prog 8 #[.slice A m cm, .slice R nr cr, .slice C nc cc] w fun e w' => e = .returned (.bool true) ∧ Below w.heap.size w w' := by
  have KN := Lib.hid (fun W => known_c W)
  have HT := Lib.hid hT
  have HL := Lib.hid hL
  have HR := Lib.hid hR
  have HC := Lib.hid hC
  clear hL hT hC hR
  go_enter Try.func8, Try.ntmps8
  go_wp2_with fail
  refine (KN.out _).mono ?_
  rintro e w1 ⟨rfl, hb1⟩
  have hT1 := HT.out.below hb1 hB
  have SM := Lib.hid (small_c B m A cm L f w1 hm hT1)
  have RC := Lib.hid (refCheck_c true B m A cm L f w1 hm HL.out hT1)
  obtain ⟨E, hE⟩ : ∃ E, chT true m L f = E := ⟨_, rfl⟩
  rw [hE] at RC
  have HE := Lib.hid hE
  have H1 := Lib.hid (And.intro hb1 (And.intro hT1 (And.intro (HR.out.below hb1 hB) (HC.out.below hb1 hB))))
  clear hb1 hT1 hE
  go_wp2_with fail
  refine SM.out.mono ?_
  rintro e w' ⟨⟨b, rfl, hb⟩, rfl⟩
  clear hb
  cases b
  · go_wp2_with fail
    refine (KN.out _).mono ?_
    rintro e w2 ⟨rfl, hb2⟩
    have H2 := Lib.hid (H1.out.1.trans (hb2.mono H1.out.1.size))
    clear hb2
    go_wp2_with fail
    go_ret
    exact ⟨rfl, H2.out⟩
  by_cases hn6 : 6 < nr
  · have h6i : (6 : Int) < (nr : Int) := by omega
    go_wp2_with fail
    refine (KN.out _).mono ?_
    rintro e w2 ⟨rfl, hb2⟩
    have H2 := Lib.hid (H1.out.1.trans (hb2.mono H1.out.1.size))
    clear hb2
    go_wp2_with fail
    go_ret
    exact ⟨rfl, H2.out⟩
  have h6i : ¬ (6 : Int) < (nr : Int) := by omega
  by_cases hn7 : 6 < nc
  · have h7i : (6 : Int) < (nc : Int) := by omega
    go_wp2_with fail
    refine (KN.out _).mono ?_
    rintro e w2 ⟨rfl, hb2⟩
    have H2 := Lib.hid (H1.out.1.trans (hb2.mono H1.out.1.size))
    clear hb2
    go_wp2_with fail
    go_ret
    exact ⟨rfl, H2.out⟩
  have h7i : ¬ (6 : Int) < (nc : Int) := by omega
  go_wp2_with fail
  refine RC.out.mono ?_
  rintro e w' ⟨rfl, d, rfl⟩
  have H3 := Lib.hid (below_drewN H1.out.1 d)
  by_cases hE0 : E = 0
  case neg =>
    have hEi : (E != 0) = true := by simp; exact hE0
    go_wp2_with fail
    refine (KN.out _).mono ?_
    rintro e w2 ⟨rfl, hb2⟩
    have H2 := Lib.hid (H3.out.trans (hb2.mono H3.out.size))
    clear hb2
    go_wp2_with fail
    go_ret
    exact ⟨rfl, H2.out⟩
  subst hE0
  obtain ⟨ww, hww⟩ : ∃ ww, w1.drewN d = ww := ⟨_, rfl⟩
  have hz1 := H1.out.1.size
  have hdd : Below w1.heap.size w1 ww := by rw [← hww]; exact below_drewN (Below.refl w1.heap.size w1) d
  have hTL : Tb ww B A m L f := H1.out.2.1.below hdd (by omega)
  have hRL : Rd ww B R nr r := H1.out.2.2.1.below hdd (by omega)
  have hCL : Rd ww B C nc c := H1.out.2.2.2.below hdd (by omega)
  have hbw : Below w.heap.size w ww := by rw [← hww]; exact H3.out
  have hBw : B ≤ ww.heap.size := by have := hbw.size; omega
  have hch : chT true m L f = 0 := HE.out
  obtain ⟨n, hn⟩ : ∃ n, wid m L = n := ⟨_, rfl⟩
  have BO := Lib.hid (boundE_c B m n nr nc A R C cm cr cc L f r c ww hm HL.out hn hnr hnc hTL hRL hCL)
  obtain ⟨o1, o2, o3, o4, o5⟩ := chT_ok hch
  rw [hn] at o2 o3 o4 o5
  have hmn : m = 0 → n = 0 := fun h => by rw [← hn]; exact if_pos h
  have HM := Lib.hid (And.intro hTL (And.intro hRL (And.intro hCL (And.intro hbw (And.intro hch (And.intro hn (And.intro hmn (show Tb ww B A m (fun _ => n) f from hTL.congr o3 (fun _ _ _ _ => rfl)))))))))
  have hm' : m ≤ 1000 := by omega
  have hn' : n ≤ 1000 := by omega
  clear o1 o2 o3 o4 o5 hTL hCL hRL hbw hch hn hmn HE H1 H3 SM RC hdd
  go_wp2_with fail
  try rw [hww]
  clear hww
  refine BO.out.mono ?_
  rintro e w2 hpost
  obtain ⟨v, x, d2, rfl, hbd, rfl⟩ : ∃ (v x : Int) (d2 : Nat), e = .returned (.tuple #[.int .i64 v, .int .i64 x]) ∧ BdRes m n nr nc f r c 1000000000000 v x ∧ w2 = ww.drewN d2 := by
    rcases hpost with ⟨h, _⟩ | ⟨h, ⟨v, x, rfl, hb⟩, d2, rfl⟩
    · exact absurd HM.out.2.2.2.2.1 h
    · exact ⟨v, x, d2, rfl, hb, rfl⟩
  clear hpost
  have HBD := Lib.hid hbd
  obtain ⟨w3, hw3⟩ : ∃ w3, ww.drewN d2 = w3 := ⟨_, rfl⟩
  have hb3 : Below ww.heap.size ww w3 := by rw [← hw3]; exact below_drewN (Below.refl ww.heap.size ww) d2
  have hz3 := hb3.size
  have TI := Lib.hid (tight_c B m n nr nc A R C cm cr cc L f r c w3 hm HL.out HM.out.2.2.2.2.2.1 hnr hnc (HM.out.1.below hb3 hBw) (HM.out.2.1.below hb3 hBw) (HM.out.2.2.1.below hb3 hBw) (by omega) HM.out.2.2.2.2.1)
  have H3 := Lib.hid hb3
  clear hb3 hbd
  go_wp2_with fail
  try rw [hw3]
  clear hw3
  refine TI.out.mono ?_
  rintro e w4 ⟨⟨v', x', V, rfl, hbd', hV⟩, hb4⟩
  obtain ⟨rfl, rfl⟩ := bd_one HBD.out hbd'
  have hz4 := hb4.size
  have hb24 : Below ww.heap.size ww w4 := H3.out.trans (hb4.mono hz3)
  have SZ := Lib.hid (sizes_c B m n nr nc A R C cm cr cc f r c w4 hm' hn' HM.out.2.2.2.2.2.2.1 hnr hnc (HM.out.2.2.2.2.2.2.2.below hb24 hBw) (HM.out.2.1.below hb24 hBw) (HM.out.2.2.1.below hb24 hBw))
  have HZ := Lib.hid (show Below w.heap.size w w4 from HM.out.2.2.2.1.trans (hb24.mono HM.out.2.2.2.1.size))
  have H24 := Lib.hid (And.intro hb24 hV)
  clear hb4 hb24 hV hbd'
  rcases HBD.out with ⟨s1, s2, s3⟩ | ⟨s1, s2, s3, s4⟩ | ⟨s1, s2, s3, s4⟩
  · obtain rfl : V = .slice none 0 0 := by
      rcases H24.out.2 with h | h
      · exact h.2
      · exact absurd (s3.symm.trans h.1) s1
    subst s2
    rw [← s3] at SZ s1
    have e1 : (x' == 0) = false := by simp [s1]
    have e2 : (x' != 0) = true := by simp [s1]
    have e3 : (x' == x') = true := by simp
    clear s1 s3
    go_wp2_with fail
    refine SZ.out.mono ?_
    rintro e w' ⟨rfl, rfl⟩
    go_wp2_with fail
    go_ret
    exact ⟨by first | rfl | simp, HZ.out⟩
  · obtain ⟨rfl, rfl, pr, pc⟩ := sz_parts s1
    obtain rfl : V = .slice none 0 0 := by
      rcases H24.out.2 with h | h
      · exact h.2
      · rw [s4] at h; cases h.1
    have VA := Lib.hid (refValid_c B nr nc A R C cm cr cc f r c w4 hm' hn' (HM.out.2.2.2.2.2.2.2.below H24.out.1 hBw) (HM.out.2.1.below H24.out.1 hBw) (HM.out.2.2.1.below H24.out.1 hBw) pr pc)
    have HN := Lib.hid s2
    subst s3
    subst s4
    rw [s1] at SZ
    clear s1 s2 pr pc
    go_wp2_with fail
    refine SZ.out.mono ?_
    rintro e w' ⟨rfl, rfl⟩
    go_wp2_with fail
    refine VA.out.mono ?_
    rintro e w5 ⟨⟨b, rfl, hb⟩, d5, rfl⟩
    obtain rfl : b = false := by
      cases b
      · rfl
      · exact absurd (hb.1 rfl) HN.out
    clear hb
    have HQ := Lib.hid (below_drewN HZ.out d5)
    go_wp2_with fail
    go_ret
    exact ⟨by first | rfl | simp, HQ.out⟩
  · obtain ⟨rfl, rfl, pr, pc⟩ := sz_parts s1
    have VA := Lib.hid (refValid_c B nr nc A R C cm cr cc f r c w4 hm' hn' (HM.out.2.2.2.2.2.2.2.below H24.out.1 hBw) (HM.out.2.1.below H24.out.1 hBw) (HM.out.2.2.1.below H24.out.1 hBw) pr pc)
    have HY := Lib.hid s2
    have hV := H24.out.2
    subst s4
    obtain ⟨av, cv, rfl, hrp⟩ : ∃ a cap, V = .slice a (tiA f r c nc nr).length cap ∧ Rp w4 a (tiA f r c nc nr) := by
      rcases hV with h | h
      · exact absurd rfl h.1
      · exact own_rp h.2
    have HPR := Lib.hid (And.intro pr (And.intro pc (And.intro hrp s3)))
    rw [s1] at SZ
    clear s1 s2 s3 pr pc hV hrp
    go_wp2_with fail
    refine SZ.out.mono ?_
    rintro e w' ⟨rfl, rfl⟩
    go_wp2_with fail
    refine VA.out.mono ?_
    rintro e w5 ⟨⟨b, rfl, hb⟩, d5, rfl⟩
    obtain rfl : b = true := hb.2 HY.out
    clear hb
    obtain ⟨wz, hwz⟩ : ∃ wz, w4.drewN d5 = wz := ⟨_, rfl⟩
    have hbz : Below w4.heap.size w4 wz := by rw [← hwz]; exact below_drewN (Below.refl w4.heap.size w4) d5
    have hb2z : Below ww.heap.size ww wz := H24.out.1.trans (hbz.mono (by omega))
    have HTz := Lib.hid (HM.out.2.2.2.2.2.2.2.below hb2z hBw)
    have HRz := Lib.hid (HM.out.2.1.below hb2z hBw)
    have HCz := Lib.hid (HM.out.2.2.1.below hb2z hBw)
    have HPz := Lib.hid (HPR.out.2.2.1.keep hbz)
    have HQ := Lib.hid (HZ.out.trans (hbz.mono HZ.out.size))
    have RS := Lib.hid (fun k => refSum_c B nr nc R C cr cc r c (wz.drewN k) hm' hn' (HRz.out.below (below_drewN (Below.refl B wz) k) (Nat.le_refl _)) (HCz.out.below (below_drewN (Below.refl B wz) k) (Nat.le_refl _)) HPR.out.1 HPR.out.2.1)
    have hs3 := HPR.out.2.2.2
    have hNle : (tiA f r c nc nr).length ≤ 36 := by
      have h1 := tiA_len f r c nc nr
      have h3 : nr * nc ≤ 6 * 6 := Nat.mul_le_mul (by omega) (by omega)
      omega
    obtain ⟨N, hN⟩ : ∃ N, (tiA f r c nc nr).length = N := ⟨_, rfl⟩
    rw [hN] at hNle ⊢
    have HN := Lib.hid hN
    have HS3 := Lib.hid hs3
    clear hbz hb2z hN hs3
    go_wp2_with fail
    try rw [hwz]
    clear hwz
    go_loopw [12, 13, 14] (fun p i _ wr => ∃ t : Nat, t ≤ nr ∧ i = .int .i64 (t : Int) ∧ p = .int .i64 (((tiA f r c nc t).length : Nat) : Int) ∧ ∃ d, wr = wz.drewN d) (fun _ i _ _ => nr - (intOf i).toNat)
    case atStart => exact ⟨0, Nat.zero_le _, rfl, rfl, 0, rfl⟩
    case round =>
      obtain ⟨t, ht, rfl, rfl, d7, hwr⟩ := hrel
      subst wr
      obtain ⟨P0, hP0⟩ : ∃ P0, (tiA f r c nc t).length = P0 := ⟨_, rfl⟩
      rw [hP0]
      have HP0 := Lib.hid hP0
      clear hP0
      by_cases htm : t < nr
      · have hti : (t : Int) < (nr : Int) := by omega
        have q := wrap_in (q := (t : Int) + 1) (by omega) (by omega)
        obtain ⟨a, Ai, ci, rfl, _, c0, hRd⟩ := HTz.out t htm
        obtain ⟨b1, rfl, _, c1⟩ := HRz.out t htm
        have HRd := Lib.hid (show Rd wz B Ai nc (f t) from hRd)
        have c0' : wz.cell? (a.add t) = some (.slice Ai nc ci) := c0
        clear hRd c0
        go_wp2_with fail
        go_loopw [12, 14] (fun p i wr => ∃ s : Nat, s ≤ nc ∧ i = .int .i64 (s : Int) ∧ p = .int .i64 (((tiA f r c nc t ++ tiP f r c t s).length : Nat) : Int) ∧ ∃ d, wr = wz.drewN d) (fun _ i _ => nc - (intOf i).toNat)
        case atStart => exact ⟨0, Nat.zero_le _, rfl, by rw [show tiP f r c t 0 = [] from rfl, List.append_nil, HP0.out], d7, rfl⟩
        case round =>
          obtain ⟨s, hs, rfl, rfl, d8, hwr⟩ := hrel
          subst wr
          by_cases hsn : s < nc
          · have hsi : (s : Int) < (nc : Int) := by omega
            have q' := wrap_in (q := (s : Int) + 1) (by omega) (by omega)
            obtain ⟨b2, rfl, _, e0⟩ := HRd.out s hsn
            obtain ⟨b3, rfl, _, e1⟩ := HCz.out s hsn
            have i1 := of_decide_eq_true (HPR.out.1 t htm)
            have i2 := of_decide_eq_true (HPR.out.2.1 s hsn)
            have q2 := wrap_in (q := r t + c s) (by omega) (by omega)
            by_cases hgt : r t + c s = f t s
            · have hbq : (r t + c s == f t s) = true := by simp [hgt]
              have hat := ti_at (f := f) (r := r) (c := c) htm hsn hgt
              have hPN := (List.getElem?_eq_some_iff.1 hat).1
              obtain ⟨g, rfl, hg, x0, x1⟩ := HPz.out _ _ _ hat
              have HG := Lib.hid hgt
              obtain ⟨P, hP⟩ : ∃ P, (tiA f r c nc t ++ tiP f r c t s).length = P := ⟨_, rfl⟩
              rw [hP] at x0 x1 hPN ⊢
              rw [HN.out] at hPN
              have HP := Lib.hid hP
              have hPi : ¬ (N : Int) ≤ (P : Int) := by omega
              have hPi2 : (P : Int) < (N : Int) := by omega
              have q3 := wrap_in (q := (P : Int) + 1) (by omega) (by omega)
              have heq2 : ∀ W : World, (Op.equalIn 10000 59 (.agg #[.int .i64 (t : Int), .int .i64 (s : Int)]) (.agg #[.int .i64 (t : Int), .int .i64 (s : Int)])).run Try.prog W = .ok true W := fun W => eq2_d 9998 t s W
              clear i1 i2 hgt hat hP
              go_wp2_with fail
              go_quiet (fail)
              go_wp2_with fail
              go_roundw
              case rel =>
                have e1 : tiP f r c t (s + 1) = tiP f r c t s ++ [(t, s)] := by
                  show tiP f r c t s ++ (if r t + c s = f t s then [(t, s)] else []) = _
                  rw [if_pos HG.out]
                exact ⟨s + 1, hsn, rfl, by rw [e1, ← List.append_assoc, List.length_append, HP.out]; rfl, _, by first | rfl | exact World.drewN_drewN ..⟩
              case measure => simp [intOf]; omega
            · have hbq : (r t + c s == f t s) = false := by simp [hgt]
              have HG := Lib.hid hgt
              obtain ⟨P, hP⟩ : ∃ P, (tiA f r c nc t ++ tiP f r c t s).length = P := ⟨_, rfl⟩
              rw [hP]
              have HP := Lib.hid hP
              clear i1 i2 hgt hP
              go_wp2_with fail
              go_quiet (fail)
              go_wp2_with fail
              go_roundw
              case rel =>
                have e1 : tiP f r c t (s + 1) = tiP f r c t s := by
                  show tiP f r c t s ++ (if r t + c s = f t s then [(t, s)] else []) = _
                  rw [if_neg HG.out, List.append_nil]
                exact ⟨s + 1, hsn, rfl, by rw [e1, HP.out], _, by first | rfl | exact World.drewN_drewN ..⟩
              case measure => simp [intOf]; omega
          · obtain rfl : s = nc := by omega
            have hsi : ¬ (s : Int) < (s : Int) := by omega
            obtain ⟨P, hP⟩ : ∃ P, (tiA f r c s t ++ tiP f r c t s).length = P := ⟨_, rfl⟩
            rw [hP]
            have HP := Lib.hid hP
            clear hP
            go_wp2_with fail
            go_roundw
            case rel => exact ⟨t + 1, htm, rfl, by rw [← HP.out]; rfl, d8, rfl⟩
            case measure => simp [intOf]; omega
      · obtain rfl : t = nr := by omega
        have hti : ¬ (t : Int) < (t : Int) := by omega
        obtain rfl : P0 = N := HP0.out.symm.trans HN.out
        have RS' := Lib.hid (RS.out d7)
        rw [← HS3.out] at RS'
        have hee : ((P0 : Int) == (P0 : Int)) = true := by simp
        have hvv : (v' == v') = true := by simp
        have HQ' := Lib.hid (below_drewN HQ.out d7)
        go_wp2_with fail
        refine RS'.out.mono ?_
        rintro e w' ⟨rfl, rfl⟩
        go_wp2_with fail
        go_ret
        exact ⟨by first | rfl | simp, HQ'.out⟩
end Go.Proofs.Ytojgfpnecdngfaa
