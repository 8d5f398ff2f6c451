/- Contracts of Sum and Product. -/
import Derived.Test.YtnchodofgaaeeaaGreatDoorImV
import Derived.Test.YtnchodofgaaeeaaGreatDoorImO
namespace Go.Proofs.YtnchodofgaaeeaaGreatDoor
open Go Go.RowKit Go.Shelf

def foldI (x : Int) (v : Value) (a : ByteArray) (u : Int) : Nat → Value → World → Prop
  | 0, y, _ => y = v
  | 1, y, _ => y = .string a
  | 2, y, A => Num A y x
  | 3, y, A => Num A y u
  | _, _, _ => True
theorem foldI_up (x : Int) (v : Value) (a : ByteArray) (u : Int) : ∀ (j : Nat) (y : Value) (A B : World), Below A.heap.size A B → foldI x v a u j y A → foldI x v a u j y B
  | 0, _, _, _, _, h => h
  | 1, _, _, _, _, h => h
  | 2, _, _, _, hb, h => Num.call h hb
  | 3, _, _, _, hb, h => Num.call h hb
  | _ + 4, _, _, _, _, _ => trivial
theorem cn_bit (c : UInt8) (h : Im.canonI [c] = true) : Cn ⟨#[c]⟩ := ⟨h, (show (1 : Nat) ≤ 100000 by decide)⟩
def sumZ (l : List ByteArray) : Int := l.foldl (fun z a => z + iv a) 0
theorem sumZ_snoc (l : List ByteArray) (a : ByteArray) : sumZ (l ++ [a]) = sumZ l + iv a := by simp [sumZ]
theorem sumZ_take {l : List ByteArray} {k : Nat} (h : k < l.length) : sumZ (l.take (k + 1)) = sumZ (l.take k) + iv l[k] := by rw [List.take_succ_eq_append_getElem h, sumZ_snoc]
theorem sum_three (a b c : ByteArray) : sumZ [a, b, c] = iv a + iv b + iv c := by simp [sumZ]
theorem sum_small (l : List ByteArray) (h : l.all fitB = true) : ∀ k, k ≤ l.length → k ≤ 100 → nd (sumZ (l.take k)).natAbs ≤ 1000 := by
  have key : ∀ k, k ≤ l.length → (sumZ (l.take k)).natAbs ≤ k * 10 ^ 90 := by
    intro k
    induction k with
    | zero => intro _; simp [sumZ]
    | succ k ih =>
      intro hk
      rw [sumZ_take (by omega), Nat.succ_mul]
      have h1 := ih (by omega)
      have h2 := fit_lt (List.all_eq_true.1 h l[k] (List.getElem_mem (by omega)))
      generalize 10 ^ 90 = p at *
      omega
  intro k hk h100
  refine Nat.le_trans (Im.nd_le bb2 (k := 100) (Nat.lt_of_le_of_lt (key k hk) ?_)) (by decide)
  have h1 : k * 10 ^ 90 ≤ 100 * 10 ^ 90 := Nat.mul_le_mul_right _ h100
  have h2 : 100 * 10 ^ 90 < BB ^ 100 := by unfold BB; decide +kernel
  exact Nat.lt_of_le_of_lt h1 h2
set_option maxRecDepth 100000 in
set_option maxHeartbeats 4000000 in
theorem sum_any (sl : Option Addr) (bl ol cap : Nat) (l : List ByteArray) (hl : l.length ≤ 100) (hfit : l.all fitB = true) (hcap : l.length ≤ cap) (hat : 0 < l.length → sl = some ⟨bl, ol, none⟩) (w : World) (hlt : 0 < l.length → bl < w.heap.size) (hc : ∀ k (h : k < l.length), w.cell? ⟨bl, ol + k, none⟩ = some (.string l[k])) (G : Gi w) :
    Calls Tryz.prog 35 #[.slice sl l.length cap] w fun e w' => e = .returned (.string (tz (sumZ l))) ∧ Below w.heap.size w w' := by
  have R0 := Lib.hid (fun W => read_c ⟨#[48]⟩ (cn_bit 48 (by decide)) W)
  rw [show iv ⟨#[48]⟩ = 0 by decide] at R0
  have RK := Lib.hid (fun k (h : k < l.length) W => read_c l[k] (fit_cn (List.all_eq_true.1 hfit l[k] (List.getElem_mem h))).1 W)
  have NS := Lib.hid (fun k hk => sum_small l hfit k hk (by omega))
  have NK := Lib.hid (fun k (h : k < l.length) => nd_iv (fit_cn (List.all_eq_true.1 hfit l[k] (List.getElem_mem h))).1)
  have ZK := Lib.hid (fun k (h : k < l.length) => sumZ_take h)
  have ZL := Lib.hid (show sumZ (l.take l.length) = sumZ l by rw [List.take_length])
  obtain ⟨n, hn⟩ : ∃ n, l.length = n := ⟨_, rfl⟩
  have HN := Lib.hid hn
  have HC := Lib.hid hc
  rw [hn] at hl hcap hat hlt ZL ⊢
  have HAT := Lib.hid hat
  have HLT := Lib.hid hlt
  clear hn hc hfit hat hlt
  obtain ⟨D, hD⟩ : ∃ D, w.heap.size = D := ⟨_, rfl⟩
  rw [hD] at HLT
  go_enter Tryz.func35, Tryz.ntmps35
  go_wp2_with fail
  refine (R0.out _).mono ?_
  rintro e w2 ⟨⟨v2, rfl, h2⟩, hb2⟩
  obtain ⟨ng, m, sa, cp, b, o, rfl, hr2, hz2⟩ := num_open h2
  have HZ2 := Lib.hid hz2
  clear hz2 h2
  obtain ⟨E, hE⟩ : ∃ E, w2.heap.size = E := ⟨_, rfl⟩
  have hDE : D ≤ E := by have := hb2.size; omega
  go_upto_region 2 with fail
  obtain ⟨V, hV⟩ : ∃ V, (w2.alloc (.cells #[.bool ng, .slice sa (nd m) cp] 80)) = V := ⟨_, rfl⟩
  have hwV : Below D w V := by rw [← hV, ← hD]; exact hb2.alloc (by have := hb2.size; omega) _
  have hVb : Below E w2 V := by rw [← hV, ← hE]; exact (Below.refl _ _).alloc (Nat.le_refl _) _
  have hV0 : V.heap[E]? = some (.cells #[.bool ng, .slice sa (nd m) cp] 80) := by rw [← hV]; exact heap_at hE.symm
  have hzV : V.heap.size = E + 1 := by rw [← hV]; simp [hE]
  have hrV := hr2.below hVb (by omega)
  rw [hV]
  clear hV hr2 hb2 hVb hE
  go_wp2_with fail
  go_loopw [9] (fun i wr => ∃ k ng3 m3 sa3 cap3 b3 o3, k ≤ n ∧ i = .int .i64 (k : Nat) ∧ sv ng3 m3 = sumZ (l.take k) ∧ Row wr sa3 (nd m3) cap3 b3 o3 m3 ∧ wr.heap[E]? = some (.cells #[.bool ng3, .slice sa3 (nd m3) cap3] 80) ∧ E + 1 ≤ wr.heap.size ∧ Below D w wr) (fun i _ => n - (intOf i).toNat)
  case atStart => exact ⟨0, ng, m, sa, cp, b, o, Nat.zero_le _, rfl, by rw [← HZ2.out]; rfl, hrV, hV0, by omega, hwV⟩
  case round =>
    obtain ⟨k, ng3, m3, sa3, cap3, b3, o3, hk, rfl, hz3, hr3, hh0, hsz, hw⟩ := hrel
    by_cases h1 : k < n
    · have hki : (k : Int) < (n : Int) := by omega
      have hkl : k < l.length := by rw [HN.out]; exact h1
      have ca := (hw.cell (p := ⟨bl, ol + k, none⟩) (HLT.out (by omega))).trans (HC.out k hkl)
      obtain rfl := HAT.out (by omega)
      have RKK := Lib.hid (RK.out k hkl)
      have hns := NS.out k (by omega)
      have hnk := NK.out k hkl
      have HZN := Lib.hid (ZK.out k hkl)
      rw [← hz3] at hns HZN
      obtain ⟨a, ha⟩ : ∃ a, l[k] = a := ⟨_, rfl⟩
      rw [ha] at ca RKK hnk HZN
      have HM := Lib.hid (num_mk (neg := ng3) hr3)
      have HNS := Lib.hid hns
      have HNK := Lib.hid hnk
      have HH := Lib.hid hh0
      have c0 := cells_fst hh0
      have c1 := cells_snd hh0
      have HW := Lib.hid hw
      clear hz3 hns hnk ha hr3 hh0 hw
      go_upto_region 5 with fail
      obtain ⟨W0, hW0⟩ : ∃ W0, W0 = wr := ⟨_, rfl⟩
      subst hW0
      have K0 := Lib.hid c0
      have K1 := Lib.hid c1
      clear c0 c1 ca
      refine wp_region_slots_at rfl rfl (fun base ys => (((base.set 13 (ys 0)).set 14 (ys 1)).set 15 (ys 2)).set 16 (ys 3)) (LastI _ (Below W0.heap.size W0) (foldI (iv a) (.agg #[.bool ng3, .slice sa3 (nd m3) cap3]) a (sv ng3 m3 + iv a)) (fun A => ∃ ng5 m5 sa5 cap5 b5 o5, sv ng5 m5 = sv ng3 m3 + iv a ∧ Row A sa5 (nd m5) cap5 b5 o5 m5 ∧ A.heap[E]? = some (.cells #[.bool ng5, .slice sa5 (nd m5) cap5] 80) ∧ E + 1 ≤ A.heap.size ∧ Below D w A)) (fun j => match j with | 0 => u13 | 1 => u14 | 2 => u15 | 3 => u16 | _ => undef) (by kernel_rfl) (last_start (by decide) ((Below.refl _ _).trans ⟨rfl, rfl, rfl, Nat.le_refl _, fun _ _ => rfl⟩)) ?h
      case h =>
        intro F hF
        simp only [List.set_cons_succ, List.set_cons_zero] at hF
        subst hF
        refine ⟨rfl, ?_, ?_⟩
        refine ⟨?_, ?_⟩
        · refine SlotStep.lastB (by kernel_rfl) rfl (by decide) (fun A B hb h => h.trans (hb.mono h.size)) (foldI_up _ _ _ _) ?_
          intro ys W hR hd K hK
          have c0 := (hR.cell (p := ⟨E, 0, none⟩) (by show E < W0.heap.size; omega)).trans K0.out
          have c1 := (hR.cell (p := ⟨E, 1, none⟩) (by show E < W0.heap.size; omega)).trans K1.out
          go_simp
          have hK2 := hK (.agg #[.bool ng3, .slice sa3 (nd m3) cap3]) _ (Below.refl _ _) rfl
          simp (config := { decide := true }) only [upd, if_true, if_false] at hK2
          exact hK2
        refine ⟨?_, ?_⟩
        · refine SlotStep.lastB (by kernel_rfl) rfl (by decide) (fun A B hb h => h.trans (hb.mono h.size)) (foldI_up _ _ _ _) ?_
          intro ys W hR hd K hK
          go_simp
          have hK2 := hK (.string a) _ (Below.refl _ _) rfl
          simp (config := { decide := true }) only [upd, if_true, if_false] at hK2
          exact hK2
        refine ⟨?_, ?_⟩
        · refine SlotStep.lastB (by kernel_rfl) rfl (by decide) (fun A B hb h => h.trans (hb.mono h.size)) (foldI_up _ _ _ _) ?_
          intro ys W hR hd K hK
          have d1 : ys 1 = .string a := hd 1 (by kernel_rfl) (by decide)
          go_simp
          refine (RKK.out W).mono ?_
          rintro e w5 ⟨⟨v5, rfl, hm5⟩, hb5⟩
          have hK2 := hK v5 _ hb5 hm5
          simp (config := { decide := true }) only [upd, if_true, if_false, d1] at hK2
          exact hK2
        refine ⟨?_, ?_⟩
        · refine SlotStep.lastB (by kernel_rfl) rfl (by decide) (fun A B hb h => h.trans (hb.mono h.size)) (foldI_up _ _ _ _) ?_
          intro ys W hR hd K hK
          have d0 : ys 0 = .agg #[.bool ng3, .slice sa3 (nd m3) cap3] := hd 0 (by kernel_rfl) (by decide)
          have d2 : Num W (ys 2) (iv a) := hd 2 (by kernel_rfl) (by decide)
          have D2 := Lib.hid d2
          clear d2
          go_simp
          refine (plus_any _ _ _ _ W (HM.out.below hR (Nat.le_refl _)) D2.out (by have := HNS.out; omega) (by have := HNK.out; omega)).mono ?_
          rintro e w5 ⟨⟨v5, rfl, hm5⟩, hb5⟩
          have hK2 := hK v5 _ hb5 hm5
          simp (config := { decide := true }) only [upd, if_true, if_false, d0] at hK2
          exact hK2
        refine ⟨?_, ?_⟩
        · refine SlotStep.lastS rfl rfl ?_
          intro ys W hR hd K hK
          have d3 : Num W (ys 3) (sv ng3 m3 + iv a) := hd 3 (by kernel_rfl) (by decide)
          obtain ⟨ng5, m5, sa5, cap5, b5, o5, hv, hrow, hz5⟩ := num_open d3
          have hh := (hR.block E (by omega)).trans HH.out
          have f0 := cells_f0 hh
          have f1 := cells_f1 hh
          have g0 := cells_fst hh
          have g1 := cells_snd hh
          have hne := row_ne hrow hh
          have HV := Lib.hid hv
          have hwD := HW.out.trans (hR.mono (by have := HW.out.size; omega))
          have hDE2 : D ≤ E := hDE
          clear d3
          go_simp
          have hK2 := hK undef _ ⟨ng5, m5, sa5, cap5, b5, o5, hz5.symm, (hrow.set ⟨E, 0, none⟩ hne _).set ⟨E, 1, none⟩ hne _, set_two hh, by have := hR.size; simp [World.setCell]; omega, (hwD.setCell (p := ⟨E, 0, none⟩) (by simpa using hDE2) _).setCell (p := ⟨E, 1, none⟩) (by simpa using hDE2) _⟩
          simp (config := { decide := true }) only [upd, if_false, hv] at hK2
          exact hK2
        trivial
        · intro L ys W hL hI
          obtain ⟨ng5, m5, sa5, cap5, b5, o5, hz5, hr5, hh5, hs5, hw5⟩ := last_end (by decide) hL hI
          have HZ5 := Lib.hid hz5
          have HR5 := Lib.hid hr5
          have HH5 := Lib.hid hh5
          have HW5 := Lib.hid hw5
          clear hz5 hr5 hh5 hw5 hI hL
          generalize ys 0 = y0 at *
          generalize ys 1 = y1 at *
          generalize ys 2 = y2 at *
          generalize ys 3 = y3 at *
          go_wp2
          go_roundw
          case rel => exact ⟨k + 1, ng5, m5, sa5, cap5, b5, o5, by omega, by go_num, by rw [HZN.out, HZ5.out], HR5.out, HH5.out, hs5, HW5.out⟩
          case measure => simp [intOf]; omega
    · obtain rfl : k = n := by omega
      have hki : ¬ (k : Int) < (k : Int) := by omega
      have HM := Lib.hid (num_mk (neg := ng3) hr3)
      have hns := NS.out k (by rw [HN.out]; exact Nat.le_refl _)
      rw [← hz3] at hns
      rw [ZL.out] at hz3
      have HZ3 := Lib.hid hz3
      have HNS := Lib.hid hns
      have c0 := cells_fst hh0
      have c1 := cells_snd hh0
      have HW := Lib.hid hw
      have GW := G.below (hD ▸ hw)
      clear hz3 hr3 hh0 hns hw
      go_wp2_with fail
      refine (text_any _ _ _ HM.out (by have := HNS.out; omega) GW).mono ?_
      rintro e w7 ⟨rfl, hb7⟩
      go_wp2
      go_ret
      exact ⟨by rw [HZ3.out]; rfl, by rw [hD]; exact HW.out.trans (hb7.mono (by have := HW.out.size; omega))⟩
theorem sum_new (l : List ByteArray) (hl : l.length ≤ 100) (hfit : l.all fitB = true) (T : TypeId) (n : Nat) (hn : l.length = n) (W : World) (G : Gi W) :
    Calls Tryz.prog 35 #[.slice (some ⟨W.heap.size, 0, none⟩) n n] (W.alloc (.cells (l.map Value.string).toArray T)) fun e w' => e = .returned (.string (tz (sumZ l))) ∧ Below W.heap.size W w' := by
  subst hn
  have hb : Below W.heap.size W (W.alloc (.cells (l.map Value.string).toArray T)) := (Below.refl _ _).alloc (Nat.le_refl _) _
  refine (sum_any _ W.heap.size 0 l.length l hl hfit (Nat.le_refl _) (fun _ => rfl) _ (fun _ => by simp) (fun k hk => ?_) (G.below hb)).mono ?_
  · rw [Nat.zero_add, alloc_cell]; simp [hk]
  · rintro e w' ⟨rfl, h⟩
    exact ⟨rfl, hb.trans (h.mono (by simp))⟩
theorem sum_none (W : World) (G : Gi W) :
    Calls Tryz.prog 35 #[.slice none 0 0] W fun e w' => e = .returned (.string ⟨#[48]⟩) ∧ Below W.heap.size W w' := by
  have := sum_any none 0 0 0 [] (by decide) (by decide) (Nat.le_refl _) (fun h => absurd h (by decide)) W (fun h => absurd h (by decide)) (fun k h => absurd h (by simp)) G
  rw [show tz (sumZ []) = ⟨#[48]⟩ from ext_bytes (by show Lib.itoa 0 = [48]; rw [Im.itoa_nonneg (by decide)]; exact Im.dec_small (by decide))] at this
  exact this
def productZ (l : List ByteArray) : Int := l.foldl (fun z a => z * iv a) 1
theorem productZ_snoc (l : List ByteArray) (a : ByteArray) : productZ (l ++ [a]) = productZ l * iv a := by simp [productZ]
theorem productZ_take {l : List ByteArray} {k : Nat} (h : k < l.length) : productZ (l.take (k + 1)) = productZ (l.take k) * iv l[k] := by rw [List.take_succ_eq_append_getElem h, productZ_snoc]
theorem product_three (a b c : ByteArray) : productZ [a, b, c] = iv a * iv b * iv c := by simp [productZ]
theorem product_small (l : List ByteArray) (h : l.all fitB = true) : ∀ k, k ≤ l.length → k ≤ 100 → nd (productZ (l.take k)).natAbs ≤ 100000 := by
  have key : ∀ k, k ≤ l.length → (productZ (l.take k)).natAbs ≤ 10 ^ (90 * k) := by
    intro k
    induction k with
    | zero => intro _; simp [productZ]
    | succ k ih =>
      intro hk
      rw [productZ_take (by omega), Int.natAbs_mul, Nat.mul_succ, Nat.pow_add]
      have h1 := ih (by omega)
      have h2 := fit_lt (List.all_eq_true.1 h l[k] (List.getElem_mem (by omega)))
      exact Nat.mul_le_mul h1 (Nat.le_of_lt h2)
  intro k hk h100
  have h1 := key k hk
  obtain ⟨N, hN⟩ : ∃ N, N = 9000 := ⟨_, rfl⟩
  have h2 : (10 : Nat) ^ (90 * k) ≤ 10 ^ N := Nat.pow_le_pow_right (by decide) (by omega)
  have h3 : (10 : Nat) ^ N < 10 ^ (N + 1) := Nat.pow_lt_pow_right (by decide) (Nat.lt_succ_self N)
  have h4 := pow_BB (N + 1)
  exact Nat.le_trans (Im.nd_le bb2 (k := N + 1) (Nat.lt_of_lt_of_le (Nat.lt_of_le_of_lt (Nat.le_trans h1 h2) h3) h4)) (by omega)
set_option maxRecDepth 100000 in
set_option maxHeartbeats 4000000 in
theorem product_any (sl : Option Addr) (bl ol cap : Nat) (l : List ByteArray) (hl : l.length ≤ 100) (hfit : l.all fitB = true) (hcap : l.length ≤ cap) (hat : 0 < l.length → sl = some ⟨bl, ol, none⟩) (w : World) (hlt : 0 < l.length → bl < w.heap.size) (hc : ∀ k (h : k < l.length), w.cell? ⟨bl, ol + k, none⟩ = some (.string l[k])) (G : Gi w) :
    Calls Tryz.prog 38 #[.slice sl l.length cap] w fun e w' => e = .returned (.string (tz (productZ l))) ∧ Below w.heap.size w w' := by
  have R0 := Lib.hid (fun W => read_c ⟨#[49]⟩ (cn_bit 49 (by decide)) W)
  rw [show iv ⟨#[49]⟩ = 1 by decide] at R0
  have RK := Lib.hid (fun k (h : k < l.length) W => read_c l[k] (fit_cn (List.all_eq_true.1 hfit l[k] (List.getElem_mem h))).1 W)
  have NS := Lib.hid (fun k hk => product_small l hfit k hk (by omega))
  have NK := Lib.hid (fun k (h : k < l.length) => nd_iv (fit_cn (List.all_eq_true.1 hfit l[k] (List.getElem_mem h))).1)
  have ZK := Lib.hid (fun k (h : k < l.length) => productZ_take h)
  have ZL := Lib.hid (show productZ (l.take l.length) = productZ l by rw [List.take_length])
  obtain ⟨n, hn⟩ : ∃ n, l.length = n := ⟨_, rfl⟩
  have HN := Lib.hid hn
  have HC := Lib.hid hc
  rw [hn] at hl hcap hat hlt ZL ⊢
  have HAT := Lib.hid hat
  have HLT := Lib.hid hlt
  clear hn hc hfit hat hlt
  obtain ⟨D, hD⟩ : ∃ D, w.heap.size = D := ⟨_, rfl⟩
  rw [hD] at HLT
  go_enter Tryz.func38, Tryz.ntmps38
  go_wp2_with fail
  refine (R0.out _).mono ?_
  rintro e w2 ⟨⟨v2, rfl, h2⟩, hb2⟩
  obtain ⟨ng, m, sa, cp, b, o, rfl, hr2, hz2⟩ := num_open h2
  have HZ2 := Lib.hid hz2
  clear hz2 h2
  obtain ⟨E, hE⟩ : ∃ E, w2.heap.size = E := ⟨_, rfl⟩
  have hDE : D ≤ E := by have := hb2.size; omega
  go_upto_region 2 with fail
  obtain ⟨V, hV⟩ : ∃ V, (w2.alloc (.cells #[.bool ng, .slice sa (nd m) cp] 80)) = V := ⟨_, rfl⟩
  have hwV : Below D w V := by rw [← hV, ← hD]; exact hb2.alloc (by have := hb2.size; omega) _
  have hVb : Below E w2 V := by rw [← hV, ← hE]; exact (Below.refl _ _).alloc (Nat.le_refl _) _
  have hV0 : V.heap[E]? = some (.cells #[.bool ng, .slice sa (nd m) cp] 80) := by rw [← hV]; exact heap_at hE.symm
  have hzV : V.heap.size = E + 1 := by rw [← hV]; simp [hE]
  have hrV := hr2.below hVb (by omega)
  rw [hV]
  clear hV hr2 hb2 hVb hE
  go_wp2_with fail
  go_loopw [9] (fun i wr => ∃ k ng3 m3 sa3 cap3 b3 o3, k ≤ n ∧ i = .int .i64 (k : Nat) ∧ sv ng3 m3 = productZ (l.take k) ∧ Row wr sa3 (nd m3) cap3 b3 o3 m3 ∧ wr.heap[E]? = some (.cells #[.bool ng3, .slice sa3 (nd m3) cap3] 80) ∧ E + 1 ≤ wr.heap.size ∧ Below D w wr) (fun i _ => n - (intOf i).toNat)
  case atStart => exact ⟨0, ng, m, sa, cp, b, o, Nat.zero_le _, rfl, by rw [← HZ2.out]; rfl, hrV, hV0, by omega, hwV⟩
  case round =>
    obtain ⟨k, ng3, m3, sa3, cap3, b3, o3, hk, rfl, hz3, hr3, hh0, hsz, hw⟩ := hrel
    by_cases h1 : k < n
    · have hki : (k : Int) < (n : Int) := by omega
      have hkl : k < l.length := by rw [HN.out]; exact h1
      have ca := (hw.cell (p := ⟨bl, ol + k, none⟩) (HLT.out (by omega))).trans (HC.out k hkl)
      obtain rfl := HAT.out (by omega)
      have RKK := Lib.hid (RK.out k hkl)
      have hns := NS.out k (by omega)
      have hnk := NK.out k hkl
      have HZN := Lib.hid (ZK.out k hkl)
      rw [← hz3] at hns HZN
      obtain ⟨a, ha⟩ : ∃ a, l[k] = a := ⟨_, rfl⟩
      rw [ha] at ca RKK hnk HZN
      have HM := Lib.hid (num_mk (neg := ng3) hr3)
      have HNS := Lib.hid hns
      have HNK := Lib.hid hnk
      have HH := Lib.hid hh0
      have c0 := cells_fst hh0
      have c1 := cells_snd hh0
      have HW := Lib.hid hw
      clear hz3 hns hnk ha hr3 hh0 hw
      go_upto_region 5 with fail
      obtain ⟨W0, hW0⟩ : ∃ W0, W0 = wr := ⟨_, rfl⟩
      subst hW0
      have K0 := Lib.hid c0
      have K1 := Lib.hid c1
      clear c0 c1 ca
      refine wp_region_slots_at rfl rfl (fun base ys => (((base.set 13 (ys 0)).set 14 (ys 1)).set 15 (ys 2)).set 16 (ys 3)) (LastI _ (Below W0.heap.size W0) (foldI (iv a) (.agg #[.bool ng3, .slice sa3 (nd m3) cap3]) a (sv ng3 m3 * iv a)) (fun A => ∃ ng5 m5 sa5 cap5 b5 o5, sv ng5 m5 = sv ng3 m3 * iv a ∧ Row A sa5 (nd m5) cap5 b5 o5 m5 ∧ A.heap[E]? = some (.cells #[.bool ng5, .slice sa5 (nd m5) cap5] 80) ∧ E + 1 ≤ A.heap.size ∧ Below D w A)) (fun j => match j with | 0 => u13 | 1 => u14 | 2 => u15 | 3 => u16 | _ => undef) (by kernel_rfl) (last_start (by decide) ((Below.refl _ _).trans ⟨rfl, rfl, rfl, Nat.le_refl _, fun _ _ => rfl⟩)) ?h
      case h =>
        intro F hF
        simp only [List.set_cons_succ, List.set_cons_zero] at hF
        subst hF
        refine ⟨rfl, ?_, ?_⟩
        refine ⟨?_, ?_⟩
        · refine SlotStep.lastB (by kernel_rfl) rfl (by decide) (fun A B hb h => h.trans (hb.mono h.size)) (foldI_up _ _ _ _) ?_
          intro ys W hR hd K hK
          have c0 := (hR.cell (p := ⟨E, 0, none⟩) (by show E < W0.heap.size; omega)).trans K0.out
          have c1 := (hR.cell (p := ⟨E, 1, none⟩) (by show E < W0.heap.size; omega)).trans K1.out
          go_simp
          have hK2 := hK (.agg #[.bool ng3, .slice sa3 (nd m3) cap3]) _ (Below.refl _ _) rfl
          simp (config := { decide := true }) only [upd, if_true, if_false] at hK2
          exact hK2
        refine ⟨?_, ?_⟩
        · refine SlotStep.lastB (by kernel_rfl) rfl (by decide) (fun A B hb h => h.trans (hb.mono h.size)) (foldI_up _ _ _ _) ?_
          intro ys W hR hd K hK
          go_simp
          have hK2 := hK (.string a) _ (Below.refl _ _) rfl
          simp (config := { decide := true }) only [upd, if_true, if_false] at hK2
          exact hK2
        refine ⟨?_, ?_⟩
        · refine SlotStep.lastB (by kernel_rfl) rfl (by decide) (fun A B hb h => h.trans (hb.mono h.size)) (foldI_up _ _ _ _) ?_
          intro ys W hR hd K hK
          have d1 : ys 1 = .string a := hd 1 (by kernel_rfl) (by decide)
          go_simp
          refine (RKK.out W).mono ?_
          rintro e w5 ⟨⟨v5, rfl, hm5⟩, hb5⟩
          have hK2 := hK v5 _ hb5 hm5
          simp (config := { decide := true }) only [upd, if_true, if_false, d1] at hK2
          exact hK2
        refine ⟨?_, ?_⟩
        · refine SlotStep.lastB (by kernel_rfl) rfl (by decide) (fun A B hb h => h.trans (hb.mono h.size)) (foldI_up _ _ _ _) ?_
          intro ys W hR hd K hK
          have d0 : ys 0 = .agg #[.bool ng3, .slice sa3 (nd m3) cap3] := hd 0 (by kernel_rfl) (by decide)
          have d2 : Num W (ys 2) (iv a) := hd 2 (by kernel_rfl) (by decide)
          have D2 := Lib.hid d2
          clear d2
          go_simp
          refine (times_any _ _ _ _ W (HM.out.below hR (Nat.le_refl _)) D2.out (by have := HNS.out; omega) (by have := HNK.out; omega)).mono ?_
          rintro e w5 ⟨⟨v5, rfl, hm5⟩, hb5⟩
          have hK2 := hK v5 _ hb5 hm5
          simp (config := { decide := true }) only [upd, if_true, if_false, d0] at hK2
          exact hK2
        refine ⟨?_, ?_⟩
        · refine SlotStep.lastS rfl rfl ?_
          intro ys W hR hd K hK
          have d3 : Num W (ys 3) (sv ng3 m3 * iv a) := hd 3 (by kernel_rfl) (by decide)
          obtain ⟨ng5, m5, sa5, cap5, b5, o5, hv, hrow, hz5⟩ := num_open d3
          have hh := (hR.block E (by omega)).trans HH.out
          have f0 := cells_f0 hh
          have f1 := cells_f1 hh
          have g0 := cells_fst hh
          have g1 := cells_snd hh
          have hne := row_ne hrow hh
          have HV := Lib.hid hv
          have hwD := HW.out.trans (hR.mono (by have := HW.out.size; omega))
          have hDE2 : D ≤ E := hDE
          clear d3
          go_simp
          have hK2 := hK undef _ ⟨ng5, m5, sa5, cap5, b5, o5, hz5.symm, (hrow.set ⟨E, 0, none⟩ hne _).set ⟨E, 1, none⟩ hne _, set_two hh, by have := hR.size; simp [World.setCell]; omega, (hwD.setCell (p := ⟨E, 0, none⟩) (by simpa using hDE2) _).setCell (p := ⟨E, 1, none⟩) (by simpa using hDE2) _⟩
          simp (config := { decide := true }) only [upd, if_false, hv] at hK2
          exact hK2
        trivial
        · intro L ys W hL hI
          obtain ⟨ng5, m5, sa5, cap5, b5, o5, hz5, hr5, hh5, hs5, hw5⟩ := last_end (by decide) hL hI
          have HZ5 := Lib.hid hz5
          have HR5 := Lib.hid hr5
          have HH5 := Lib.hid hh5
          have HW5 := Lib.hid hw5
          clear hz5 hr5 hh5 hw5 hI hL
          generalize ys 0 = y0 at *
          generalize ys 1 = y1 at *
          generalize ys 2 = y2 at *
          generalize ys 3 = y3 at *
          go_wp2
          go_roundw
          case rel => exact ⟨k + 1, ng5, m5, sa5, cap5, b5, o5, by omega, by go_num, by rw [HZN.out, HZ5.out], HR5.out, HH5.out, hs5, HW5.out⟩
          case measure => simp [intOf]; omega
    · obtain rfl : k = n := by omega
      have hki : ¬ (k : Int) < (k : Int) := by omega
      have HM := Lib.hid (num_mk (neg := ng3) hr3)
      have hns := NS.out k (by rw [HN.out]; exact Nat.le_refl _)
      rw [← hz3] at hns
      rw [ZL.out] at hz3
      have HZ3 := Lib.hid hz3
      have HNS := Lib.hid hns
      have c0 := cells_fst hh0
      have c1 := cells_snd hh0
      have HW := Lib.hid hw
      have GW := G.below (hD ▸ hw)
      clear hz3 hr3 hh0 hns hw
      go_wp2_with fail
      refine (text_any _ _ _ HM.out (by have := HNS.out; omega) GW).mono ?_
      rintro e w7 ⟨rfl, hb7⟩
      go_wp2
      go_ret
      exact ⟨by rw [HZ3.out]; rfl, by rw [hD]; exact HW.out.trans (hb7.mono (by have := HW.out.size; omega))⟩
theorem product_new (l : List ByteArray) (hl : l.length ≤ 100) (hfit : l.all fitB = true) (T : TypeId) (n : Nat) (hn : l.length = n) (W : World) (G : Gi W) :
    Calls Tryz.prog 38 #[.slice (some ⟨W.heap.size, 0, none⟩) n n] (W.alloc (.cells (l.map Value.string).toArray T)) fun e w' => e = .returned (.string (tz (productZ l))) ∧ Below W.heap.size W w' := by
  subst hn
  have hb : Below W.heap.size W (W.alloc (.cells (l.map Value.string).toArray T)) := (Below.refl _ _).alloc (Nat.le_refl _) _
  refine (product_any _ W.heap.size 0 l.length l hl hfit (Nat.le_refl _) (fun _ => rfl) _ (fun _ => by simp) (fun k hk => ?_) (G.below hb)).mono ?_
  · rw [Nat.zero_add, alloc_cell]; simp [hk]
  · rintro e w' ⟨rfl, h⟩
    exact ⟨rfl, hb.trans (h.mono (by simp))⟩
theorem product_none (W : World) (G : Gi W) :
    Calls Tryz.prog 38 #[.slice none 0 0] W fun e w' => e = .returned (.string ⟨#[49]⟩) ∧ Below W.heap.size W w' := by
  have := product_any none 0 0 0 [] (by decide) (by decide) (Nat.le_refl _) (fun h => absurd h (by decide)) W (fun h => absurd h (by decide)) (fun k h => absurd h (by simp)) G
  rw [show tz (productZ []) = ⟨#[49]⟩ from ext_bytes (by show Lib.itoa 1 = [49]; rw [Im.itoa_nonneg (by decide)]; exact Im.dec_small (by decide))] at this
  exact this
end Go.Proofs.YtnchodofgaaeeaaGreatDoor
