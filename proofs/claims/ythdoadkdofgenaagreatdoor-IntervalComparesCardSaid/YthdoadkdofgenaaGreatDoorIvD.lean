/- The contract of partsOf. -/
import Derived.Test.YthdoadkdofgenaaGreatDoorFracCk
namespace Go.Proofs.YthdoadkdofgenaaGreatDoor
open Go Go.RowKit Go.Shelf

def ptI (X P : Nat) (i n d L q u : Int) (o : Nat) : Nat → Value → World → Prop
  | 0, v, _ => v = .int .i64 i
  | 1, v, _ => v = .pointer (some ⟨X, 0, none⟩)
  | 2, v, _ => v = .int .i64 n
  | 3, v, _ => v = .pointer (some ⟨P, 3, none⟩)
  | 4, v, _ => v = .int .i64 L
  | 5, v, _ => v = .pointer (some ⟨X, 1, none⟩)
  | 6, v, _ => v = .int .i64 d
  | 7, v, _ => v = .int .i64 q
  | 8, v, _ => v = .int .i64 u
  | 9, v, _ => v = .pointer (some ⟨P, 0, none⟩)
  | 10, v, _ => v = .pointer (some ⟨P, o, none⟩)
  | _, _, _ => True
theorem ptI_up (X P : Nat) (i n d L q u : Int) (o : Nat) : ∀ (j : Nat) (v : Value) (A B : World), Below A.heap.size A B → ptI X P i n d L q u o j v A → ptI X P i n d L q u o j v B
  | 0, _, _, _, _, h => h
  | 1, _, _, _, _, h => h
  | 2, _, _, _, _, h => h
  | 3, _, _, _, _, h => h
  | 4, _, _, _, _, h => h
  | 5, _, _, _, _, h => h
  | 6, _, _, _, _, h => h
  | 7, _, _, _, _, h => h
  | 8, _, _, _, _, h => h
  | 9, _, _, _, _, h => h
  | 10, _, _, _, _, h => h
  | _ + 11, _, _, _, _, _ => trivial

/-- What a size reads as. -/
def rdV (n2 d2 n3 d3 n5 d5 : Int) : Value :=
  if Iv.rdE n2 d2 n3 d3 n5 d5 = 0 then .agg #[.int .i64 (Iv.up n2 d2 (Iv.D3 d2 d3 d5)), .int .i64 (Iv.up n3 d3 (Iv.D3 d2 d3 d5)), .int .i64 (Iv.up n5 d5 (Iv.D3 d2 d3 d5)), .int .i64 (Iv.D3 d2 d3 d5 : Nat)] else .agg #[.int .i64 0, .int .i64 0, .int .i64 0, .int .i64 0]
theorem up_mul {n d : Int} {D : Nat} (hd : 1 ≤ d) : n * (((D : Nat) : Int).tdiv d) = Iv.up n d D := by
  unfold Iv.up
  congr 1
  have e : (d.natAbs : Int) = d := by omega
  rw [← e, Int.ofNat_tdiv]
  simp
theorem tdiv_le_self' {L d : Int} (h : 0 < L) : -L ≤ L.tdiv d ∧ L.tdiv d ≤ L := by
  have := Int.natAbs_tdiv_le_natAbs L d
  omega
theorem lcm_over {d e : Nat} (hd : 0 < d) : Nat.lcm d e / d ≤ e := by
  unfold Nat.lcm
  have h1 : d * e / Nat.gcd d e ≤ d * e := Nat.div_le_self _ _
  calc d * e / Nat.gcd d e / d ≤ d * e / d := Nat.div_le_div_right h1
    _ = e := Nat.mul_div_cancel_left _ hd
theorem D3_over_a {d e f : Int} (hd : 1 ≤ d ∧ d ≤ 1000000) (he : 1 ≤ e ∧ e ≤ 1000000) (hf : 1 ≤ f ∧ f ≤ 1000000) : Iv.D3 d e f / d.natAbs ≤ 1000000000000 := by
  have h1 : Iv.D3 d e f ≤ d.natAbs * (e.natAbs * f.natAbs) := by
    unfold Iv.D3
    have h2 : Nat.lcm (Nat.lcm d.natAbs e.natAbs) f.natAbs ≤ Nat.lcm d.natAbs e.natAbs * f.natAbs := Nat.div_le_self _ _
    have h3 : Nat.lcm d.natAbs e.natAbs ≤ d.natAbs * e.natAbs := Nat.div_le_self _ _
    have h4 := Nat.mul_le_mul_right f.natAbs h3
    rw [Nat.mul_assoc] at h4
    omega
  have h5 : e.natAbs * f.natAbs ≤ 1000000 * 1000000 := Nat.mul_le_mul (by omega) (by omega)
  have h6 := Nat.div_le_div_right (c := d.natAbs) h1
  rw [Nat.mul_div_cancel_left _ (by omega)] at h6
  omega
theorem D3_over_b {d e f : Int} (hd : 1 ≤ d ∧ d ≤ 1000000) (he : 1 ≤ e ∧ e ≤ 1000000) (hf : 1 ≤ f ∧ f ≤ 1000000) : Iv.D3 d e f / e.natAbs ≤ 1000000000000 := by
  have e1 : Iv.D3 d e f = Iv.D3 e d f := by unfold Iv.D3; rw [Nat.lcm_comm d.natAbs]
  rw [e1]
  exact D3_over_a he hd hf
theorem D3_over_c {d e f : Int} (hd : 1 ≤ d ∧ d ≤ 1000000) (he : 1 ≤ e ∧ e ≤ 1000000) (hf : 1 ≤ f ∧ f ≤ 1000000) : Iv.D3 d e f / f.natAbs ≤ 1000000000000 := by
  have h1 : Iv.D3 d e f ≤ f.natAbs * (d.natAbs * e.natAbs) := by
    unfold Iv.D3
    have h2 : Nat.lcm (Nat.lcm d.natAbs e.natAbs) f.natAbs ≤ Nat.lcm d.natAbs e.natAbs * f.natAbs := Nat.div_le_self _ _
    have h3 : Nat.lcm d.natAbs e.natAbs ≤ d.natAbs * e.natAbs := Nat.div_le_self _ _
    have h4 := Nat.mul_le_mul_right f.natAbs h3
    rw [Nat.mul_comm f.natAbs]
    omega
  have h5 : d.natAbs * e.natAbs ≤ 1000000 * 1000000 := Nat.mul_le_mul (by omega) (by omega)
  have h6 := Nat.div_le_div_right (c := f.natAbs) h1
  rw [Nat.mul_div_cancel_left _ (by omega)] at h6
  omega
theorem up_bd {n d : Int} {D B : Nat} (hn : -1000000 ≤ n ∧ n ≤ 1000000) (h : D / d.natAbs ≤ B) : -(1000000 * (B : Int)) ≤ Iv.up n d D ∧ Iv.up n d D ≤ 1000000 * (B : Int) := by
  unfold Iv.up
  generalize D / d.natAbs = k at *
  have h1 : (n * (k : Int)).natAbs ≤ 1000000 * B := by
    rw [Int.natAbs_mul, Int.natAbs_natCast]
    exact Nat.mul_le_mul (by omega) h
  omega

set_option maxRecDepth 10000 in
set_option maxHeartbeats 8000000 in
theorem ivparts_any (n2 d2 n3 d3 n5 d5 : Int) (w : World) :
    Calls Tryz.prog 39 #[.agg #[.int .i64 n2, .int .i64 d2, .int .i64 n3, .int .i64 d3, .int .i64 n5, .int .i64 d5]] w fun e w' => e = .returned (.tuple #[rdV n2 d2 n3 d3 n5 d5, .int .i64 (Iv.rdE n2 d2 n3 d3 n5 d5)]) ∧ Below w.heap.size w w' := by
  obtain ⟨RV, hRV⟩ : ∃ V, rdV n2 d2 n3 d3 n5 d5 = V := ⟨_, rfl⟩
  obtain ⟨RE, hRE⟩ : ∃ E, Iv.rdE n2 d2 n3 d3 n5 d5 = E := ⟨_, rfl⟩
  rw [hRV, hRE]
  have HBAD := Lib.hid (fun h : (FracMath.rightB n2 d2 && FracMath.rightB n3 d3 && FracMath.rightB n5 d5) = false => show RV = .agg #[.int .i64 0, .int .i64 0, .int .i64 0, .int .i64 0] ∧ RE = 2 from by
    have e : Iv.rdE n2 d2 n3 d3 n5 d5 = 2 := by unfold Iv.rdE; rw [h, if_neg (by decide)]
    rw [← hRV, ← hRE]
    unfold rdV
    rw [e]
    exact ⟨if_neg (by decide), rfl⟩)
  have HGOOD := Lib.hid (fun (h : (FracMath.rightB n2 d2 && FracMath.rightB n3 d3 && FracMath.rightB n5 d5) = true) => show (Iv.inB (Iv.up n2 d2 (Iv.D3 d2 d3 d5)) (Iv.up n3 d3 (Iv.D3 d2 d3 d5)) (Iv.up n5 d5 (Iv.D3 d2 d3 d5)) (Iv.D3 d2 d3 d5) = true → RV = .agg #[.int .i64 (Iv.up n2 d2 (Iv.D3 d2 d3 d5)), .int .i64 (Iv.up n3 d3 (Iv.D3 d2 d3 d5)), .int .i64 (Iv.up n5 d5 (Iv.D3 d2 d3 d5)), .int .i64 (Iv.D3 d2 d3 d5 : Nat)] ∧ RE = 0) ∧ (Iv.inB (Iv.up n2 d2 (Iv.D3 d2 d3 d5)) (Iv.up n3 d3 (Iv.D3 d2 d3 d5)) (Iv.up n5 d5 (Iv.D3 d2 d3 d5)) (Iv.D3 d2 d3 d5) = false → RV = .agg #[.int .i64 0, .int .i64 0, .int .i64 0, .int .i64 0] ∧ RE = 4) from by
    rw [← hRV, ← hRE]
    constructor
    · intro hi
      have e : Iv.rdE n2 d2 n3 d3 n5 d5 = 0 := by unfold Iv.rdE; rw [h, if_pos rfl, hi, if_pos rfl]
      unfold rdV
      rw [e]
      exact ⟨if_pos rfl, rfl⟩
    · intro hi
      have e : Iv.rdE n2 d2 n3 d3 n5 d5 = 4 := by unfold Iv.rdE; rw [h, if_pos rfl, hi, if_neg (by decide)]
      unfold rdV
      rw [e]
      exact ⟨if_neg (by decide), rfl⟩)
  clear hRV hRE
  have K0 := Lib.hid (fun W => check_any n2 d2 W)
  have K1 := Lib.hid (fun W => check_any n3 d3 W)
  have K2 := Lib.hid (fun W => check_any n5 d5 W)
  have M0 := Lib.hid (fun (h : FracMath.rightB n2 d2 = true) W => show Calls Tryz.prog 64 #[.int .i64 1, .int .i64 d2] W fun x w' => x = .returned (.int .i64 d2) ∧ ∃ n, w' = W.drewN n from by
    obtain ⟨_, _, h3, h4, _⟩ := FracMath.right_of h
    have m := ivmultiple_any 1 d2.natAbs W (by omega) (by omega) (by omega) (by omega) (by omega)
    rw [Nat.lcm_one_left, show ((d2.natAbs : Nat) : Int) = d2 by omega] at m
    exact m)
  have M1 := Lib.hid (fun (h : FracMath.rightB n2 d2 = true) (h' : FracMath.rightB n3 d3 = true) W => show Calls Tryz.prog 64 #[.int .i64 d2, .int .i64 d3] W fun x w' => x = .returned (.int .i64 (Nat.lcm d2.natAbs d3.natAbs : Nat)) ∧ ∃ n, w' = W.drewN n from by
    obtain ⟨_, _, h3, h4, _⟩ := FracMath.right_of h
    obtain ⟨_, _, h3', h4', _⟩ := FracMath.right_of h'
    have hp : d2.natAbs * d3.natAbs ≤ 1000000 * 1000000 := Nat.mul_le_mul (by omega) (by omega)
    have m := ivmultiple_any d2.natAbs d3.natAbs W (by omega) (by omega) (by omega) (by omega) (by omega)
    rw [show ((d2.natAbs : Nat) : Int) = d2 by omega, show ((d3.natAbs : Nat) : Int) = d3 by omega] at m
    exact m)
  have M2 := Lib.hid (fun (h : FracMath.rightB n2 d2 = true) (h' : FracMath.rightB n3 d3 = true) (h'' : FracMath.rightB n5 d5 = true) W => show Calls Tryz.prog 64 #[.int .i64 (Nat.lcm d2.natAbs d3.natAbs : Nat), .int .i64 d5] W fun x w' => x = .returned (.int .i64 (Iv.D3 d2 d3 d5 : Nat)) ∧ ∃ n, w' = W.drewN n from by
    obtain ⟨_, _, h3, h4, _⟩ := FracMath.right_of h
    obtain ⟨_, _, h3', h4', _⟩ := FracMath.right_of h'
    obtain ⟨_, _, h3'', h4'', _⟩ := FracMath.right_of h''
    have hp : d2.natAbs * d3.natAbs ≤ 1000000 * 1000000 := Nat.mul_le_mul (by omega) (by omega)
    have hl : Nat.lcm d2.natAbs d3.natAbs ≤ d2.natAbs * d3.natAbs := Nat.div_le_self _ _
    have hq : Nat.lcm d2.natAbs d3.natAbs * d5.natAbs ≤ (1000000 * 1000000) * 1000000 := Nat.mul_le_mul (by omega) (by omega)
    have hp0 : 0 < Nat.lcm d2.natAbs d3.natAbs := Nat.lcm_pos (by omega) (by omega)
    have m := ivmultiple_any (Nat.lcm d2.natAbs d3.natAbs) d5.natAbs W hp0 (by omega) (by omega) (by omega) (by omega)
    rw [show ((d5.natAbs : Nat) : Int) = d5 by omega] at m
    exact m)
  have X0 := fun W => ix_frac0 n2 d2 n3 d3 n5 d5 W
  have X1 := fun W => ix_frac1 n2 d2 n3 d3 n5 d5 W
  have X2 := fun W => ix_frac2 n2 d2 n3 d3 n5 d5 W
  obtain ⟨D, hD⟩ : ∃ D, w.heap.size = D := ⟨_, rfl⟩
  go_enter Tryz.func39, Tryz.ntmps39
  go_wp2_with fail
  obtain ⟨V, hV⟩ : ∃ V, ((((w.alloc (.cells #[.int .i64 n2, .int .i64 d2, .int .i64 n3, .int .i64 d3, .int .i64 n5, .int .i64 d5] 25)).alloc (.cells #[.int .i64 0, .int .i64 0, .int .i64 0, .int .i64 0] 73)).alloc (.cells #[.int .i64 n2, .int .i64 d2, .int .i64 n3, .int .i64 d3, .int .i64 n5, .int .i64 d5] 56)).alloc (.cells #[.int .i64 0, .int .i64 0, .int .i64 0, .int .i64 1] 73)) = V := ⟨_, rfl⟩
  have hwV : Below D w V := by rw [← hV]; exact ((((Below.refl _ w).alloc (by omega) _).alloc (by simp; omega) _).alloc (by simp; omega) _).alloc (by simp; omega) _
  have h1V : V.heap[D + 1]? = some (.cells #[.int .i64 0, .int .i64 0, .int .i64 0, .int .i64 0] 73) := by rw [← hV]; exact heap_old (heap_old (heap_new (by simp [hD])))
  have h2V : V.heap[D + 1 + 1]? = some (.cells #[.int .i64 n2, .int .i64 d2, .int .i64 n3, .int .i64 d3, .int .i64 n5, .int .i64 d5] 56) := by rw [← hV]; exact heap_old (heap_new (by simp [hD]))
  have h3V : V.heap[D + 1 + 1 + 1]? = some (.cells #[.int .i64 0, .int .i64 0, .int .i64 0, .int .i64 1] 73) := by rw [← hV]; exact heap_new (by simp [hD])
  rw [hV]
  clear hV
  go_loopw [20] (fun i wr => ((i = .int .i64 0 ∧ wr.heap[D + 1 + 1 + 1]? = some (.cells #[.int .i64 0, .int .i64 0, .int .i64 0, .int .i64 1] 73)) ∨ (i = .int .i64 1 ∧ wr.heap[D + 1 + 1 + 1]? = some (.cells #[.int .i64 0, .int .i64 0, .int .i64 0, .int .i64 d2] 73) ∧ FracMath.rightB n2 d2 = true) ∨ (i = .int .i64 2 ∧ wr.heap[D + 1 + 1 + 1]? = some (.cells #[.int .i64 0, .int .i64 0, .int .i64 0, .int .i64 (Nat.lcm d2.natAbs d3.natAbs : Nat)] 73) ∧ FracMath.rightB n2 d2 = true ∧ FracMath.rightB n3 d3 = true) ∨ (i = .int .i64 3 ∧ wr.heap[D + 1 + 1 + 1]? = some (.cells #[.int .i64 0, .int .i64 0, .int .i64 0, .int .i64 (Iv.D3 d2 d3 d5 : Nat)] 73) ∧ FracMath.rightB n2 d2 = true ∧ FracMath.rightB n3 d3 = true ∧ FracMath.rightB n5 d5 = true)) ∧ Below D w wr ∧ wr.heap[D + 1]? = some (.cells #[.int .i64 0, .int .i64 0, .int .i64 0, .int .i64 0] 73) ∧ wr.heap[D + 1 + 1]? = some (.cells #[.int .i64 n2, .int .i64 d2, .int .i64 n3, .int .i64 d3, .int .i64 n5, .int .i64 d5] 56)) (fun i _ => 3 - (intOf i).toNat)
  case atStart => exact ⟨.inl ⟨rfl, h3V⟩, hwV, h1V, h2V⟩
  case round =>
    obtain ⟨hk, hw, h1, h2⟩ := hrel
    clear hwV h1V h2V h3V
    rcases hk with ⟨rfl, h3⟩ | ⟨rfl, h3, r2⟩ | ⟨rfl, h3, r2, r3⟩ | ⟨rfl, h3, r2, r3, r5⟩
    · have KK := K0.out
      cases c0 : FracMath.rightB n2 d2 with
      | false =>
        obtain ⟨e1, e2⟩ := HBAD.out (by rw [c0]; rfl)
        subst e1
        subst e2
        rw [chk_no c0] at KK
        have KH := Lib.hid KK
        clear KK c0
        obtain ⟨E, hE⟩ : ∃ E, wr.heap.size = E := ⟨_, rfl⟩
        have hEP : D + 1 + 1 + 1 < E := by rw [← hE]; exact (Array.getElem?_eq_some_iff.1 h3).1
        have hwE : Below D w (wr.alloc (.cells #[.int .i64 n2, .int .i64 d2] 23)) := hw.alloc (by have := hw.size; omega) _

        go_wp2_with fail
        refine (KH.out _).mono ?_
        rintro e w5 ⟨rfl, hb5⟩
        have g1 := (hb5.block (D + 1) (by simp [hE]; omega)).trans (heap_old h1)
        have HB := hwE.trans (hb5.mono (by simp; omega))
        have e0 := cell4_0 g1
        have f0 := free4_0 g1
        have e1 := cell4_1 g1
        have f1 := free4_1 g1
        have e2 := cell4_2 g1
        have f2 := free4_2 g1
        have e3 := cell4_3 g1
        have f3 := free4_3 g1
        have HW := Lib.hid ((((HB.setCell (p := ⟨D + 1, 0, none⟩) (by simp) (.int .i64 0)).setCell (p := ⟨D + 1, 1, none⟩) (by simp) (.int .i64 0)).setCell (p := ⟨D + 1, 2, none⟩) (by simp) (.int .i64 0)).setCell (p := ⟨D + 1, 3, none⟩) (by simp) (.int .i64 0))
        have hE4 := set4_3 (x := .int .i64 0) (set4_2 (x := .int .i64 0) (set4_1 (x := .int .i64 0) (set4_0 (x := .int .i64 0) g1)))
        have y0 := cell4_0 hE4
        have y1 := cell4_1 hE4
        have y2 := cell4_2 hE4
        have y3 := cell4_3 hE4
        clear g1 h1 h2 h3 hw hwE hb5 HB hE4 hE hEP
        go_wp2
        refine bodyPost_ret (v := .tuple #[.agg #[.int .i64 0, .int .i64 0, .int .i64 0, .int .i64 0], .int .i64 2]) (by simp [results, Tryz.results39, go_sem, y0, y1, y2, y3]) rfl ⟨rfl, by rw [hD]; exact HW.out⟩
      | true =>
        have r2 : FracMath.rightB n2 d2 = true := c0
        rw [chk_yes c0] at KK
        have KH := Lib.hid KK
        have MM := Lib.hid (fun W => M0.out r2 W)
        clear KK c0
        obtain ⟨E, hE⟩ : ∃ E, wr.heap.size = E := ⟨_, rfl⟩
        have hEP : D + 1 + 1 + 1 < E := by rw [← hE]; exact (Array.getElem?_eq_some_iff.1 h3).1
        have hwE : Below D w (wr.alloc (.cells #[.int .i64 n2, .int .i64 d2] 23)) := hw.alloc (by have := hw.size; omega) _

        go_wp2_with fail
        refine (KH.out _).mono ?_
        rintro e w5 ⟨rfl, hb5⟩
        have g1 := (hb5.block (D + 1) (by simp [hE]; omega)).trans (heap_old h1)
        have g2 := (hb5.block (D + 1 + 1) (by simp [hE]; omega)).trans (heap_old h2)
        have g3 := (hb5.block (D + 1 + 1 + 1) (by simp [hE]; omega)).trans (heap_old h3)
        have gE := (hb5.block E (by simp [hE])).trans (heap_new hE.symm)
        have HB := hwE.trans (hb5.mono (by simp; omega))
        have e3 := cell4_3 g3
        have f3 := free4_3 g3
        have x1 := cell2_1 gE
        clear h1 h2 h3 hw hwE hb5 gE
        go_wp2_with fail
        refine (MM.out _).mono ?_
        rintro e w6 ⟨rfl, k, rfl⟩
        have H3 := Lib.hid (set4_3 (W := w5.drewN k) (x := .int .i64 d2) g3)
        have H1 := Lib.hid ((set_other (W := w5.drewN k) (b := D + 1 + 1 + 1) (o := 3) (x := .int .i64 d2) (show D + 1 ≠ D + 1 + 1 + 1 by omega)).trans g1)
        have H2 := Lib.hid ((set_other (W := w5.drewN k) (b := D + 1 + 1 + 1) (o := 3) (x := .int .i64 d2) (show D + 1 + 1 ≠ D + 1 + 1 + 1 by omega)).trans g2)
        have HW := Lib.hid ((HB.trans ((drew_below' w5 k).mono (by have := HB.size; omega))).setCell (p := ⟨D + 1 + 1 + 1, 3, none⟩) (by simp; omega) (.int .i64 d2))
        clear g1 g2 g3 HB
        go_wp2
        exact ⟨⟨.inr (.inl ⟨rfl, H3.out, (by first | assumption | trivial)⟩), HW.out, H1.out, H2.out⟩, by decide⟩
    · have KK := K1.out
      cases c0 : FracMath.rightB n3 d3 with
      | false =>
        obtain ⟨e1, e2⟩ := HBAD.out (by rw [r2, c0]; rfl)
        subst e1
        subst e2
        rw [chk_no c0] at KK
        have KH := Lib.hid KK
        clear KK c0
        obtain ⟨E, hE⟩ : ∃ E, wr.heap.size = E := ⟨_, rfl⟩
        have hEP : D + 1 + 1 + 1 < E := by rw [← hE]; exact (Array.getElem?_eq_some_iff.1 h3).1
        have hwE : Below D w (wr.alloc (.cells #[.int .i64 n3, .int .i64 d3] 23)) := hw.alloc (by have := hw.size; omega) _

        go_wp2_with fail
        refine (KH.out _).mono ?_
        rintro e w5 ⟨rfl, hb5⟩
        have g1 := (hb5.block (D + 1) (by simp [hE]; omega)).trans (heap_old h1)
        have HB := hwE.trans (hb5.mono (by simp; omega))
        have e0 := cell4_0 g1
        have f0 := free4_0 g1
        have e1 := cell4_1 g1
        have f1 := free4_1 g1
        have e2 := cell4_2 g1
        have f2 := free4_2 g1
        have e3 := cell4_3 g1
        have f3 := free4_3 g1
        have HW := Lib.hid ((((HB.setCell (p := ⟨D + 1, 0, none⟩) (by simp) (.int .i64 0)).setCell (p := ⟨D + 1, 1, none⟩) (by simp) (.int .i64 0)).setCell (p := ⟨D + 1, 2, none⟩) (by simp) (.int .i64 0)).setCell (p := ⟨D + 1, 3, none⟩) (by simp) (.int .i64 0))
        have hE4 := set4_3 (x := .int .i64 0) (set4_2 (x := .int .i64 0) (set4_1 (x := .int .i64 0) (set4_0 (x := .int .i64 0) g1)))
        have y0 := cell4_0 hE4
        have y1 := cell4_1 hE4
        have y2 := cell4_2 hE4
        have y3 := cell4_3 hE4
        clear g1 h1 h2 h3 hw hwE hb5 HB hE4 hE hEP
        go_wp2
        refine bodyPost_ret (v := .tuple #[.agg #[.int .i64 0, .int .i64 0, .int .i64 0, .int .i64 0], .int .i64 2]) (by simp [results, Tryz.results39, go_sem, y0, y1, y2, y3]) rfl ⟨rfl, by rw [hD]; exact HW.out⟩
      | true =>
        have r3 : FracMath.rightB n3 d3 = true := c0
        rw [chk_yes c0] at KK
        have KH := Lib.hid KK
        have MM := Lib.hid (fun W => M1.out r2 r3 W)
        clear KK c0
        obtain ⟨E, hE⟩ : ∃ E, wr.heap.size = E := ⟨_, rfl⟩
        have hEP : D + 1 + 1 + 1 < E := by rw [← hE]; exact (Array.getElem?_eq_some_iff.1 h3).1
        have hwE : Below D w (wr.alloc (.cells #[.int .i64 n3, .int .i64 d3] 23)) := hw.alloc (by have := hw.size; omega) _

        go_wp2_with fail
        refine (KH.out _).mono ?_
        rintro e w5 ⟨rfl, hb5⟩
        have g1 := (hb5.block (D + 1) (by simp [hE]; omega)).trans (heap_old h1)
        have g2 := (hb5.block (D + 1 + 1) (by simp [hE]; omega)).trans (heap_old h2)
        have g3 := (hb5.block (D + 1 + 1 + 1) (by simp [hE]; omega)).trans (heap_old h3)
        have gE := (hb5.block E (by simp [hE])).trans (heap_new hE.symm)
        have HB := hwE.trans (hb5.mono (by simp; omega))
        have e3 := cell4_3 g3
        have f3 := free4_3 g3
        have x1 := cell2_1 gE
        clear h1 h2 h3 hw hwE hb5 gE
        go_wp2_with fail
        refine (MM.out _).mono ?_
        rintro e w6 ⟨rfl, k, rfl⟩
        have H3 := Lib.hid (set4_3 (W := w5.drewN k) (x := .int .i64 (Nat.lcm d2.natAbs d3.natAbs : Nat)) g3)
        have H1 := Lib.hid ((set_other (W := w5.drewN k) (b := D + 1 + 1 + 1) (o := 3) (x := .int .i64 (Nat.lcm d2.natAbs d3.natAbs : Nat)) (show D + 1 ≠ D + 1 + 1 + 1 by omega)).trans g1)
        have H2 := Lib.hid ((set_other (W := w5.drewN k) (b := D + 1 + 1 + 1) (o := 3) (x := .int .i64 (Nat.lcm d2.natAbs d3.natAbs : Nat)) (show D + 1 + 1 ≠ D + 1 + 1 + 1 by omega)).trans g2)
        have HW := Lib.hid ((HB.trans ((drew_below' w5 k).mono (by have := HB.size; omega))).setCell (p := ⟨D + 1 + 1 + 1, 3, none⟩) (by simp; omega) (.int .i64 (Nat.lcm d2.natAbs d3.natAbs : Nat)))
        clear g1 g2 g3 HB
        go_wp2
        exact ⟨⟨.inr (.inr (.inl ⟨rfl, H3.out, (by first | assumption | trivial), (by first | assumption | trivial)⟩)), HW.out, H1.out, H2.out⟩, by decide⟩
    · have KK := K2.out
      cases c0 : FracMath.rightB n5 d5 with
      | false =>
        obtain ⟨e1, e2⟩ := HBAD.out (by rw [r2, r3, c0]; rfl)
        subst e1
        subst e2
        rw [chk_no c0] at KK
        have KH := Lib.hid KK
        clear KK c0
        obtain ⟨E, hE⟩ : ∃ E, wr.heap.size = E := ⟨_, rfl⟩
        have hEP : D + 1 + 1 + 1 < E := by rw [← hE]; exact (Array.getElem?_eq_some_iff.1 h3).1
        have hwE : Below D w (wr.alloc (.cells #[.int .i64 n5, .int .i64 d5] 23)) := hw.alloc (by have := hw.size; omega) _

        go_wp2_with fail
        refine (KH.out _).mono ?_
        rintro e w5 ⟨rfl, hb5⟩
        have g1 := (hb5.block (D + 1) (by simp [hE]; omega)).trans (heap_old h1)
        have HB := hwE.trans (hb5.mono (by simp; omega))
        have e0 := cell4_0 g1
        have f0 := free4_0 g1
        have e1 := cell4_1 g1
        have f1 := free4_1 g1
        have e2 := cell4_2 g1
        have f2 := free4_2 g1
        have e3 := cell4_3 g1
        have f3 := free4_3 g1
        have HW := Lib.hid ((((HB.setCell (p := ⟨D + 1, 0, none⟩) (by simp) (.int .i64 0)).setCell (p := ⟨D + 1, 1, none⟩) (by simp) (.int .i64 0)).setCell (p := ⟨D + 1, 2, none⟩) (by simp) (.int .i64 0)).setCell (p := ⟨D + 1, 3, none⟩) (by simp) (.int .i64 0))
        have hE4 := set4_3 (x := .int .i64 0) (set4_2 (x := .int .i64 0) (set4_1 (x := .int .i64 0) (set4_0 (x := .int .i64 0) g1)))
        have y0 := cell4_0 hE4
        have y1 := cell4_1 hE4
        have y2 := cell4_2 hE4
        have y3 := cell4_3 hE4
        clear g1 h1 h2 h3 hw hwE hb5 HB hE4 hE hEP
        go_wp2
        refine bodyPost_ret (v := .tuple #[.agg #[.int .i64 0, .int .i64 0, .int .i64 0, .int .i64 0], .int .i64 2]) (by simp [results, Tryz.results39, go_sem, y0, y1, y2, y3]) rfl ⟨rfl, by rw [hD]; exact HW.out⟩
      | true =>
        have r5 : FracMath.rightB n5 d5 = true := c0
        rw [chk_yes c0] at KK
        have KH := Lib.hid KK
        have MM := Lib.hid (fun W => M2.out r2 r3 r5 W)
        clear KK c0
        obtain ⟨E, hE⟩ : ∃ E, wr.heap.size = E := ⟨_, rfl⟩
        have hEP : D + 1 + 1 + 1 < E := by rw [← hE]; exact (Array.getElem?_eq_some_iff.1 h3).1
        have hwE : Below D w (wr.alloc (.cells #[.int .i64 n5, .int .i64 d5] 23)) := hw.alloc (by have := hw.size; omega) _

        go_wp2_with fail
        refine (KH.out _).mono ?_
        rintro e w5 ⟨rfl, hb5⟩
        have g1 := (hb5.block (D + 1) (by simp [hE]; omega)).trans (heap_old h1)
        have g2 := (hb5.block (D + 1 + 1) (by simp [hE]; omega)).trans (heap_old h2)
        have g3 := (hb5.block (D + 1 + 1 + 1) (by simp [hE]; omega)).trans (heap_old h3)
        have gE := (hb5.block E (by simp [hE])).trans (heap_new hE.symm)
        have HB := hwE.trans (hb5.mono (by simp; omega))
        have e3 := cell4_3 g3
        have f3 := free4_3 g3
        have x1 := cell2_1 gE
        clear h1 h2 h3 hw hwE hb5 gE
        go_wp2_with fail
        refine (MM.out _).mono ?_
        rintro e w6 ⟨rfl, k, rfl⟩
        have H3 := Lib.hid (set4_3 (W := w5.drewN k) (x := .int .i64 (Iv.D3 d2 d3 d5 : Nat)) g3)
        have H1 := Lib.hid ((set_other (W := w5.drewN k) (b := D + 1 + 1 + 1) (o := 3) (x := .int .i64 (Iv.D3 d2 d3 d5 : Nat)) (show D + 1 ≠ D + 1 + 1 + 1 by omega)).trans g1)
        have H2 := Lib.hid ((set_other (W := w5.drewN k) (b := D + 1 + 1 + 1) (o := 3) (x := .int .i64 (Iv.D3 d2 d3 d5 : Nat)) (show D + 1 + 1 ≠ D + 1 + 1 + 1 by omega)).trans g2)
        have HW := Lib.hid ((HB.trans ((drew_below' w5 k).mono (by have := HB.size; omega))).setCell (p := ⟨D + 1 + 1 + 1, 3, none⟩) (by simp; omega) (.int .i64 (Iv.D3 d2 d3 d5 : Nat)))
        clear g1 g2 g3 HB
        go_wp2
        exact ⟨⟨.inr (.inr (.inr ⟨rfl, H3.out, (by first | assumption | trivial), (by first | assumption | trivial), (by first | assumption | trivial)⟩)), HW.out, H1.out, H2.out⟩, by decide⟩
    · have hall : (FracMath.rightB n2 d2 && FracMath.rightB n3 d3 && FracMath.rightB n5 d5) = true := by rw [r2, r3, r5]; rfl
      obtain ⟨G1, G2⟩ := HGOOD.out hall
      obtain ⟨b21, b22, b23, b24, _⟩ := FracMath.right_of r2
      obtain ⟨b31, b32, b33, b34, _⟩ := FracMath.right_of r3
      obtain ⟨b51, b52, b53, b54, _⟩ := FracMath.right_of r5
      have hL0 := Iv.D3_pos (d := d2) (e := d3) (f := d5) (by omega) (by omega) (by omega)
      have hp : d2.natAbs * d3.natAbs ≤ 1000000 * 1000000 := Nat.mul_le_mul (by omega) (by omega)
      have hl : Nat.lcm d2.natAbs d3.natAbs ≤ d2.natAbs * d3.natAbs := Nat.div_le_self _ _
      have hq : Nat.lcm d2.natAbs d3.natAbs * d5.natAbs ≤ (1000000 * 1000000) * 1000000 := Nat.mul_le_mul (by omega) (by omega)
      have hL3 : Iv.D3 d2 d3 d5 ≤ Nat.lcm d2.natAbs d3.natAbs * d5.natAbs := Nat.div_le_self _ _
      have hk2 : Iv.D3 d2 d3 d5 / d2.natAbs ≤ 1000000000000 := D3_over_a (by omega) (by omega) (by omega)
      have hk3 : Iv.D3 d2 d3 d5 / d3.natAbs ≤ 1000000000000 := D3_over_b (by omega) (by omega) (by omega)
      have hk5 : Iv.D3 d2 d3 d5 / d5.natAbs ≤ 1000000000000 := D3_over_c (by omega) (by omega) (by omega)
      have bu2 := up_bd (n := n2) (d := d2) ⟨b21, b22⟩ hk2
      have bu3 := up_bd (n := n3) (d := d3) ⟨b31, b32⟩ hk3
      have bu5 := up_bd (n := n5) (d := d5) ⟨b51, b52⟩ hk5
      have m2 := up_mul (n := n2) (D := Iv.D3 d2 d3 d5) b23
      have m3 := up_mul (n := n3) (D := Iv.D3 d2 d3 d5) b33
      have m5 := up_mul (n := n5) (D := Iv.D3 d2 d3 d5) b53
      have hLi : ((Iv.D3 d2 d3 d5 : Nat) : Int) ≤ 1000000000000000000 := by omega
      have hLp : 0 < ((Iv.D3 d2 d3 d5 : Nat) : Int) := by omega
      have RI := Lib.hid (fun W => ivright_any (Iv.up n2 d2 (Iv.D3 d2 d3 d5)) (Iv.up n3 d3 (Iv.D3 d2 d3 d5)) (Iv.up n5 d5 (Iv.D3 d2 d3 d5)) (Iv.D3 d2 d3 d5 : Nat) W)
      generalize Iv.up n2 d2 (Iv.D3 d2 d3 d5) = u2 at *
      generalize Iv.up n3 d3 (Iv.D3 d2 d3 d5) = u3 at *
      generalize Iv.up n5 d5 (Iv.D3 d2 d3 d5) = u5 at *
      generalize ((Iv.D3 d2 d3 d5 : Nat) : Int) = L at *
      clear hp hl hq hL3 hk2 hk3 hk5 hL0 HGOOD HBAD M0 M1 M2 K0 K1 K2 hall r2 r3 r5
      obtain ⟨q2, hq2⟩ : ∃ q, L.tdiv d2 = q := ⟨_, rfl⟩
      obtain ⟨q3, hq3⟩ : ∃ q, L.tdiv d3 = q := ⟨_, rfl⟩
      obtain ⟨q5, hq5⟩ : ∃ q, L.tdiv d5 = q := ⟨_, rfl⟩
      rw [hq2] at m2
      rw [hq3] at m3
      rw [hq5] at m5
      have bq2 := tdiv_le_self' (d := d2) hLp
      have bq3 := tdiv_le_self' (d := d3) hLp
      have bq5 := tdiv_le_self' (d := d5) hLp
      rw [hq2] at bq2
      rw [hq3] at bq3
      rw [hq5] at bq5
      have q2a : -9223372036854775808 ≤ q2 := by omega
      have q2b : q2 ≤ 9223372036854775807 := by omega
      have q3a : -9223372036854775808 ≤ q3 := by omega
      have q3b : q3 ≤ 9223372036854775807 := by omega
      have q5a : -9223372036854775808 ≤ q5 := by omega
      have q5b : q5 ≤ 9223372036854775807 := by omega
      have u2a : -9223372036854775808 ≤ u2 := by omega
      have u2b : u2 ≤ 9223372036854775807 := by omega
      have u3a : -9223372036854775808 ≤ u3 := by omega
      have u3b : u3 ≤ 9223372036854775807 := by omega
      have u5a : -9223372036854775808 ≤ u5 := by omega
      have u5b : u5 ≤ 9223372036854775807 := by omega
      have wq2 : IntKind.i64.wrap q2 = q2 := wrap_in q2a q2b
      have wq3 : IntKind.i64.wrap q3 = q3 := wrap_in q3a q3b
      have wq5 : IntKind.i64.wrap q5 = q5 := wrap_in q5a q5b
      have wu2 : IntKind.i64.wrap u2 = u2 := wrap_in u2a u2b
      have wu3 : IntKind.i64.wrap u3 = u3 := wrap_in u3a u3b
      have wu5 : IntKind.i64.wrap u5 = u5 := wrap_in u5a u5b
      clear bq2 bq3 bq5 bu2 bu3 bu5
      have hz2 : ¬ d2 = 0 := by omega
      have hz3 : ¬ d3 = 0 := by omega
      have hz5 : ¬ d5 = 0 := by omega
      have hy2 : ¬ d2 = -1 := by omega
      have hy3 : ¬ d3 = -1 := by omega
      have hy5 : ¬ d5 = -1 := by omega
      obtain ⟨G, HG⟩ : ∃ G : Prop, G = ((Iv.inB u2 u3 u5 L = true → RV = .agg #[.int .i64 u2, .int .i64 u3, .int .i64 u5, .int .i64 L] ∧ RE = 0) ∧ (Iv.inB u2 u3 u5 L = false → RV = .agg #[.int .i64 0, .int .i64 0, .int .i64 0, .int .i64 0] ∧ RE = 4)) := ⟨_, rfl⟩
      have HGG := Lib.hid (show G by rw [HG]; exact ⟨G1, G2⟩)
      clear G1 G2
      have e0 := cell6_0 h2
      have e1 := cell6_1 h2
      have e2 := cell6_2 h2
      have e3 := cell6_3 h2
      have e4 := cell6_4 h2
      have e5 := cell6_5 h2
      have H1 := h1
      have H3 := h3
      clear h1 h3 h2
      go_wp2_with fail
      clear e0 e1 e2 e3 e4 e5
      go_loopw [37] (fun i wr => ((i = .int .i64 0 ∧ wr.heap[D + 1 + 1 + 1]? = some (.cells #[.int .i64 0, .int .i64 0, .int .i64 0, .int .i64 L] 73)) ∨ (i = .int .i64 1 ∧ wr.heap[D + 1 + 1 + 1]? = some (.cells #[.int .i64 u2, .int .i64 0, .int .i64 0, .int .i64 L] 73)) ∨ (i = .int .i64 2 ∧ wr.heap[D + 1 + 1 + 1]? = some (.cells #[.int .i64 u2, .int .i64 u3, .int .i64 0, .int .i64 L] 73)) ∨ (i = .int .i64 3 ∧ wr.heap[D + 1 + 1 + 1]? = some (.cells #[.int .i64 u2, .int .i64 u3, .int .i64 u5, .int .i64 L] 73))) ∧ Below D w wr ∧ wr.heap[D + 1]? = some (.cells #[.int .i64 0, .int .i64 0, .int .i64 0, .int .i64 0] 73)) (fun i _ => 3 - (intOf i).toNat)
      case atStart => exact ⟨.inl ⟨rfl, H3⟩, hw, H1⟩
      case round =>
        clear hw H1 H3
        obtain ⟨hk, hw, h1⟩ := hrel
        rcases hk with ⟨rfl, h3⟩ | ⟨rfl, h3⟩ | ⟨rfl, h3⟩ | ⟨rfl, h3⟩
        · obtain ⟨E, hE⟩ : ∃ E, wr.heap.size = E := ⟨_, rfl⟩
          have hEP : D + 1 + 1 + 1 < E := by rw [← hE]; exact (Array.getElem?_eq_some_iff.1 h3).1
          have hDw := hw.size
          go_wp2_with fail
          obtain ⟨W0, hW0⟩ : ∃ W0, (wr.alloc (.cells #[.int .i64 n2, .int .i64 d2] 23)) = W0 := ⟨_, rfl⟩
          have hz0 : W0.heap.size = E + 1 := by rw [← hW0]; simp [hE]
          have HW := Lib.hid (show Below D w W0 by rw [← hW0]; exact hw.alloc (by omega) _)
          have HP := Lib.hid (show W0.heap[D + 1 + 1 + 1]? = some (.cells #[.int .i64 0, .int .i64 0, .int .i64 0, .int .i64 L] 73) by rw [← hW0]; exact heap_old h3)
          have HZ := Lib.hid (show W0.heap[D + 1]? = some (.cells #[.int .i64 0, .int .i64 0, .int .i64 0, .int .i64 0] 73) by rw [← hW0]; exact heap_old h1)
          have hX := (show W0.heap[E]? = some (.cells #[.int .i64 n2, .int .i64 d2] 23) by rw [← hW0]; exact heap_new hE.symm)
          have KX0 := Lib.hid (cell2_0 hX)
          have KX1 := Lib.hid (cell2_1 hX)
          have KP3 := Lib.hid (cell4_3 HP.out)
          rw [hW0]
          clear hW0 hX h1 h3 hw
          refine wp_region_slots_at rfl rfl (fun base ys => ((((((((((base.set 41 (ys 0)).set 42 (ys 1)).set 43 (ys 2)).set 44 (ys 3)).set 45 (ys 4)).set 46 (ys 5)).set 47 (ys 6)).set 48 (ys 7)).set 49 (ys 8)).set 50 (ys 9)).set 51 (ys 10)) (LastI _ (Below W0.heap.size W0) (ptI E (D + 1 + 1 + 1) 0 n2 d2 L q2 u2 0) (fun A => Below D w A ∧ A.heap[D + 1 + 1 + 1]? = some (.cells #[.int .i64 u2, .int .i64 0, .int .i64 0, .int .i64 L] 73) ∧ A.heap[D + 1]? = some (.cells #[.int .i64 0, .int .i64 0, .int .i64 0, .int .i64 0] 73))) (fun | 0 => u41 | 1 => u42 | 2 => u43 | 3 => u44 | 4 => u45 | 5 => u46 | 6 => u47 | 7 => u48 | 8 => u49 | 9 => u50 | 10 => u51 | _ => undef) (by kernel_rfl) (last_start (by decide) ((Below.refl _ _).trans ⟨rfl, rfl, rfl, Nat.le_refl _, fun _ _ => rfl⟩)) ?h
          case h =>
            intro F hF
            simp only [List.set_cons_succ, List.set_cons_zero] at hF
            subst hF
            refine ⟨rfl, ?_, ?_⟩
            refine ⟨?_, ?_⟩
            · refine SlotStep.lastB (by kernel_rfl) rfl (by decide) (fun A B hb h => h.trans (hb.mono h.size)) (ptI_up E (D + 1 + 1 + 1) 0 n2 d2 L q2 u2 0) ?_
              intro ys W hR hd K hK
              go_simp
              have hK2 := hK (.int .i64 0) _ (Below.refl _ _) rfl
              simp (config := { decide := true }) only [upd, if_true, if_false] at hK2
              exact hK2
            refine ⟨?_, ?_⟩
            · refine SlotStep.lastB (by kernel_rfl) rfl (by decide) (fun A B hb h => h.trans (hb.mono h.size)) (ptI_up E (D + 1 + 1 + 1) 0 n2 d2 L q2 u2 0) ?_
              intro ys W hR hd K hK
              go_simp
              have hK2 := hK (.pointer (some ⟨E, 0, none⟩)) _ (Below.refl _ _) rfl
              simp (config := { decide := true }) only [upd, if_true, if_false] at hK2
              exact hK2
            refine ⟨?_, ?_⟩
            · refine SlotStep.lastB (by kernel_rfl) rfl (by decide) (fun A B hb h => h.trans (hb.mono h.size)) (ptI_up E (D + 1 + 1 + 1) 0 n2 d2 L q2 u2 0) ?_
              intro ys W hR hd K hK
              have dd1 : ys 1 = .pointer (some ⟨E, 0, none⟩) := hd 1 (by kernel_rfl) (by decide)
              have c0 := (hR.cell (p := ⟨E, 0, none⟩) (by show E < W0.heap.size; omega)).trans KX0.out
              go_simp
              have hK2 := hK (.int .i64 n2) _ (Below.refl _ _) rfl
              simp (config := { decide := true }) only [upd, if_true, if_false, dd1] at hK2
              exact hK2
            refine ⟨?_, ?_⟩
            · refine SlotStep.lastB (by kernel_rfl) rfl (by decide) (fun A B hb h => h.trans (hb.mono h.size)) (ptI_up E (D + 1 + 1 + 1) 0 n2 d2 L q2 u2 0) ?_
              intro ys W hR hd K hK
              go_simp
              have hK2 := hK (.pointer (some ⟨D + 1 + 1 + 1, 3, none⟩)) _ (Below.refl _ _) rfl
              simp (config := { decide := true }) only [upd, if_true, if_false] at hK2
              exact hK2
            refine ⟨?_, ?_⟩
            · refine SlotStep.lastB (by kernel_rfl) rfl (by decide) (fun A B hb h => h.trans (hb.mono h.size)) (ptI_up E (D + 1 + 1 + 1) 0 n2 d2 L q2 u2 0) ?_
              intro ys W hR hd K hK
              have dd3 : ys 3 = .pointer (some ⟨D + 1 + 1 + 1, 3, none⟩) := hd 3 (by kernel_rfl) (by decide)
              have c0 := (hR.cell (p := ⟨D + 1 + 1 + 1, 3, none⟩) (by show D + 1 + 1 + 1 < W0.heap.size; omega)).trans KP3.out
              go_simp
              have hK2 := hK (.int .i64 L) _ (Below.refl _ _) rfl
              simp (config := { decide := true }) only [upd, if_true, if_false, dd3] at hK2
              exact hK2
            refine ⟨?_, ?_⟩
            · refine SlotStep.lastB (by kernel_rfl) rfl (by decide) (fun A B hb h => h.trans (hb.mono h.size)) (ptI_up E (D + 1 + 1 + 1) 0 n2 d2 L q2 u2 0) ?_
              intro ys W hR hd K hK
              go_simp
              have hK2 := hK (.pointer (some ⟨E, 1, none⟩)) _ (Below.refl _ _) rfl
              simp (config := { decide := true }) only [upd, if_true, if_false] at hK2
              exact hK2
            refine ⟨?_, ?_⟩
            · refine SlotStep.lastB (by kernel_rfl) rfl (by decide) (fun A B hb h => h.trans (hb.mono h.size)) (ptI_up E (D + 1 + 1 + 1) 0 n2 d2 L q2 u2 0) ?_
              intro ys W hR hd K hK
              have dd5 : ys 5 = .pointer (some ⟨E, 1, none⟩) := hd 5 (by kernel_rfl) (by decide)
              have c0 := (hR.cell (p := ⟨E, 1, none⟩) (by show E < W0.heap.size; omega)).trans KX1.out
              go_simp
              have hK2 := hK (.int .i64 d2) _ (Below.refl _ _) rfl
              simp (config := { decide := true }) only [upd, if_true, if_false, dd5] at hK2
              exact hK2
            refine ⟨?_, ?_⟩
            · refine SlotStep.lastB (by kernel_rfl) rfl (by decide) (fun A B hb h => h.trans (hb.mono h.size)) (ptI_up E (D + 1 + 1 + 1) 0 n2 d2 L q2 u2 0) ?_
              intro ys W hR hd K hK
              have dd4 : ys 4 = .int .i64 L := hd 4 (by kernel_rfl) (by decide)
              have dd6 : ys 6 = .int .i64 d2 := hd 6 (by kernel_rfl) (by decide)
              go_simp
              have hK2 := hK (.int .i64 q2) _ (Below.refl _ _) rfl
              simp (config := { decide := true }) only [upd, if_true, if_false, dd4, dd6] at hK2
              exact hK2
            refine ⟨?_, ?_⟩
            · refine SlotStep.lastB (by kernel_rfl) rfl (by decide) (fun A B hb h => h.trans (hb.mono h.size)) (ptI_up E (D + 1 + 1 + 1) 0 n2 d2 L q2 u2 0) ?_
              intro ys W hR hd K hK
              have dd2 : ys 2 = .int .i64 n2 := hd 2 (by kernel_rfl) (by decide)
              have dd7 : ys 7 = .int .i64 q2 := hd 7 (by kernel_rfl) (by decide)
              go_simp
              have hK2 := hK (.int .i64 u2) _ (Below.refl _ _) rfl
              simp (config := { decide := true }) only [upd, if_true, if_false, dd2, dd7] at hK2
              exact hK2
            refine ⟨?_, ?_⟩
            · refine SlotStep.lastB (by kernel_rfl) rfl (by decide) (fun A B hb h => h.trans (hb.mono h.size)) (ptI_up E (D + 1 + 1 + 1) 0 n2 d2 L q2 u2 0) ?_
              intro ys W hR hd K hK
              go_simp
              have hK2 := hK (.pointer (some ⟨D + 1 + 1 + 1, 0, none⟩)) _ (Below.refl _ _) rfl
              simp (config := { decide := true }) only [upd, if_true, if_false] at hK2
              exact hK2
            refine ⟨?_, ?_⟩
            · refine SlotStep.lastB (by kernel_rfl) rfl (by decide) (fun A B hb h => h.trans (hb.mono h.size)) (ptI_up E (D + 1 + 1 + 1) 0 n2 d2 L q2 u2 0) ?_
              intro ys W hR hd K hK
              have dd0 : ys 0 = .int .i64 0 := hd 0 (by kernel_rfl) (by decide)
              have dd9 : ys 9 = .pointer (some ⟨D + 1 + 1 + 1, 0, none⟩) := hd 9 (by kernel_rfl) (by decide)
              go_simp
              have hK2 := hK (.pointer (some ⟨D + 1 + 1 + 1, 0, none⟩)) _ (Below.refl _ _) rfl
              simp (config := { decide := true }) only [upd, if_true, if_false, dd0, dd9] at hK2
              exact hK2
            refine ⟨?_, ?_⟩
            · refine SlotStep.lastS rfl rfl ?_
              intro ys W hR hd K hK
              have dd8 : ys 8 = .int .i64 u2 := hd 8 (by kernel_rfl) (by decide)
              have dd10 : ys 10 = .pointer (some ⟨D + 1 + 1 + 1, 0, none⟩) := hd 10 (by kernel_rfl) (by decide)
              have hh := (hR.block (D + 1 + 1 + 1) (by omega)).trans HP.out
              have f0 := free4_0 hh
              have g0 := cell4_0 hh
              go_simp
              have hK2 := hK undef _ ⟨(HW.out.trans (hR.mono (by omega))).setCell (p := ⟨D + 1 + 1 + 1, 0, none⟩) (by simp; omega) _, set4_0 hh, (set_other (by omega)).trans ((hR.block (D + 1) (by omega)).trans HZ.out)⟩
              simp (config := { decide := true }) only [upd, if_false, dd8, dd10] at hK2
              exact hK2
            trivial
            · intro L ys W hL hI
              have hF := last_end (by decide) hL hI
              obtain ⟨t1, t2, t3⟩ := hF
              go_simp
              go_wp2
              have H3 := Lib.hid t2
              exact ⟨⟨.inr (.inl ⟨rfl, H3.out⟩), t1, t3⟩, by decide⟩
        · obtain ⟨E, hE⟩ : ∃ E, wr.heap.size = E := ⟨_, rfl⟩
          have hEP : D + 1 + 1 + 1 < E := by rw [← hE]; exact (Array.getElem?_eq_some_iff.1 h3).1
          have hDw := hw.size
          go_wp2_with fail
          obtain ⟨W0, hW0⟩ : ∃ W0, (wr.alloc (.cells #[.int .i64 n3, .int .i64 d3] 23)) = W0 := ⟨_, rfl⟩
          have hz0 : W0.heap.size = E + 1 := by rw [← hW0]; simp [hE]
          have HW := Lib.hid (show Below D w W0 by rw [← hW0]; exact hw.alloc (by omega) _)
          have HP := Lib.hid (show W0.heap[D + 1 + 1 + 1]? = some (.cells #[.int .i64 u2, .int .i64 0, .int .i64 0, .int .i64 L] 73) by rw [← hW0]; exact heap_old h3)
          have HZ := Lib.hid (show W0.heap[D + 1]? = some (.cells #[.int .i64 0, .int .i64 0, .int .i64 0, .int .i64 0] 73) by rw [← hW0]; exact heap_old h1)
          have hX := (show W0.heap[E]? = some (.cells #[.int .i64 n3, .int .i64 d3] 23) by rw [← hW0]; exact heap_new hE.symm)
          have KX0 := Lib.hid (cell2_0 hX)
          have KX1 := Lib.hid (cell2_1 hX)
          have KP3 := Lib.hid (cell4_3 HP.out)
          rw [hW0]
          clear hW0 hX h1 h3 hw
          refine wp_region_slots_at rfl rfl (fun base ys => ((((((((((base.set 41 (ys 0)).set 42 (ys 1)).set 43 (ys 2)).set 44 (ys 3)).set 45 (ys 4)).set 46 (ys 5)).set 47 (ys 6)).set 48 (ys 7)).set 49 (ys 8)).set 50 (ys 9)).set 51 (ys 10)) (LastI _ (Below W0.heap.size W0) (ptI E (D + 1 + 1 + 1) 1 n3 d3 L q3 u3 1) (fun A => Below D w A ∧ A.heap[D + 1 + 1 + 1]? = some (.cells #[.int .i64 u2, .int .i64 u3, .int .i64 0, .int .i64 L] 73) ∧ A.heap[D + 1]? = some (.cells #[.int .i64 0, .int .i64 0, .int .i64 0, .int .i64 0] 73))) (fun | 0 => u41 | 1 => u42 | 2 => u43 | 3 => u44 | 4 => u45 | 5 => u46 | 6 => u47 | 7 => u48 | 8 => u49 | 9 => u50 | 10 => u51 | _ => undef) (by kernel_rfl) (last_start (by decide) ((Below.refl _ _).trans ⟨rfl, rfl, rfl, Nat.le_refl _, fun _ _ => rfl⟩)) ?h
          case h =>
            intro F hF
            simp only [List.set_cons_succ, List.set_cons_zero] at hF
            subst hF
            refine ⟨rfl, ?_, ?_⟩
            refine ⟨?_, ?_⟩
            · refine SlotStep.lastB (by kernel_rfl) rfl (by decide) (fun A B hb h => h.trans (hb.mono h.size)) (ptI_up E (D + 1 + 1 + 1) 1 n3 d3 L q3 u3 1) ?_
              intro ys W hR hd K hK
              go_simp
              have hK2 := hK (.int .i64 1) _ (Below.refl _ _) rfl
              simp (config := { decide := true }) only [upd, if_true, if_false] at hK2
              exact hK2
            refine ⟨?_, ?_⟩
            · refine SlotStep.lastB (by kernel_rfl) rfl (by decide) (fun A B hb h => h.trans (hb.mono h.size)) (ptI_up E (D + 1 + 1 + 1) 1 n3 d3 L q3 u3 1) ?_
              intro ys W hR hd K hK
              go_simp
              have hK2 := hK (.pointer (some ⟨E, 0, none⟩)) _ (Below.refl _ _) rfl
              simp (config := { decide := true }) only [upd, if_true, if_false] at hK2
              exact hK2
            refine ⟨?_, ?_⟩
            · refine SlotStep.lastB (by kernel_rfl) rfl (by decide) (fun A B hb h => h.trans (hb.mono h.size)) (ptI_up E (D + 1 + 1 + 1) 1 n3 d3 L q3 u3 1) ?_
              intro ys W hR hd K hK
              have dd1 : ys 1 = .pointer (some ⟨E, 0, none⟩) := hd 1 (by kernel_rfl) (by decide)
              have c0 := (hR.cell (p := ⟨E, 0, none⟩) (by show E < W0.heap.size; omega)).trans KX0.out
              go_simp
              have hK2 := hK (.int .i64 n3) _ (Below.refl _ _) rfl
              simp (config := { decide := true }) only [upd, if_true, if_false, dd1] at hK2
              exact hK2
            refine ⟨?_, ?_⟩
            · refine SlotStep.lastB (by kernel_rfl) rfl (by decide) (fun A B hb h => h.trans (hb.mono h.size)) (ptI_up E (D + 1 + 1 + 1) 1 n3 d3 L q3 u3 1) ?_
              intro ys W hR hd K hK
              go_simp
              have hK2 := hK (.pointer (some ⟨D + 1 + 1 + 1, 3, none⟩)) _ (Below.refl _ _) rfl
              simp (config := { decide := true }) only [upd, if_true, if_false] at hK2
              exact hK2
            refine ⟨?_, ?_⟩
            · refine SlotStep.lastB (by kernel_rfl) rfl (by decide) (fun A B hb h => h.trans (hb.mono h.size)) (ptI_up E (D + 1 + 1 + 1) 1 n3 d3 L q3 u3 1) ?_
              intro ys W hR hd K hK
              have dd3 : ys 3 = .pointer (some ⟨D + 1 + 1 + 1, 3, none⟩) := hd 3 (by kernel_rfl) (by decide)
              have c0 := (hR.cell (p := ⟨D + 1 + 1 + 1, 3, none⟩) (by show D + 1 + 1 + 1 < W0.heap.size; omega)).trans KP3.out
              go_simp
              have hK2 := hK (.int .i64 L) _ (Below.refl _ _) rfl
              simp (config := { decide := true }) only [upd, if_true, if_false, dd3] at hK2
              exact hK2
            refine ⟨?_, ?_⟩
            · refine SlotStep.lastB (by kernel_rfl) rfl (by decide) (fun A B hb h => h.trans (hb.mono h.size)) (ptI_up E (D + 1 + 1 + 1) 1 n3 d3 L q3 u3 1) ?_
              intro ys W hR hd K hK
              go_simp
              have hK2 := hK (.pointer (some ⟨E, 1, none⟩)) _ (Below.refl _ _) rfl
              simp (config := { decide := true }) only [upd, if_true, if_false] at hK2
              exact hK2
            refine ⟨?_, ?_⟩
            · refine SlotStep.lastB (by kernel_rfl) rfl (by decide) (fun A B hb h => h.trans (hb.mono h.size)) (ptI_up E (D + 1 + 1 + 1) 1 n3 d3 L q3 u3 1) ?_
              intro ys W hR hd K hK
              have dd5 : ys 5 = .pointer (some ⟨E, 1, none⟩) := hd 5 (by kernel_rfl) (by decide)
              have c0 := (hR.cell (p := ⟨E, 1, none⟩) (by show E < W0.heap.size; omega)).trans KX1.out
              go_simp
              have hK2 := hK (.int .i64 d3) _ (Below.refl _ _) rfl
              simp (config := { decide := true }) only [upd, if_true, if_false, dd5] at hK2
              exact hK2
            refine ⟨?_, ?_⟩
            · refine SlotStep.lastB (by kernel_rfl) rfl (by decide) (fun A B hb h => h.trans (hb.mono h.size)) (ptI_up E (D + 1 + 1 + 1) 1 n3 d3 L q3 u3 1) ?_
              intro ys W hR hd K hK
              have dd4 : ys 4 = .int .i64 L := hd 4 (by kernel_rfl) (by decide)
              have dd6 : ys 6 = .int .i64 d3 := hd 6 (by kernel_rfl) (by decide)
              go_simp
              have hK2 := hK (.int .i64 q3) _ (Below.refl _ _) rfl
              simp (config := { decide := true }) only [upd, if_true, if_false, dd4, dd6] at hK2
              exact hK2
            refine ⟨?_, ?_⟩
            · refine SlotStep.lastB (by kernel_rfl) rfl (by decide) (fun A B hb h => h.trans (hb.mono h.size)) (ptI_up E (D + 1 + 1 + 1) 1 n3 d3 L q3 u3 1) ?_
              intro ys W hR hd K hK
              have dd2 : ys 2 = .int .i64 n3 := hd 2 (by kernel_rfl) (by decide)
              have dd7 : ys 7 = .int .i64 q3 := hd 7 (by kernel_rfl) (by decide)
              go_simp
              have hK2 := hK (.int .i64 u3) _ (Below.refl _ _) rfl
              simp (config := { decide := true }) only [upd, if_true, if_false, dd2, dd7] at hK2
              exact hK2
            refine ⟨?_, ?_⟩
            · refine SlotStep.lastB (by kernel_rfl) rfl (by decide) (fun A B hb h => h.trans (hb.mono h.size)) (ptI_up E (D + 1 + 1 + 1) 1 n3 d3 L q3 u3 1) ?_
              intro ys W hR hd K hK
              go_simp
              have hK2 := hK (.pointer (some ⟨D + 1 + 1 + 1, 0, none⟩)) _ (Below.refl _ _) rfl
              simp (config := { decide := true }) only [upd, if_true, if_false] at hK2
              exact hK2
            refine ⟨?_, ?_⟩
            · refine SlotStep.lastB (by kernel_rfl) rfl (by decide) (fun A B hb h => h.trans (hb.mono h.size)) (ptI_up E (D + 1 + 1 + 1) 1 n3 d3 L q3 u3 1) ?_
              intro ys W hR hd K hK
              have dd0 : ys 0 = .int .i64 1 := hd 0 (by kernel_rfl) (by decide)
              have dd9 : ys 9 = .pointer (some ⟨D + 1 + 1 + 1, 0, none⟩) := hd 9 (by kernel_rfl) (by decide)
              go_simp
              have hK2 := hK (.pointer (some ⟨D + 1 + 1 + 1, 1, none⟩)) _ (Below.refl _ _) rfl
              simp (config := { decide := true }) only [upd, if_true, if_false, dd0, dd9] at hK2
              exact hK2
            refine ⟨?_, ?_⟩
            · refine SlotStep.lastS rfl rfl ?_
              intro ys W hR hd K hK
              have dd8 : ys 8 = .int .i64 u3 := hd 8 (by kernel_rfl) (by decide)
              have dd10 : ys 10 = .pointer (some ⟨D + 1 + 1 + 1, 1, none⟩) := hd 10 (by kernel_rfl) (by decide)
              have hh := (hR.block (D + 1 + 1 + 1) (by omega)).trans HP.out
              have f0 := free4_1 hh
              have g0 := cell4_1 hh
              go_simp
              have hK2 := hK undef _ ⟨(HW.out.trans (hR.mono (by omega))).setCell (p := ⟨D + 1 + 1 + 1, 1, none⟩) (by simp; omega) _, set4_1 hh, (set_other (by omega)).trans ((hR.block (D + 1) (by omega)).trans HZ.out)⟩
              simp (config := { decide := true }) only [upd, if_false, dd8, dd10] at hK2
              exact hK2
            trivial
            · intro L ys W hL hI
              have hF := last_end (by decide) hL hI
              obtain ⟨t1, t2, t3⟩ := hF
              go_simp
              go_wp2
              have H3 := Lib.hid t2
              exact ⟨⟨.inr (.inr (.inl ⟨rfl, H3.out⟩)), t1, t3⟩, by decide⟩
        · obtain ⟨E, hE⟩ : ∃ E, wr.heap.size = E := ⟨_, rfl⟩
          have hEP : D + 1 + 1 + 1 < E := by rw [← hE]; exact (Array.getElem?_eq_some_iff.1 h3).1
          have hDw := hw.size
          go_wp2_with fail
          obtain ⟨W0, hW0⟩ : ∃ W0, (wr.alloc (.cells #[.int .i64 n5, .int .i64 d5] 23)) = W0 := ⟨_, rfl⟩
          have hz0 : W0.heap.size = E + 1 := by rw [← hW0]; simp [hE]
          have HW := Lib.hid (show Below D w W0 by rw [← hW0]; exact hw.alloc (by omega) _)
          have HP := Lib.hid (show W0.heap[D + 1 + 1 + 1]? = some (.cells #[.int .i64 u2, .int .i64 u3, .int .i64 0, .int .i64 L] 73) by rw [← hW0]; exact heap_old h3)
          have HZ := Lib.hid (show W0.heap[D + 1]? = some (.cells #[.int .i64 0, .int .i64 0, .int .i64 0, .int .i64 0] 73) by rw [← hW0]; exact heap_old h1)
          have hX := (show W0.heap[E]? = some (.cells #[.int .i64 n5, .int .i64 d5] 23) by rw [← hW0]; exact heap_new hE.symm)
          have KX0 := Lib.hid (cell2_0 hX)
          have KX1 := Lib.hid (cell2_1 hX)
          have KP3 := Lib.hid (cell4_3 HP.out)
          rw [hW0]
          clear hW0 hX h1 h3 hw
          refine wp_region_slots_at rfl rfl (fun base ys => ((((((((((base.set 41 (ys 0)).set 42 (ys 1)).set 43 (ys 2)).set 44 (ys 3)).set 45 (ys 4)).set 46 (ys 5)).set 47 (ys 6)).set 48 (ys 7)).set 49 (ys 8)).set 50 (ys 9)).set 51 (ys 10)) (LastI _ (Below W0.heap.size W0) (ptI E (D + 1 + 1 + 1) 2 n5 d5 L q5 u5 2) (fun A => Below D w A ∧ A.heap[D + 1 + 1 + 1]? = some (.cells #[.int .i64 u2, .int .i64 u3, .int .i64 u5, .int .i64 L] 73) ∧ A.heap[D + 1]? = some (.cells #[.int .i64 0, .int .i64 0, .int .i64 0, .int .i64 0] 73))) (fun | 0 => u41 | 1 => u42 | 2 => u43 | 3 => u44 | 4 => u45 | 5 => u46 | 6 => u47 | 7 => u48 | 8 => u49 | 9 => u50 | 10 => u51 | _ => undef) (by kernel_rfl) (last_start (by decide) ((Below.refl _ _).trans ⟨rfl, rfl, rfl, Nat.le_refl _, fun _ _ => rfl⟩)) ?h
          case h =>
            intro F hF
            simp only [List.set_cons_succ, List.set_cons_zero] at hF
            subst hF
            refine ⟨rfl, ?_, ?_⟩
            refine ⟨?_, ?_⟩
            · refine SlotStep.lastB (by kernel_rfl) rfl (by decide) (fun A B hb h => h.trans (hb.mono h.size)) (ptI_up E (D + 1 + 1 + 1) 2 n5 d5 L q5 u5 2) ?_
              intro ys W hR hd K hK
              go_simp
              have hK2 := hK (.int .i64 2) _ (Below.refl _ _) rfl
              simp (config := { decide := true }) only [upd, if_true, if_false] at hK2
              exact hK2
            refine ⟨?_, ?_⟩
            · refine SlotStep.lastB (by kernel_rfl) rfl (by decide) (fun A B hb h => h.trans (hb.mono h.size)) (ptI_up E (D + 1 + 1 + 1) 2 n5 d5 L q5 u5 2) ?_
              intro ys W hR hd K hK
              go_simp
              have hK2 := hK (.pointer (some ⟨E, 0, none⟩)) _ (Below.refl _ _) rfl
              simp (config := { decide := true }) only [upd, if_true, if_false] at hK2
              exact hK2
            refine ⟨?_, ?_⟩
            · refine SlotStep.lastB (by kernel_rfl) rfl (by decide) (fun A B hb h => h.trans (hb.mono h.size)) (ptI_up E (D + 1 + 1 + 1) 2 n5 d5 L q5 u5 2) ?_
              intro ys W hR hd K hK
              have dd1 : ys 1 = .pointer (some ⟨E, 0, none⟩) := hd 1 (by kernel_rfl) (by decide)
              have c0 := (hR.cell (p := ⟨E, 0, none⟩) (by show E < W0.heap.size; omega)).trans KX0.out
              go_simp
              have hK2 := hK (.int .i64 n5) _ (Below.refl _ _) rfl
              simp (config := { decide := true }) only [upd, if_true, if_false, dd1] at hK2
              exact hK2
            refine ⟨?_, ?_⟩
            · refine SlotStep.lastB (by kernel_rfl) rfl (by decide) (fun A B hb h => h.trans (hb.mono h.size)) (ptI_up E (D + 1 + 1 + 1) 2 n5 d5 L q5 u5 2) ?_
              intro ys W hR hd K hK
              go_simp
              have hK2 := hK (.pointer (some ⟨D + 1 + 1 + 1, 3, none⟩)) _ (Below.refl _ _) rfl
              simp (config := { decide := true }) only [upd, if_true, if_false] at hK2
              exact hK2
            refine ⟨?_, ?_⟩
            · refine SlotStep.lastB (by kernel_rfl) rfl (by decide) (fun A B hb h => h.trans (hb.mono h.size)) (ptI_up E (D + 1 + 1 + 1) 2 n5 d5 L q5 u5 2) ?_
              intro ys W hR hd K hK
              have dd3 : ys 3 = .pointer (some ⟨D + 1 + 1 + 1, 3, none⟩) := hd 3 (by kernel_rfl) (by decide)
              have c0 := (hR.cell (p := ⟨D + 1 + 1 + 1, 3, none⟩) (by show D + 1 + 1 + 1 < W0.heap.size; omega)).trans KP3.out
              go_simp
              have hK2 := hK (.int .i64 L) _ (Below.refl _ _) rfl
              simp (config := { decide := true }) only [upd, if_true, if_false, dd3] at hK2
              exact hK2
            refine ⟨?_, ?_⟩
            · refine SlotStep.lastB (by kernel_rfl) rfl (by decide) (fun A B hb h => h.trans (hb.mono h.size)) (ptI_up E (D + 1 + 1 + 1) 2 n5 d5 L q5 u5 2) ?_
              intro ys W hR hd K hK
              go_simp
              have hK2 := hK (.pointer (some ⟨E, 1, none⟩)) _ (Below.refl _ _) rfl
              simp (config := { decide := true }) only [upd, if_true, if_false] at hK2
              exact hK2
            refine ⟨?_, ?_⟩
            · refine SlotStep.lastB (by kernel_rfl) rfl (by decide) (fun A B hb h => h.trans (hb.mono h.size)) (ptI_up E (D + 1 + 1 + 1) 2 n5 d5 L q5 u5 2) ?_
              intro ys W hR hd K hK
              have dd5 : ys 5 = .pointer (some ⟨E, 1, none⟩) := hd 5 (by kernel_rfl) (by decide)
              have c0 := (hR.cell (p := ⟨E, 1, none⟩) (by show E < W0.heap.size; omega)).trans KX1.out
              go_simp
              have hK2 := hK (.int .i64 d5) _ (Below.refl _ _) rfl
              simp (config := { decide := true }) only [upd, if_true, if_false, dd5] at hK2
              exact hK2
            refine ⟨?_, ?_⟩
            · refine SlotStep.lastB (by kernel_rfl) rfl (by decide) (fun A B hb h => h.trans (hb.mono h.size)) (ptI_up E (D + 1 + 1 + 1) 2 n5 d5 L q5 u5 2) ?_
              intro ys W hR hd K hK
              have dd4 : ys 4 = .int .i64 L := hd 4 (by kernel_rfl) (by decide)
              have dd6 : ys 6 = .int .i64 d5 := hd 6 (by kernel_rfl) (by decide)
              go_simp
              have hK2 := hK (.int .i64 q5) _ (Below.refl _ _) rfl
              simp (config := { decide := true }) only [upd, if_true, if_false, dd4, dd6] at hK2
              exact hK2
            refine ⟨?_, ?_⟩
            · refine SlotStep.lastB (by kernel_rfl) rfl (by decide) (fun A B hb h => h.trans (hb.mono h.size)) (ptI_up E (D + 1 + 1 + 1) 2 n5 d5 L q5 u5 2) ?_
              intro ys W hR hd K hK
              have dd2 : ys 2 = .int .i64 n5 := hd 2 (by kernel_rfl) (by decide)
              have dd7 : ys 7 = .int .i64 q5 := hd 7 (by kernel_rfl) (by decide)
              go_simp
              have hK2 := hK (.int .i64 u5) _ (Below.refl _ _) rfl
              simp (config := { decide := true }) only [upd, if_true, if_false, dd2, dd7] at hK2
              exact hK2
            refine ⟨?_, ?_⟩
            · refine SlotStep.lastB (by kernel_rfl) rfl (by decide) (fun A B hb h => h.trans (hb.mono h.size)) (ptI_up E (D + 1 + 1 + 1) 2 n5 d5 L q5 u5 2) ?_
              intro ys W hR hd K hK
              go_simp
              have hK2 := hK (.pointer (some ⟨D + 1 + 1 + 1, 0, none⟩)) _ (Below.refl _ _) rfl
              simp (config := { decide := true }) only [upd, if_true, if_false] at hK2
              exact hK2
            refine ⟨?_, ?_⟩
            · refine SlotStep.lastB (by kernel_rfl) rfl (by decide) (fun A B hb h => h.trans (hb.mono h.size)) (ptI_up E (D + 1 + 1 + 1) 2 n5 d5 L q5 u5 2) ?_
              intro ys W hR hd K hK
              have dd0 : ys 0 = .int .i64 2 := hd 0 (by kernel_rfl) (by decide)
              have dd9 : ys 9 = .pointer (some ⟨D + 1 + 1 + 1, 0, none⟩) := hd 9 (by kernel_rfl) (by decide)
              go_simp
              have hK2 := hK (.pointer (some ⟨D + 1 + 1 + 1, 2, none⟩)) _ (Below.refl _ _) rfl
              simp (config := { decide := true }) only [upd, if_true, if_false, dd0, dd9] at hK2
              exact hK2
            refine ⟨?_, ?_⟩
            · refine SlotStep.lastS rfl rfl ?_
              intro ys W hR hd K hK
              have dd8 : ys 8 = .int .i64 u5 := hd 8 (by kernel_rfl) (by decide)
              have dd10 : ys 10 = .pointer (some ⟨D + 1 + 1 + 1, 2, none⟩) := hd 10 (by kernel_rfl) (by decide)
              have hh := (hR.block (D + 1 + 1 + 1) (by omega)).trans HP.out
              have f0 := free4_2 hh
              have g0 := cell4_2 hh
              go_simp
              have hK2 := hK undef _ ⟨(HW.out.trans (hR.mono (by omega))).setCell (p := ⟨D + 1 + 1 + 1, 2, none⟩) (by simp; omega) _, set4_2 hh, (set_other (by omega)).trans ((hR.block (D + 1) (by omega)).trans HZ.out)⟩
              simp (config := { decide := true }) only [upd, if_false, dd8, dd10] at hK2
              exact hK2
            trivial
            · intro L ys W hL hI
              have hF := last_end (by decide) hL hI
              obtain ⟨t1, t2, t3⟩ := hF
              go_simp
              go_wp2
              have H3 := Lib.hid t2
              exact ⟨⟨.inr (.inr (.inr ⟨rfl, H3.out⟩)), t1, t3⟩, by decide⟩
        · have p0 := cell4_0 h3
          have p1 := cell4_1 h3
          have p2 := cell4_2 h3
          have p3 := cell4_3 h3
          have hDw := hw.size
          have hPw := (Array.getElem?_eq_some_iff.1 h3).1
          go_wp2_with fail
          refine (RI.out _).mono ?_
          rintro e w5 ⟨rfl, hb5⟩
          have g1 := (hb5.block (D + 1) (by omega)).trans h1
          have g3 := (hb5.block (D + 1 + 1 + 1) hPw).trans h3
          have HB := hw.trans (hb5.mono (by omega))
          have hg := HGG.out
          rw [HG] at hg
          clear p0 p1 p2 p3 HG HGG
          cases hi : Iv.inB u2 u3 u5 L with
          | true =>
            obtain ⟨e1, e2⟩ := hg.1 hi
            subst e1
            subst e2
            clear hg
            have HW := Lib.hid ((((HB.setCell (p := ⟨D + 1, 0, none⟩) (by simp) (.int .i64 u2)).setCell (p := ⟨D + 1, 1, none⟩) (by simp) (.int .i64 u3)).setCell (p := ⟨D + 1, 2, none⟩) (by simp) (.int .i64 u5)).setCell (p := ⟨D + 1, 3, none⟩) (by simp) (.int .i64 L))
            have hE4 := (set4_3 (x := .int .i64 L) (set4_2 (x := .int .i64 u5) (set4_1 (x := .int .i64 u3) (set4_0 (x := .int .i64 u2) g1))))
            have y0 := cell4_0 hE4
            have o0 := cell4_0 g1
            have f0 := free4_0 g1
            have y1 := cell4_1 hE4
            have o1 := cell4_1 g1
            have f1 := free4_1 g1
            have y2 := cell4_2 hE4
            have o2 := cell4_2 g1
            have f2 := free4_2 g1
            have y3 := cell4_3 hE4
            have o3 := cell4_3 g1
            have f3 := free4_3 g1
            have v0 := cell4_0 g3
            have v1 := cell4_1 g3
            have v2 := cell4_2 g3
            have v3 := cell4_3 g3
            clear g1 g3 HB hE4 h1 h3 hw hb5
            go_wp2
            refine bodyPost_ret (v := .tuple #[.agg #[.int .i64 u2, .int .i64 u3, .int .i64 u5, .int .i64 L], .int .i64 0]) (by simp [results, Tryz.results39, go_sem, y0, y1, y2, y3]) rfl ⟨rfl, by rw [hD]; exact HW.out⟩
          | false =>
            obtain ⟨e1, e2⟩ := hg.2 hi
            subst e1
            subst e2
            clear hg
            have HW := Lib.hid ((((HB.setCell (p := ⟨D + 1, 0, none⟩) (by simp) (.int .i64 0)).setCell (p := ⟨D + 1, 1, none⟩) (by simp) (.int .i64 0)).setCell (p := ⟨D + 1, 2, none⟩) (by simp) (.int .i64 0)).setCell (p := ⟨D + 1, 3, none⟩) (by simp) (.int .i64 0))
            have hE4 := (set4_3 (x := .int .i64 0) (set4_2 (x := .int .i64 0) (set4_1 (x := .int .i64 0) (set4_0 (x := .int .i64 0) g1))))
            have y0 := cell4_0 hE4
            have o0 := cell4_0 g1
            have f0 := free4_0 g1
            have y1 := cell4_1 hE4
            have o1 := cell4_1 g1
            have f1 := free4_1 g1
            have y2 := cell4_2 hE4
            have o2 := cell4_2 g1
            have f2 := free4_2 g1
            have y3 := cell4_3 hE4
            have o3 := cell4_3 g1
            have f3 := free4_3 g1
            have v0 := cell4_0 g3
            have v1 := cell4_1 g3
            have v2 := cell4_2 g3
            have v3 := cell4_3 g3
            clear g1 g3 HB hE4 h1 h3 hw hb5
            go_wp2
            refine bodyPost_ret (v := .tuple #[.agg #[.int .i64 0, .int .i64 0, .int .i64 0, .int .i64 0], .int .i64 4]) (by simp [results, Tryz.results39, go_sem, y0, y1, y2, y3]) rfl ⟨rfl, by rw [hD]; exact HW.out⟩
end Go.Proofs.YthdoadkdofgenaaGreatDoor
