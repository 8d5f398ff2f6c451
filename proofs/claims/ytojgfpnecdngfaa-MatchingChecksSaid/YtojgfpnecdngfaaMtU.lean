/- The program's total, Total. -/
import Derived.Test.YtojgfpnecdngfaaMtT
namespace Go.Proofs.Ytojgfpnecdngfaa
open Go Go.RowKit Go.Shelf

abbrev toV : Value := .func (.func 35) #[] #[]
theorem tot1_c (x : Int) (w : World) : Calls Try.prog 35 #[.int .i64 x] w fun e w' => e = .returned (.tuple #[.int .i64 0, .bool false]) ∧ w = w' := by
  go_enter Try.func35, Try.ntmps35
  go_wp2_with fail
  go_ret2
  exact ⟨rfl, rfl⟩
open Classical in
/-- The columns of the first t rows. -/
noncomputable def thr (col : Nat → Int) (t c : Nat) : Bool := decide (∃ j, j < t ∧ col j = (c : Int))
theorem thr_zero (col : Nat → Int) (c : Nat) : thr col 0 c = false := decide_eq_false fun ⟨j, hj, _⟩ => Nat.not_lt_zero j hj
theorem thr_yes {col : Nat → Int} {t c : Nat} (h : thr col t c = true) : ∃ j, j < t ∧ col j = (c : Int) := of_decide_eq_true h
theorem thr_no {col : Nat → Int} {t c : Nat} (h : thr col t c = false) : ∀ j, j < t → col j ≠ (c : Int) := fun j hj e => of_decide_eq_false h ⟨j, hj, e⟩
theorem thr_next {col : Nat → Int} {t x : Nat} (hx : col t = (x : Int)) (c : Nat) : thr col (t + 1) c = if c = x then true else thr col t c := by
  by_cases e : c = x
  · rw [if_pos e]
    exact decide_eq_true ⟨t, by omega, by rw [hx, e]⟩
  · rw [if_neg e]
    unfold thr
    refine decide_eq_decide.2 ⟨fun ⟨j, hj, he⟩ => ⟨j, ?_, he⟩, fun ⟨j, hj, he⟩ => ⟨j, by omega, he⟩⟩
    by_cases ej : j = t
    · subst ej; omega
    · omega

set_option maxRecDepth 100000 in
set_option maxHeartbeats 2000000 in
theorem total_c (B m n nc : Nat) (A C : Option Addr) (cm cc : Nat) (f : Nat → Nat → Int) (col : Nat → Int) (w : World) (hm : m ≤ 1000) (hn : n ≤ 1000) (hmn : m = 0 → n = 0) (hnc : nc ≤ 9223372036854775807) (hT : Tb w B A m (fun _ => n) f) (hC : Rd w B C nc col) (hB : B ≤ w.heap.size)
    (hf : ∀ i, i < m → ∀ k, k < n → -1000000000 ≤ f i k ∧ f i k ≤ 1000000000) :
    Calls Try.prog 34 #[.slice A m cm, .slice C nc cc, toV] w (TtPost w m n nc f col false 0) := by
  have HT := Lib.hid hT
  have HC := Lib.hid hC
  have HF := Lib.hid hf
  have hwn : wid m (fun _ => n) = n := by
    unfold wid
    by_cases h : m = 0
    · rw [if_pos h, hmn h]
    · rw [if_neg h]
  have WI := Lib.hid (fun (W : World) (h : Tb W B A m (fun _ => n) f) => by have := width_c m B A cm (fun _ => n) f W (by omega) h; rw [hwn] at this; exact this)
  have W0 := Lib.hid (WI.out w hT)
  have T1 := Lib.hid (fun x W => tot1_c x W)
  clear hT hC hf hwn hmn
  go_enter Try.func34, Try.ntmps34
  by_cases hne : nc = m
  case neg =>
    have hb : ((nc : Int) != (m : Int)) = true := by simp; omega
    have HN := Lib.hid hne
    clear hne
    go_wp2_with fail
    go_ret2
    exact tp_5 (Below.refl _ _) HN.out
  subst hne
  have hb : ((nc : Int) != (nc : Int)) = false := by simp
  obtain ⟨j0, hj0, hjz0, hjz1, hjz2⟩ := info_parts info_bool
  have h65 : n ≤ maxLen := by unfold maxLen; omega
  have h66 : j0.bytes * n ≤ 281474976710656 := by rw [hjz2]; omega
  have hsz0 : w.heap.size ≤ w.heap.size := Nat.le_refl _
  have FACT : ∀ w5 : World, w5.ownsRow w.heap.size 4 1 (.slice (some ⟨w.heap.size, 0, none⟩) n n) n (madeCells (Value.bool false).cells (n * 1)).toList → w.grownBy w5 none → w5.rowIs w.heap.size 4 n (fun c => .bool (thr col 0 c)) ∧ Below w.heap.size w w5 := by
    intro w5 ho5 hg5
    refine ⟨?_, (Below.refl _ _).grown hg5 (Nat.le_refl _) (fun k hk => by cases hk)⟩
    rw [Nat.mul_one, made_rep _ _ rfl] at ho5
    rcases ho5.2 with ⟨h, _⟩ | ⟨g, cap, cur, he, hbb, hg, hc, _, hs, hx⟩
    · cases h
    · injection he with h1 h2 h3
      injection h1 with h1
      injection h1 with h1
      subst h1
      subst h3
      refine ⟨cur, hg, by omega, fun j hj => ?_⟩
      have h1 : (cur.toList.take (n * 1))[j]? = some (.bool false) := by rw [hx]; simp [hj]
      rw [List.getElem?_take_of_lt (by omega)] at h1
      show cur[j]? = some (.bool (thr col 0 j))
      rw [thr_zero]
      simpa using h1
  have HFACT := Lib.hid FACT
  clear FACT
  go_wp2_with (first
    | (go_at_call 42; refine W0.out.mono ?_; rintro e w' ⟨rfl, rfl⟩)
    | (at_make; refine wpList_make_full _ rfl _ _ 49 rfl w.heap.size 4 j0 (.bool false) 1 Try.underlying49 hj0 hjz0 hjz1 .i64 .i64 _ _ n rfl rfl rfl rfl h66 h65 hsz0 ?_; intro w5 ho5 hg5; have HA := Lib.hid (HFACT.out w5 ho5 hg5); clear ho5 hg5))
  obtain ⟨D, hD⟩ : ∃ D, w.heap.size = D := ⟨_, rfl⟩
  have hBD : B ≤ D := by omega
  rw [hD] at HA ⊢
  have HD := Lib.hid hD
  clear hD HFACT hsz0
  go_loopw [8, 24] (fun s i wr => ∃ t : Nat, t ≤ nc ∧ i = .int .i64 (t : Int) ∧ s = .int .i64 (Mt.sm (ttF f col false 0) t) ∧ ttE n col false t = 0 ∧ wr.rowIs D 4 n (fun c => .bool (thr col t c)) ∧ Below D w wr) (fun _ i _ => nc - (intOf i).toNat)
  case atStart => exact ⟨0, Nat.zero_le _, rfl, rfl, rfl, HA.out.1, HA.out.2⟩
  case round =>
    obtain ⟨t, ht, rfl, rfl, hE, hrow, hb⟩ := hrel
    have bd := tt_bd (skip := 0) ht HF.out (by omega) hE
    have HE := Lib.hid hE
    have hDw := HD.out
    have HZ := Lib.hid (show Below w.heap.size w wr by rw [hDw]; exact hb)
    have HTr := Lib.hid (HT.out.below hb hBD)
    have HCr := Lib.hid (HC.out.below hb hBD)
    have Wr := Lib.hid (WI.out wr HTr.out)
    have HB := Lib.hid (And.intro hrow hb)
    obtain ⟨S, hS⟩ : ∃ S, Mt.sm (ttF f col false 0) t = S := ⟨_, rfl⟩
    rw [hS] at bd ⊢
    have HS := Lib.hid hS
    clear hE hS hb
    by_cases htm : t < nc
    · have hti : (t : Int) < (nc : Int) := by omega
      have q := wrap_in (q := (t : Int) + 1) (by omega) (by omega)
      obtain ⟨b, rfl, _, c0⟩ := HCr.out t htm
      obtain ⟨a, Ai, ci, rfl, _, c1, hRd⟩ := HTr.out t htm
      have HR := Lib.hid (show Rd wr B Ai n (f t) from hRd)
      have c1' : wr.cell? (a.add t) = some (.slice Ai n ci) := c1
      clear hRd c1
      by_cases r1 : col t < 0
      · have HN := Lib.hid (show ¬ (0 ≤ col t ∧ col t < (n : Int)) by omega)
        clear hrow
        go_wp2_with (first
          | (go_at_call 35; refine (T1.out _ _).mono ?_; rintro e w' ⟨rfl, rfl⟩))
        go_ret2
        exact tp_3 HZ.out rfl HE.out htm (fun h => by cases h.1) HN.out
      by_cases r2 : (n : Int) ≤ col t
      · have HN := Lib.hid (show ¬ (0 ≤ col t ∧ col t < (n : Int)) by omega)
        clear hrow
        go_wp2_with (first
          | (go_at_call 42; refine Wr.out.mono ?_; rintro e w' ⟨rfl, rfl⟩)
          | (go_at_call 35; refine (T1.out _ _).mono ?_; rintro e w' ⟨rfl, rfl⟩))
        go_ret2
        exact tp_3 HZ.out rfl HE.out htm (fun h => by cases h.1) HN.out
      obtain ⟨x, hx⟩ : ∃ x : Nat, col t = (x : Int) := ⟨(col t).toNat, by omega⟩
      have HX := Lib.hid hx
      have hxn : x < n := by omega
      have c0' : wr.cell? (b.add t) = some (.int .i64 (x : Int)) := by rw [c0, hx]
      have hxi : (x : Int) < (n : Int) := by omega
      have hx0 : ¬ (x : Int) < 0 := by omega
      have hx1 : ¬ (n : Int) ≤ (x : Int) := by omega
      have y0 : wr.cell? ⟨D, x, none⟩ = some (.bool (thr col t x)) := hrow.cell hxn
      have yf : wr.frozen? ⟨D, x, none⟩ = false := hrow.frozen x
      clear r1 r2 hx c0 hrow
      cases hth : thr col t x
      · rw [hth] at y0
        have HN := Lib.hid (show ttE n col false (t + 1) = 0 from tt_ok HE.out (by rw [HX.out]; omega) (fun j hj => by rw [HX.out]; exact thr_no hth j hj))
        have HSM := Lib.hid (show Mt.sm (ttF f col false 0) (t + 1) = S + f t x by
          show Mt.sm (ttF f col false 0) t + ttF f col false 0 t = _
          rw [HS.out]
          unfold ttF
          rw [if_neg (fun h => by cases h.1), HX.out, Int.toNat_natCast])
        have fb := HF.out t htm x hxn
        have q2 := wrap_in (q := S + f t x) (by omega) (by omega)
        obtain ⟨WS, hWS⟩ : ∃ WS, wr.setCell ⟨D, x, none⟩ (.bool true) = WS := ⟨_, rfl⟩
        have hrS : WS.rowIs D 4 n (fun c => .bool (thr col (t + 1) c)) := by
          rw [← hWS]
          refine (HB.out.1.set x (.bool true)).congr fun c _ => ?_
          rw [thr_next HX.out]
          by_cases e : c = x
          · rw [if_pos e, if_pos e]
          · rw [if_neg e, if_neg e]
        have hbS : Below D w WS := by rw [← hWS]; exact HB.out.2.setCell (p := ⟨D, x, none⟩) (Nat.le_refl _) _
        have hbr : Below D wr WS := by rw [← hWS]; exact (Below.refl _ _).setCell (p := ⟨D, x, none⟩) (Nat.le_refl _) _
        obtain ⟨b2, rfl, hlt2, e0⟩ := HR.out x hxn
        obtain ⟨a', Ai', ci', hea, hltA, _, _⟩ := HTr.out t htm
        obtain rfl : a = a' := by injection hea
        have c1S : WS.cell? (a.add t) = some (.slice (some b2) n ci) := (hbr.cell (p := a.add t) (by rw [block_add]; omega)).trans c1'
        have e0S : WS.cell? (b2.add x) = some (.int .i64 (f t x)) := (hbr.cell (p := b2.add x) (by rw [block_add]; omega)).trans e0
        have HW := Lib.hid (And.intro hrS hbS)
        clear fb bd hth hrS hbS hbr hea
        go_wp2_with (first
          | (go_at_call 42; refine Wr.out.mono ?_; rintro e w' ⟨rfl, rfl⟩))
        go_roundw
        case rel => exact ⟨t + 1, htm, rfl, by rw [HSM.out], HN.out, HW.out.1, HW.out.2⟩
        case measure => simp [intOf]; omega
      · rw [hth] at y0
        have HY := Lib.hid (thr_yes hth)
        clear hth bd
        go_wp2_with (first
          | (go_at_call 42; refine Wr.out.mono ?_; rintro e w' ⟨rfl, rfl⟩))
        go_ret2
        exact tp_9 HZ.out rfl HE.out htm (by rw [HX.out]; omega) (by obtain ⟨j, hj, he⟩ := HY.out; exact ⟨j, hj, by rw [he, HX.out]⟩)
    · obtain rfl : t = nc := by omega
      have hti : ¬ (t : Int) < (t : Int) := by omega
      clear bd hrow
      go_wp2_with fail
      go_ret2
      rw [← HS.out]
      exact tp_0 HZ.out rfl HE.out

theorem Total_c (B m n nc : Nat) (A C : Option Addr) (cm cc : Nat) (L : Nat → Nat) (f : Nat → Nat → Int) (col : Nat → Int) (w : World) (hm : m ≤ 9223372036854775807) (hL : ∀ i, i < m → L i ≤ 9223372036854775807) (hT : Tb w B A m L f) (hB : B ≤ w.heap.size) (hnc : nc ≤ 9223372036854775807) (hC : Rd w B C nc col)
    (hn : wid m L = n) (hE : chT true m L f = 0) :
    Calls Try.prog 16 #[.slice A m cm, .slice C nc cc] w (TtPost w m n nc f col false 0) := by
  have CK := Lib.hid (check_c B m A cm L f w hm hL hT)
  rw [hE] at CK
  obtain ⟨o1, o2, o3, o4, o5⟩ := chT_ok hE
  rw [hn] at o2 o3 o4 o5
  have TO := Lib.hid (total_c B m n nc A C cm cc f col w (by omega) (by omega) (fun h => by rw [← hn]; exact if_pos h) hnc (hT.congr o3 (fun _ _ _ _ => rfl)) hC hB o5)
  clear hT hL hE hC o1 o2 o3 o4 o5 hn
  go_enter Try.func16, Try.ntmps16
  go_wp2_with fail
  refine CK.out.mono ?_
  rintro e w' ⟨rfl, rfl⟩
  go_wp2_with fail
  refine TO.out.mono ?_
  rintro e w' ⟨⟨v, x, rfl, hr⟩, hb⟩
  have HR := Lib.hid (And.intro hr hb)
  clear hr hb
  go_wp2_with fail
  go_ret2
  exact ⟨⟨_, _, rfl, HR.out.1⟩, HR.out.2⟩
end Go.Proofs.Ytojgfpnecdngfaa
