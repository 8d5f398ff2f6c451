/- Numbers in memory; read. -/
import Derived.Test.YtnchodofgaaeeaaGreatDoorImD
namespace Go.Proofs.YtnchodofgaaeeaaGreatDoor
open Go Go.RowKit Go.Shelf

/-- The number z in memory. -/
def Num (W : World) (v : Value) (z : Int) : Prop :=
  ∃ (neg : Bool) (sa : Option Addr) (cap b o : Nat), v = .agg #[.bool neg, .slice sa (nd z.natAbs) cap] ∧ Row W sa (nd z.natAbs) cap b o z.natAbs ∧ (z ≠ 0 → neg = decide (z < 0))
theorem Num.below {W W' : World} {B : Nat} {v : Value} {z : Int} (h : Num W v z) (hb : Below B W W') (hB : W.heap.size ≤ B) : Num W' v z := by
  obtain ⟨neg, sa, cap, b, o, h1, h2, h3⟩ := h
  exact ⟨neg, sa, cap, b, o, h1, h2.below hb hB, h3⟩
theorem Num.call {W W' : World} {v : Value} {z : Int} (h : Num W v z) (hb : Below W.heap.size W W') : Num W' v z := h.below hb (Nat.le_refl _)

def pcs (x n : Nat) : List Value := (List.range n).map fun k => .int .u64 (dg x k : Nat)
theorem pcs_succ (x n : Nat) : pcs x (n + 1) = pcs x n ++ [.int .u64 (dg x n : Nat)] := by simp [pcs, List.range_succ]
theorem info_u64 : (Tryz.prog.info? 106).map (fun i => (i.zero, i.size, i.bytes)) = some (some (.int .u64 0), 1, 8) := by kernel_rfl
theorem grown_below {W w1 : World} {B e size : Nat} {v : Value} {k : Nat} {xs : List Value} {o : Obj} (hB : B ≤ W.heap.size) (hrow : W.ownsRow B e size v k xs) (hg : (W.alloc o).grownBy w1 v.ownBlock) : Below B W w1 :=
  ((Below.refl B W).alloc hB o).grown hg (by simp; omega) (fun g hgv => by
    rcases hrow.2 with ⟨rfl, _⟩ | ⟨g', cap, cur, rfl, h1, _⟩
    · cases hgv
    · simp [Value.ownBlock] at hgv
      omega)
theorem row_of {W : World} {b0 n x : Nat} {v : Value} (h : W.ownsRow b0 106 1 v n (pcs x n)) (hx : x < BB ^ n) :
    ∃ sa cap b, v = .slice sa n cap ∧ Row W sa n cap b 0 x ∧ (0 < n → b0 ≤ b) := by
  have hc := fun g hv => h.cells (g := g) hv
  obtain ⟨_, h2⟩ := h
  rcases h2 with ⟨rfl, hn⟩ | ⟨g, cap, cur, rfl, hg, hh, hcap, hcm, hsz, htk⟩
  · obtain rfl : n = 0 := by first | omega | (have := hn.1; omega) | (have := hn.2; simp [pcs] at this; omega)
    exact ⟨none, 0, 0, rfl, ⟨Nat.le_refl _, fun p => absurd p (Nat.lt_irrefl _), fun p => absurd p (Nat.lt_irrefl _), fun k hk => absurd hk (Nat.not_lt_zero _), hx⟩, fun p => absurd p (Nat.lt_irrefl _)⟩
  · refine ⟨some ⟨g, 0, none⟩, cap, g, rfl, ⟨hcap, fun _ => rfl, fun _ => (Array.getElem?_eq_some_iff.1 hh).1, fun k hk => ?_, hx⟩, fun _ => hg⟩
    have := hc g rfl k (.int .u64 (dg x k : Nat)) (by simp [pcs, hk])
    have e : (⟨g, 0, none⟩ : Addr).add k = ⟨g, 0 + k, none⟩ := by unfold Addr.add; split <;> simp_all
    rwa [e] at this

/-- The pieces of a row of digits. -/
theorem piece_val {l : List UInt8} (h : l.all Im.isD = true) {j : Nat} (hj : 9 * j < l.length) :
    Im.valL ((l.take (l.length - 9 * j)).drop (l.length - 9 * j - 9)) = dg (Im.valL l) j := by
  unfold dg Im.dg BB
  have hp : (1000000000 : Nat) ^ j = 10 ^ (9 * j) := by rw [Nat.pow_mul]
  rw [hp]
  by_cases h9 : 9 * j + 9 ≤ l.length
  · rw [Im.val_block h h9]
  · rw [show l.length - 9 * j - 9 = 0 by omega, List.drop_zero, Im.val_take h (by omega)]
    refine (Nat.mod_eq_of_lt ?_).symm
    have h1 := Im.val_lt (Im.all_take h (l.length - 9 * j))
    rw [Im.val_take h (by omega), List.length_take] at h1
    have h2 : 10 ^ min (l.length - 9 * j) l.length ≤ 10 ^ 9 := Nat.pow_le_pow_right (by decide) (by omega)
    omega

theorem extract_list (s : ByteArray) (i j : Nat) : (s.extract i j).data.toList = (s.data.toList.take j).drop i := by
  rw [Lib.extract_data, List.drop_take]

/-- What read returns. -/
def rdZ (l : List UInt8) : Int := if Im.canonI l then Im.ivL l else 0

set_option maxRecDepth 100000 in
set_option maxHeartbeats 2000000 in
theorem read_yes (s : ByteArray) (hs : s.size ≤ 1048576) (hc : Im.canonI s.data.toList = true) (w : World) :
    Calls Tryz.prog 61 #[.string s] w fun e w' => (∃ v, e = .returned v ∧ Num w' v (Im.ivL s.data.toList)) ∧ Below w.heap.size w w' := by
  obtain ⟨i0, hi0, hz0, hz1, hz2⟩ := info_parts info_u64
  obtain ⟨c1, c2⟩ := Im.canonI_canon hc
  obtain ⟨c3, c4, c5⟩ := Im.canonL_iff.1 c1
  have t := fun W => digits_any s W
  obtain ⟨d, hd⟩ : ∃ d : ByteArray, ⟨(Im.dgs s.data.toList).toArray⟩ = d := ⟨_, rfl⟩
  have hdl : d.data.toList = Im.dgs s.data.toList := by rw [← hd]
  rw [hd] at t
  have T := Lib.hid t
  have c := fun W => canonical_any s hs W
  rw [hc] at c
  have C := Lib.hid c
  have hds : d.size ≤ s.size := by
    rw [← size_list, hdl, ← size_list]
    unfold Im.dgs
    split
    · rw [List.length_tail]; omega
    · exact Nat.le_refl _
  rw [← hdl] at c4
  have P := Lib.hid (fun (j : Nat) (hj : 9 * j < d.size) W => by
    have h9 := pieceOf_any (d.extract (d.size - 9 * j - 9) (d.size - 9 * j)) (by rw [← size_list, extract_list, List.length_drop, List.length_take, size_list]; omega) (by rw [extract_list]; exact Im.all_drop (Im.all_take c4 _) _) W
    rw [extract_list, ← size_list, piece_val c4 (by rw [size_list]; exact hj), size_list] at h9
    exact h9)
  have hX : (Im.ivL s.data.toList).natAbs = Im.valL d.data.toList := by rw [ivL_abs, hdl]
  obtain ⟨X, hXX⟩ : ∃ X, Im.valL d.data.toList = X := ⟨_, rfl⟩
  rw [hXX] at P
  have hlt := Im.val_lt c4
  rw [size_list, hXX] at hlt
  have TR := Lib.hid (fun sa n cap b o W h hn => trimmed_any sa n cap b o X W h hn)
  have hX0 := hX.trans hXX
  have HX := Lib.hid hX0
  have hneg : Im.ivL s.data.toList ≠ 0 → decide ((d.size : Int) < (s.size : Int)) = decide (Im.ivL s.data.toList < 0) := fun h0 => by
    have e : (decide ((d.size : Int) < (s.size : Int))) = decide (s.data.toList.head? = some 45) := by
      rw [← size_list d, hdl, ← size_list s]
      unfold Im.dgs
      split
      · rename_i h
        rw [h, List.length_tail]
        cases hh : s.data.toList with
        | nil => rw [hh] at h; cases h
        | cons a r => simp; omega
      · rename_i h
        simp [h]
    rw [e]
    congr 1
    apply propext
    unfold Im.ivL at h0 ⊢
    split
    · rename_i h
      rw [if_pos h] at h0
      simp [h]; omega
    · rename_i h
      simp [h]
  have HN := Lib.hid hneg
  have HL := Lib.hid hlt
  clear t c hc c1 c2 c3 c4 c5 hd hdl hX hXX hX0 hneg hlt
  go_enter Tryz.func61, Tryz.ntmps61
  go_wp2_with fail
  refine (C.out _).mono ?_
  rintro e w' ⟨rfl, rfl⟩
  go_wp2_with fail
  refine (T.out _).mono ?_
  rintro e w' ⟨rfl, rfl⟩
  go_wp2_with fail
  go_loopw [4, 5] (fun v i wr => ∃ j : Nat, 9 * j < d.size + 9 ∧ i = .int .i64 ((d.size : Int) - 9 * (j : Int)) ∧ wr.ownsRow (w.heap.size + 1) 106 1 v j (pcs X j) ∧ Below (w.heap.size + 1) (w.alloc (.cells #[.bool false, .slice none 0 0] 80)) wr) (fun _ i _ => ((intOf i) + 9).toNat)
  case atStart => exact ⟨0, by omega, by simp, World.ownsRow_nil _ _ _ _, Below.refl _ _⟩
  case round =>
    obtain ⟨j, hj, rfl, hrow, hw⟩ := hrel
    have hsz := hw.size
    simp at hsz
    by_cases h1 : 9 * j < d.size
    · obtain ⟨e, he⟩ : ∃ e : Nat, d.size - 9 * j = e := ⟨_, rfl⟩
      have hki : (d.size : Int) - 9 * (j : Int) = (e : Int) := by omega
      have PP := Lib.hid (fun W => P.out j h1 W)
      have HS := Lib.hid (pcs_succ X j)
      rw [he] at PP
      rw [hki]
      have HK := Lib.hid hki
      have he1 : 0 < e := by omega
      have hes : e ≤ d.size := by omega
      have h0l := dg_lt X j
      generalize dg X j = x at *
      obtain ⟨lo, hlo⟩ : ∃ lo : Nat, e - 9 = lo := ⟨_, rfl⟩
      rw [hlo] at PP
      have hmx : max (0 : Int) ((e : Int) - 9) = (lo : Int) := by omega
      have hle : lo ≤ e := by omega
      clear he hlo
      go_wp2_with (first | (go_at_call 96; refine (PP.out _).mono ?_; rintro e w5 ⟨rfl, hww⟩; subst w5) | (at_builtin; refine wpList_append_own _ rfl _ _ 78 rfl (w.heap.size + 1) 106 i0 (.int .u64 0) 1 8 Tryz.underlying78 hi0 hz0 hz1 hz2 rfl (by decide) _ _ _ rfl (hrow.alloc _) ⟨wr.heap.size, 0, none⟩ 1 1 [.int .u64 (x : Nat)] rfl rfl (cell_one_new _ _ _) (by simp [Value.oneCell']) (by unfold maxLen; omega) (by omega) (by simp; omega) ?_; intro v' w6 hown' hgrow _))
      have hb6 := grown_below hsz hrow hgrow
      go_roundw
      case rel => exact ⟨j + 1, by omega, by rw [← HK.out]; congr 1; omega, by rw [HS.out]; simpa using hown', hw.trans hb6⟩
      case measure => simp [intOf]; omega
    · have hf : X < BB ^ j := by
        have : (10 : Nat) ^ d.size ≤ 10 ^ (9 * j) := Nat.pow_le_pow_right (by decide) (by omega)
        rw [Nat.pow_mul, show (10 : Nat) ^ 9 = 1000000000 from rfl] at this
        have h2 := HL.out
        unfold BB
        omega
      obtain ⟨sa, cap, b, rfl, hR, hgb⟩ := row_of hrow hf
      have hT := Lib.hid (TR.out sa j cap b 0 wr hR (by omega))
      have hRt := Lib.hid hR.trim
      have hb0 : 0 < nd X → b ≠ w.heap.size := fun h0 => by
        have h1 : nd X ≤ j := Im.nd_le bb2 hf
        have := hgb (by omega)
        omega
      have HB := Lib.hid hb0
      obtain ⟨r0, r1, rl, rf⟩ := (Two.new w (.bool false) (.slice none 0 0) 80).below (by simpa using hw)
      have hwb := ((Below.refl _ w).alloc (Nat.le_refl _) (.cells #[.bool false, .slice none 0 0] 80)).trans (hw.mono (Nat.le_succ _))
      clear hf hgb hR hrow hb0
      go_wp2_with fail
      refine hT.out.mono ?_
      rintro e w5 ⟨rfl, hww⟩
      subst w5
      go_wp2
      refine bodyPost_ret (v := .agg #[.bool (decide ((d.size : Int) < (s.size : Int))), .slice sa (nd X) cap]) (by simp [results, Tryz.results61, go_sem, r0, r1]) rfl ⟨⟨_, rfl, decide ((d.size : Int) < (s.size : Int)), sa, cap, b, 0, by rw [HX.out], ?_, HN.out⟩, (hwb.setCell (by simp) _).setCell (by simp) _⟩
      rw [HX.out]
      exact (hRt.out.set _ HB.out _).set _ HB.out _
end Go.Proofs.YtnchodofgaaeeaaGreatDoor
