/- FractionLists: the law's walk. -/
import Derived.Test.YtoeacbmlodfciaaDoorFracLb
import Derived.OwnWalk
import Derived.Laws.OwnMore
namespace Go.Proofs.YtoeacbmlodfciaaDoor
open Go.RowKit

theorem info_frac : (Tryd.prog.info? 27).map (fun i => (i.zero, i.size, i.bytes)) = some (some (.agg #[.int .i64 0, .int .i64 0]), 2, 16) := by kernel_rfl

theorem info_parts {P : Program} {t : TypeId} {z : Value} {s b : Nat} (h : (P.info? t).map (fun i => (i.zero, i.size, i.bytes)) = some (some z, s, b)) : ∃ i, P.info? t = some i ∧ i.zero = some z ∧ i.size = s ∧ i.bytes = b := by
  cases hi : P.info? t with
  | none => rw [hi] at h; cases h
  | some i =>
    rw [hi] at h
    simp only [Option.map_some, Option.some.injEq, Prod.mk.injEq] at h
    exact ⟨i, rfl, h.1, h.2.1, h.2.2⟩

/-- The cells of a list of fractions. -/
def fcells : List (Int × Int) → List Value
  | [] => []
  | x :: r => .int .i64 x.1 :: .int .i64 x.2 :: fcells r
theorem fcells_append : ∀ (l m : List (Int × Int)), fcells (l ++ m) = fcells l ++ fcells m
  | [], _ => rfl
  | x :: r, m => by simp [fcells, fcells_append r m]
theorem fcells_at : ∀ (l : List (Int × Int)) (k : Nat), k < l.length → (fcells l)[k * 2]? = some (.int .i64 (l.getD k (0, 0)).1) ∧ (fcells l)[k * 2 + 1]? = some (.int .i64 (l.getD k (0, 0)).2)
  | [], k, h => by simp at h
  | x :: r, 0, _ => by simp [fcells]
  | x :: r, k + 1, h => by
    have := fcells_at r k (by simpa using h)
    rw [show (k + 1) * 2 = k * 2 + 1 + 1 by omega]
    simpa [fcells] using this

theorem grown_below {W w1 : World} {B e size : Nat} {v : Value} {k : Nat} {xs : List Value} {o : Obj} (hB : B ≤ W.heap.size) (hrow : W.ownsRow B e size v k xs) (hg : (W.alloc o).grownBy w1 v.ownBlock) : Below B W w1 :=
  ((Below.refl B W).alloc hB o).grown hg (by simp; omega) (fun g hgv => by
    rcases hrow.2 with ⟨rfl, _⟩ | ⟨g', cap, cur, rfl, h1, _⟩
    · cases hgv
    · simp [Value.ownBlock] at hgv
      omega)
theorem ownsRow_call {W w1 : World} {B e size : Nat} {v : Value} {k : Nat} {xs : List Value} (h : W.ownsRow B e size v k xs) (hb : Below W.heap.size W w1) : w1.ownsRow B e size v k xs :=
  ⟨h.1, h.2.imp id fun ⟨g, cap, cur, h1, h2, h3, h4⟩ => ⟨g, cap, cur, h1, h2, (hb.block g (heap_lt h3)).trans h3, h4⟩⟩

theorem cell_two_new (W : World) (a b : Value) (T : TypeId) (j : Nat) (u : Value) (hu : [a, b][j]? = some u) : (W.alloc (.cells #[a, b] T)).cell? ((⟨W.heap.size, 0, none⟩ : Addr).add j) = some u := by
  have hj := (List.getElem?_eq_some_iff.1 hu).1
  simp at hj
  obtain rfl | rfl : j = 0 ∨ j = 1 := by omega
  · simp at hu; subst hu; simp [Addr.add]
  · simp at hu; subst hu; simp [Addr.add]
theorem row_at {W : World} {base : Nat} {v : Value} {n : Nat} {L : List (Int × Int)} {X Y : Nat → Int} (h : W.ownsRow base 27 2 v n (fcells L)) (hl : L.length = n) (hg : ∀ k, k < n → L.getD k (0, 0) = (X k, Y k)) :
    ∃ sv B off cap, v = .slice sv n cap ∧ (0 < n → sv = some ⟨B, off, none⟩ ∧ B < W.heap.size) ∧ (∀ k, k < n → W.cell? ⟨B, off + k * 2, none⟩ = some (.int .i64 (X k)) ∧ W.cell? ⟨B, off + k * 2 + 1, none⟩ = some (.int .i64 (Y k))) := by
  rcases h.2 with ⟨rfl, hn⟩ | ⟨g, cap, cur, rfl, hgb, hg2, hnc, hcm, hcs, htk⟩
  · obtain rfl : n = 0 := by omega
    exact ⟨none, 0, 0, 0, rfl, fun h => absurd h (by decide), fun k hk => absurd hk (by omega)⟩
  · refine ⟨_, g, 0, cap, rfl, fun _ => ⟨rfl, heap_lt hg2⟩, fun k hk => ?_⟩
    have hf := fcells_at L k (by omega)
    rw [hg k hk] at hf
    rw [Nat.zero_add, h.cellAt _ (by omega), h.cellAt _ (by omega)]
    exact hf

set_option maxRecDepth 100000 in
set_option maxHeartbeats 8000000 in
theorem lists_law (sa : Option Addr) (B off cap n : Nat) (P Q : Nat → Int) (X Y : Nat → Int) (w : World) (hn : n ≤ 8) (ha : 0 < n → sa = some ⟨B, off, none⟩ ∧ B < w.heap.size)
    (hx : ∀ k, k < n → w.cell? ⟨B, off + k * 2, none⟩ = some (.int .i16 (P k)) ∧ w.cell? ⟨B, off + k * 2 + 1, none⟩ = some (.int .u8 (Q k)))
    (hM : ∀ k, k < n → ∀ W : World, Calls Tryd.prog 10 #[.agg #[.int .i16 (P k), .int .u8 (Q k)]] W fun e w' => e = .returned (.agg #[.int .i64 (X k), .int .i64 (Y k)]) ∧ Below W.heap.size W w')
    (hr : ∀ k, k < n → FracMath.rightB (X k) (Y k) = true) :
    Calls Tryd.prog 4 #[.slice sa n cap] w fun e w' => e = .returned (.bool true) ∧ Below w.heap.size w w' := by
  obtain ⟨i0, hi0, hz0, hz1, hz2⟩ := info_parts info_frac
  obtain ⟨L, hL⟩ : ∃ L : List (Int × Int), L = (List.range n).map fun k => (X k, Y k) := ⟨_, rfl⟩
  have hLl : L.length = n := by rw [hL]; simp
  have hLg : ∀ k, k < n → L.getD k (0, 0) = (X k, Y k) := fun k hk => by
    rw [hL]; simp [List.getD_eq_getElem?_getD, hk]
  have hLt : ∀ k, k < n → L.take (k + 1) = L.take k ++ [(X k, Y k)] := fun k hk => by
    have := hLg k hk
    rw [List.getD_eq_getElem?_getD, List.getElem?_eq_getElem (by omega), Option.getD_some] at this
    rw [List.take_succ_eq_append_getElem (by omega), this]
  have hLd : ∀ k, k < n → L.drop k = (X k, Y k) :: L.drop (k + 1) := fun k hk => by
    have := hLg k hk
    rw [List.getD_eq_getElem?_getD, List.getElem?_eq_getElem (by omega), Option.getD_some] at this
    rw [List.drop_eq_getElem_cons (by omega), this]
  obtain ⟨r1, r2, r3, hR⟩ : ∃ r1 r2 r3, FracMath.sumL 0 1 L = (r1, r2, r3) := ⟨_, _, _, rfl⟩
  have K := Lib.hid (known_any w)
  have HA := Lib.hid ha
  have HX := Lib.hid hx
  have MK := Lib.hid hM
  have LT := Lib.hid hLt
  have SUM := Lib.hid (fun (sv : Option Addr) (B' off' cap' : Nat) (W : World) h1 h2 => sum_row sv B' off' cap' n X Y W (by omega) h1 h2 hr L hLl hLd r1 r2 r3 hR)
  have RSUM := Lib.hid (fun (sv : Option Addr) (B' off' cap' : Nat) (W : World) h1 h2 => rsum_row sv B' off' cap' n X Y W (by omega) h1 h2 hr L hLl hLd r1 r2 r3 hR)
  have LG := Lib.hid hLg
  have LL := Lib.hid hLl
  have hlen : ¬ (8 : Int) < (n : Int) := by omega
  clear ha hx hM hLt hLg hLl hLd hR hL hr
  go_enter Tryd.func4, Tryd.ntmps4
  go_wp2_with fail
  refine K.out.mono ?_
  rintro e w1 ⟨rfl, hb1⟩
  go_wp2_with fail
  go_loopw [3, 4] (fun v i wr => ∃ k : Nat, k ≤ n ∧ i = .int .i64 (k : Int) ∧ wr.ownsRow w.heap.size 27 2 v k (fcells (L.take k)) ∧ Below w.heap.size w wr) (fun _ i _ => n - (intOf i).toNat)
  case atStart => exact ⟨0, Nat.zero_le _, rfl, World.ownsRow_nil _ _ _ _, hb1⟩
  case round =>
    obtain ⟨k, hk, rfl, hrow, hw⟩ := hrel
    have hsz := hw.size
    by_cases h1 : k < n
    · obtain ⟨rfl, hB⟩ := HA.out (by omega)
      have hx0 := (hw.cell (p := ⟨B, off + k * 2, none⟩) hB).trans (HX.out k h1).1
      have hx1 := (hw.cell (p := ⟨B, off + k * 2 + 1, none⟩) hB).trans (HX.out k h1).2
      have hkn : (k : Int) < (n : Int) := by omega
      have M := Lib.hid (MK.out k h1)
      have HT := Lib.hid (LT.out k h1)
      generalize X k = c at *
      generalize Y k = d at *
      go_wp2_with fail
      refine (M.out _).mono ?_
      rintro e w3 ⟨rfl, hb3⟩
      have hrow3 := ownsRow_call hrow hb3
      have hz3 := hb3.size
      go_wp2_with (at_builtin; refine wpList_append_own _ rfl _ _ 38 rfl w.heap.size 27 i0 (.agg #[.int .i64 0, .int .i64 0]) 2 16 Tryd.underlying38 hi0 hz0 hz1 hz2 rfl (by decide) _ _ _ rfl (hrow3.alloc _) ⟨w3.heap.size, 0, none⟩ 1 1 [.int .i64 c, .int .i64 d] rfl rfl (cell_two_new _ _ _ _) (by simp [Value.oneCell']) (by unfold maxLen; omega) (by omega) (by simp; omega) ?_; intro v' w6 hown' hgrow _)
      have hb6 := grown_below (by omega) hrow3 hgrow
      go_roundw
      case rel => exact ⟨k + 1, by omega, by go_num, by rw [HT.out, fcells_append]; exact hown', (hw.trans (hb3.mono (by omega))).trans hb6⟩
      case measure => simp [intOf]; omega
    · obtain rfl : k = n := by omega
      have htk : L.take k = L := by rw [List.take_of_length_le (by rw [LL.out]; exact Nat.le_refl _)]
      rw [htk] at hrow
      obtain ⟨sv, B', off', cap', rfl, hq1, hq2⟩ := row_at hrow LL.out LG.out
      have S1 := Lib.hid (SUM.out sv B' off' cap' wr hq1 hq2)
      have S2 := Lib.hid (fun W (hW : Below wr.heap.size wr W) => RSUM.out sv B' off' cap' W (fun h => ⟨(hq1 h).1, Nat.lt_of_lt_of_le (hq1 h).2 hW.size⟩) (fun j hj => ⟨(hW.cell (p := ⟨B', off' + j * 2, none⟩) (hq1 (by omega)).2).trans (hq2 j hj).1, (hW.cell (p := ⟨B', off' + j * 2 + 1, none⟩) (hq1 (by omega)).2).trans (hq2 j hj).2⟩))
      clear hq1 hq2 SUM RSUM LT LG LL HX MK HA hrow htk
      go_wp2_with fail
      refine S1.out.mono ?_
      rintro e w3 ⟨rfl, hb3⟩
      have hz3 := hb3.size
      have x3 := FAt.new w3 r1 r2
      have bb3 : Below wr.heap.size wr (w3.alloc (.cells #[.int .i64 r1, .int .i64 r2] 27)) := hb3.alloc hb3.size _
      go_wp2_with fail
      refine (S2.out _ bb3).mono ?_
      rintro e w4 ⟨rfl, hb4⟩
      have x4 := x3.call hb4
      have c0 := x4.fst
      have c1 := x4.snd
      have c2 := x4.lt
      have bb4 := bb3.trans (hb4.mono bb3.size)
      go_wp2
      all_goals
        go_ret
        exact ⟨rfl, hw.trans ((bb4.alloc bb4.size _).mono hsz)⟩

theorem lists_long (sa : Option Addr) (cap n : Nat) (w : World) (hn : 8 < n) :
    Calls Tryd.prog 4 #[.slice sa n cap] w fun e w' => e = .returned (.bool true) ∧ Below w.heap.size w w' := by
  have K := Lib.hid (fun W => known_any W)
  have hlen : (8 : Int) < (n : Int) := by omega
  go_enter Tryd.func4, Tryd.ntmps4
  go_wp2_with fail
  refine (K.out _).mono ?_
  rintro e w1 ⟨rfl, hb1⟩
  go_wp2_with fail
  refine (K.out _).mono ?_
  rintro e w2 ⟨rfl, hb2⟩
  go_wp2
  go_ret
  exact ⟨rfl, hb1.trans (hb2.mono hb1.size)⟩

theorem lists_walk (sa : Option Addr) (B off cap n : Nat) (P Q : Nat → Int) (w : World) (ha : 0 < n → sa = some ⟨B, off, none⟩ ∧ B < w.heap.size)
    (hx : ∀ k, k < n → w.cell? ⟨B, off + k * 2, none⟩ = some (.int .i16 (P k)) ∧ w.cell? ⟨B, off + k * 2 + 1, none⟩ = some (.int .u8 (Q k)))
    (hb : ∀ k, k < n → (-32768 ≤ P k ∧ P k ≤ 32767) ∧ 0 ≤ Q k ∧ Q k ≤ 255) :
    Calls Tryd.prog 4 #[.slice sa n cap] w fun e w' => e = .returned (.bool true) ∧ Below w.heap.size w w' := by
  by_cases hn : n ≤ 8
  · exact lists_law sa B off cap n P Q (fun k => FracMath.sn (P k) (Q k)) (fun k => FracMath.sd (P k) (Q k)) w hn ha hx
      (fun k hk W => small_any _ _ W (hb k hk).1.1 (hb k hk).1.2 (hb k hk).2.1 (hb k hk).2.2)
      (fun k hk => FracMath.small_right (hb k hk).1.1 (hb k hk).1.2 (hb k hk).2.1 (hb k hk).2.2)
  · exact lists_long sa cap n w (by omega)
end Go.Proofs.YtoeacbmlodfciaaDoor
