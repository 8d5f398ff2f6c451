/- Contract of Named: the listed table of names. -/
import Derived.Test.YthdoadkdofgenaaGreatDoorIvO
import Derived.Lib.Hide
namespace Go.Proofs.YthdoadkdofgenaaGreatDoor
open Go Go.RowKit Go.Shelf

/-- The names with their exponents. -/
def NL : List (ByteArray × Int × Int × Int) := [(⟨#[117, 110, 105, 115, 111, 110]⟩, 0, 0, 0), (⟨#[111, 99, 116, 97, 118, 101]⟩, 1, 0, 0), (⟨#[102, 105, 102, 116, 104]⟩, -1, 1, 0), (⟨#[102, 111, 117, 114, 116, 104]⟩, 2, -1, 0), (⟨#[116, 104, 105, 114, 100]⟩, -2, 0, 1), (⟨#[109, 105, 110, 111, 114]⟩, 1, 1, -1), (⟨#[116, 111, 110, 101]⟩, -3, 2, 0), (⟨#[115, 121, 110, 116, 111, 110, 105, 99]⟩, -4, 4, -1), (⟨#[112, 121, 116, 104, 97, 103, 111, 114, 101, 97, 110]⟩, -19, 12, 0), (⟨#[115, 99, 104, 105, 115, 109, 97]⟩, -15, 8, 1), (⟨#[100, 105, 101, 115, 105, 115]⟩, 7, 0, -3)]
def namesC : Array Value := #[.string ⟨#[117, 110, 105, 115, 111, 110]⟩, .int .i64 0, .int .i64 0, .int .i64 0, .string ⟨#[111, 99, 116, 97, 118, 101]⟩, .int .i64 1, .int .i64 0, .int .i64 0, .string ⟨#[102, 105, 102, 116, 104]⟩, .int .i64 (-1), .int .i64 1, .int .i64 0, .string ⟨#[102, 111, 117, 114, 116, 104]⟩, .int .i64 2, .int .i64 (-1), .int .i64 0, .string ⟨#[116, 104, 105, 114, 100]⟩, .int .i64 (-2), .int .i64 0, .int .i64 1, .string ⟨#[109, 105, 110, 111, 114]⟩, .int .i64 1, .int .i64 1, .int .i64 (-1), .string ⟨#[116, 111, 110, 101]⟩, .int .i64 (-3), .int .i64 2, .int .i64 0, .string ⟨#[115, 121, 110, 116, 111, 110, 105, 99]⟩, .int .i64 (-4), .int .i64 4, .int .i64 (-1), .string ⟨#[112, 121, 116, 104, 97, 103, 111, 114, 101, 97, 110]⟩, .int .i64 (-19), .int .i64 12, .int .i64 0, .string ⟨#[115, 99, 104, 105, 115, 109, 97]⟩, .int .i64 (-15), .int .i64 8, .int .i64 1, .string ⟨#[100, 105, 101, 115, 105, 115]⟩, .int .i64 7, .int .i64 0, .int .i64 (-3)]
/-- The table of names lies as it was laid. -/
def Nm (W : World) : Prop := ∃ T fr, W.heap[0]? = some (.cells namesC T fr)
theorem Nm.below {w w' : World} (h : Nm w) (hb : Below w.heap.size w w') : Nm w' := by
  obtain ⟨T, fr, h⟩ := h
  exact ⟨T, fr, (hb.block _ (Array.getElem?_eq_some_iff.1 h).1).trans h⟩
theorem nidx : ∀ (k : Nat), k < 11 → ∃ (s : ByteArray) (x y z : Int), NL.drop k = (s, x, y, z) :: NL.drop (k + 1) ∧ (-100 ≤ x ∧ x ≤ 100 ∧ -100 ≤ y ∧ y ≤ 100 ∧ -100 ≤ z ∧ z ≤ 100) ∧ ∀ W, Sem.run Tryz.prog (Instr.index 91 (.agg namesC) (.int .i64 (k : Int))) W = .ok (.agg #[.string s, .int .i64 x, .int .i64 y, .int .i64 z]) W
  | 0, _ => ⟨⟨#[117, 110, 105, 115, 111, 110]⟩, 0, 0, 0, rfl, by decide, fun W => by kernel_rfl⟩
  | 1, _ => ⟨⟨#[111, 99, 116, 97, 118, 101]⟩, 1, 0, 0, rfl, by decide, fun W => by kernel_rfl⟩
  | 2, _ => ⟨⟨#[102, 105, 102, 116, 104]⟩, -1, 1, 0, rfl, by decide, fun W => by kernel_rfl⟩
  | 3, _ => ⟨⟨#[102, 111, 117, 114, 116, 104]⟩, 2, -1, 0, rfl, by decide, fun W => by kernel_rfl⟩
  | 4, _ => ⟨⟨#[116, 104, 105, 114, 100]⟩, -2, 0, 1, rfl, by decide, fun W => by kernel_rfl⟩
  | 5, _ => ⟨⟨#[109, 105, 110, 111, 114]⟩, 1, 1, -1, rfl, by decide, fun W => by kernel_rfl⟩
  | 6, _ => ⟨⟨#[116, 111, 110, 101]⟩, -3, 2, 0, rfl, by decide, fun W => by kernel_rfl⟩
  | 7, _ => ⟨⟨#[115, 121, 110, 116, 111, 110, 105, 99]⟩, -4, 4, -1, rfl, by decide, fun W => by kernel_rfl⟩
  | 8, _ => ⟨⟨#[112, 121, 116, 104, 97, 103, 111, 114, 101, 97, 110]⟩, -19, 12, 0, rfl, by decide, fun W => by kernel_rfl⟩
  | 9, _ => ⟨⟨#[115, 99, 104, 105, 115, 109, 97]⟩, -15, 8, 1, rfl, by decide, fun W => by kernel_rfl⟩
  | 10, _ => ⟨⟨#[100, 105, 101, 115, 105, 115]⟩, 7, 0, -3, rfl, by decide, fun W => by kernel_rfl⟩
  | k + 11, h => by omega

/-- The first size with a name. -/
def nmF (s : ByteArray) : Option (ByteArray × Int × Int × Int) := NL.find? (fun r => decide (r.1.data.toList = s.data.toList))
def nmN (i : Nat) (s : ByteArray) : Int := match nmF s with | some (_, x, y, z) => szN (if i = 0 then x else if i = 1 then y else z) x y z 1 | none => 0
def nmD (i : Nat) (s : ByteArray) : Int := match nmF s with | some (_, x, y, z) => szD (if i = 0 then x else if i = 1 then y else z) x y z 1 | none => 0
def nmE (s : ByteArray) : Int := match nmF s with | some (_, x, y, z) => szE x y z 1 | none => 10
theorem nmV_some {s : ByteArray} {t : ByteArray} {x y z : Int} (h : nmF s = some (t, x, y, z)) : nmN 0 s = szN x x y z 1 ∧ nmD 0 s = szD x x y z 1 ∧ nmN 1 s = szN y x y z 1 ∧ nmD 1 s = szD y x y z 1 ∧ nmN 2 s = szN z x y z 1 ∧ nmD 2 s = szD z x y z 1 ∧ nmE s = szE x y z 1 := by
  unfold nmN nmD nmE
  rw [h]
  exact ⟨rfl, rfl, rfl, rfl, rfl, rfl, rfl⟩
theorem nmV_none {s : ByteArray} (h : nmF s = none) : nmN 0 s = 0 ∧ nmD 0 s = 0 ∧ nmN 1 s = 0 ∧ nmD 1 s = 0 ∧ nmN 2 s = 0 ∧ nmD 2 s = 0 ∧ nmE s = 10 := by
  unfold nmN nmD nmE
  rw [h]
  exact ⟨rfl, rfl, rfl, rfl, rfl, rfl, rfl⟩
set_option maxRecDepth 10000 in
set_option maxHeartbeats 4000000 in
theorem ivnamed_any (s : ByteArray) (w : World) (N : Nm w) :
    Calls Tryz.prog 24 #[.string s] w fun e w' => e = .returned (.tuple #[.agg #[.int .i64 (nmN 0 s), .int .i64 (nmD 0 s), .int .i64 (nmN 1 s), .int .i64 (nmD 1 s), .int .i64 (nmN 2 s), .int .i64 (nmD 2 s)], .int .i64 (nmE s)]) ∧ Below w.heap.size w w' := by
  obtain ⟨D, hD⟩ : ∃ D, w.heap.size = D := ⟨_, rfl⟩
  have VS := Lib.hid (fun t x y z h => nmV_some (s := s) (t := t) (x := x) (y := y) (z := z) h)
  have VN := Lib.hid (fun h => nmV_none (s := s) h)
  have hF0 : (NL.drop 0).find? (fun r => decide (r.1.data.toList = s.data.toList)) = nmF s := rfl
  generalize nmN 0 s = p0 at *
  generalize nmD 0 s = q0 at *
  generalize nmN 1 s = p1 at *
  generalize nmD 1 s = q1 at *
  generalize nmN 2 s = p2 at *
  generalize nmD 2 s = q2 at *
  generalize nmE s = re at *
  generalize nmF s = RF at *
  have HF0 := Lib.hid hF0
  obtain ⟨TN, fr, hN1⟩ := N.below ((Below.refl _ w).alloc (Nat.le_refl _) (.cells #[.int .i64 0, .int .i64 0, .int .i64 0, .int .i64 0, .int .i64 0, .int .i64 0] 25))
  clear hF0
  go_enter Tryz.func24, Tryz.ntmps24
  go_wp2_with (refine wpList_load_row rfl 91 _ rfl 0 rfl TN _ fr _ hN1 Tryz.underlying91 rfl (by kernel_rfl) ?_)
  obtain ⟨V, hV⟩ : ∃ V, (w.alloc (.cells #[.int .i64 0, .int .i64 0, .int .i64 0, .int .i64 0, .int .i64 0, .int .i64 0] 25)) = V := ⟨_, rfl⟩
  have hwV : Below D w V := by rw [← hV]; exact (Below.refl _ w).alloc (by omega) _
  have h0V : V.heap[D]? = some (.cells #[.int .i64 0, .int .i64 0, .int .i64 0, .int .i64 0, .int .i64 0, .int .i64 0] 25) := by rw [← hV]; exact heap_new hD.symm
  rw [hV]
  clear hV hN1
  go_loopw [7] (fun i wr => ∃ k : Nat, k ≤ 11 ∧ i = .int .i64 (k : Int) ∧ (NL.drop k).find? (fun r => decide (r.1.data.toList = s.data.toList)) = RF ∧ Below D w wr ∧ wr.heap[D]? = some (.cells #[.int .i64 0, .int .i64 0, .int .i64 0, .int .i64 0, .int .i64 0, .int .i64 0] 25)) (fun i _ => 11 - (intOf i).toNat)
  case atStart => exact ⟨0, by omega, rfl, HF0.out, hwV, h0V⟩
  case round =>
    obtain ⟨k, hk, rfl, hf, hw, h0⟩ := hrel
    clear hwV h0V HF0
    by_cases h11 : k < 11
    · have hki : (k : Int) < 11 := by omega
      obtain ⟨t, x, y, zz, hd, hbd, hix⟩ := nidx k h11
      rw [hd, List.find?_cons] at hf
      have hxk := hix wr
      obtain ⟨E, hE0⟩ : ∃ E, wr.heap.size = E := ⟨_, rfl⟩
      have hDn := (Array.getElem?_eq_some_iff.1 h0).1
      by_cases hts : t.data.toList = s.data.toList
      · have hb : (t.toList == s.toList) = true := by rw [Lib.toList_data, Lib.toList_data, beq_iff_eq]; exact hts
        simp only [hts, decide_true] at hf
        obtain ⟨e0, e1, e2, e3, e4, e5, e6⟩ := VS.out _ _ _ _ hf.symm
        have WH := Lib.hid (fun W => ivwhole_any x y zz W (by omega) (by omega) (by omega) (by omega) (by omega) (by omega))
        rw [← e0, ← e1, ← e2, ← e3, ← e4, ← e5, ← e6] at WH
        clear e0 e1 e2 e3 e4 e5 e6
        clear hf hd hbd
        go_wp2_with fail
        refine (WH.out _).mono ?_
        rintro e w1 ⟨rfl, hb1⟩
        have h1a := heap_old (o := .cells #[.string t, .int .i64 x, .int .i64 y, .int .i64 zz] 90) h0
        have hw1a := hw.alloc (by have := hw.size; omega) (.cells #[.string t, .int .i64 x, .int .i64 y, .int .i64 zz] 90)
        have h1 := (hb1.block D (Array.getElem?_eq_some_iff.1 h1a).1).trans h1a
        have hw1 := hw1a.trans (hb1.mono (by have := hw1a.size; omega))
        have r0 := cell6_0 h1
        have f0 := free6_0 h1
        have r1 := cell6_1 h1
        have f1 := free6_1 h1
        have r2 := cell6_2 h1
        have f2 := free6_2 h1
        have r3 := cell6_3 h1
        have f3 := free6_3 h1
        have r4 := cell6_4 h1
        have f4 := free6_4 h1
        have r5 := cell6_5 h1
        have f5 := free6_5 h1
        obtain ⟨U, hU⟩ : ∃ U, ((((((w1.setCell ⟨D, 0, none⟩ (.int .i64 p0)).setCell ⟨D, 1, none⟩ (.int .i64 q0)).setCell ⟨D, 2, none⟩ (.int .i64 p1)).setCell ⟨D, 3, none⟩ (.int .i64 q1)).setCell ⟨D, 4, none⟩ (.int .i64 p2)).setCell ⟨D, 5, none⟩ (.int .i64 q2)) = U := ⟨_, rfl⟩
        have HW := Lib.hid (show Below D w U by rw [← hU]; exact ((((((hw1.setCell (p := ⟨D, 0, none⟩) (show D ≤ D by omega) (.int .i64 p0)).setCell (p := ⟨D, 1, none⟩) (show D ≤ D by omega) (.int .i64 q0)).setCell (p := ⟨D, 2, none⟩) (show D ≤ D by omega) (.int .i64 p1)).setCell (p := ⟨D, 3, none⟩) (show D ≤ D by omega) (.int .i64 q1)).setCell (p := ⟨D, 4, none⟩) (show D ≤ D by omega) (.int .i64 p2)).setCell (p := ⟨D, 5, none⟩) (show D ≤ D by omega) (.int .i64 q2)))
        have hE : U.heap[D]? = some (.cells #[.int .i64 p0, .int .i64 q0, .int .i64 p1, .int .i64 q1, .int .i64 p2, .int .i64 q2] 25) := by rw [← hU]; exact (set6_5 (x := .int .i64 q2) (set6_4 (x := .int .i64 p2) (set6_3 (x := .int .i64 q1) (set6_2 (x := .int .i64 p1) (set6_1 (x := .int .i64 q0) (set6_0 (x := .int .i64 p0) h1))))))
        have HU := Lib.hid hU
        have z0 := cell6_0 hE
        have z1 := cell6_1 hE
        have z2 := cell6_2 hE
        have z3 := cell6_3 hE
        have z4 := cell6_4 hE
        have z5 := cell6_5 hE
        clear hE hU h1 h1a hw1 hw1a hb1 h0 hw hxk hix
        go_wp2
        rw [HU.out]
        refine bodyPost_ret (v := .tuple #[.agg #[.int .i64 p0, .int .i64 q0, .int .i64 p1, .int .i64 q1, .int .i64 p2, .int .i64 q2], .int .i64 re]) (by simp [results, Tryz.results24, go_sem, z0, z1, z2, z3, z4, z5]) rfl ⟨rfl, by first | exact HW.out | (rw [hD]; exact HW.out)⟩
      · have hb : (t.toList == s.toList) = false := by rw [Lib.toList_data, Lib.toList_data, beq_eq_false_iff_ne]; exact hts
        simp only [hts, decide_false] at hf
        have HF := Lib.hid hf
        have HW := Lib.hid (hw.alloc (by have := hw.size; omega) (.cells #[.string t, .int .i64 x, .int .i64 y, .int .i64 zz] 90))
        have H0 := Lib.hid (heap_old (o := .cells #[.string t, .int .i64 x, .int .i64 y, .int .i64 zz] 90) h0)
        clear hf hd h0 hw
        go_wp2
        exact ⟨⟨k + 1, by omega, by go_num, HF.out, HW.out, H0.out⟩, by simp [intOf]; omega⟩
    · have hki : ¬ ((k : Int) < 11) := by omega
      have hk11 : k = 11 := by omega
      have hf0 : RF = none := by rw [← hf, hk11]; rfl
      obtain ⟨e0, e1, e2, e3, e4, e5, e6⟩ := VN.out hf0
      subst e0 e1 e2 e3 e4 e5 e6
      clear hf hf0
      have hw1 := hw
      have r0 := cell6_0 h0
      have f0 := free6_0 h0
      have r1 := cell6_1 h0
      have f1 := free6_1 h0
      have r2 := cell6_2 h0
      have f2 := free6_2 h0
      have r3 := cell6_3 h0
      have f3 := free6_3 h0
      have r4 := cell6_4 h0
      have f4 := free6_4 h0
      have r5 := cell6_5 h0
      have f5 := free6_5 h0
      obtain ⟨U, hU⟩ : ∃ U, ((((((wr.setCell ⟨D, 0, none⟩ (.int .i64 0)).setCell ⟨D, 1, none⟩ (.int .i64 0)).setCell ⟨D, 2, none⟩ (.int .i64 0)).setCell ⟨D, 3, none⟩ (.int .i64 0)).setCell ⟨D, 4, none⟩ (.int .i64 0)).setCell ⟨D, 5, none⟩ (.int .i64 0)) = U := ⟨_, rfl⟩
      have HW := Lib.hid (show Below D w U by rw [← hU]; exact ((((((hw1.setCell (p := ⟨D, 0, none⟩) (show D ≤ D by omega) (.int .i64 0)).setCell (p := ⟨D, 1, none⟩) (show D ≤ D by omega) (.int .i64 0)).setCell (p := ⟨D, 2, none⟩) (show D ≤ D by omega) (.int .i64 0)).setCell (p := ⟨D, 3, none⟩) (show D ≤ D by omega) (.int .i64 0)).setCell (p := ⟨D, 4, none⟩) (show D ≤ D by omega) (.int .i64 0)).setCell (p := ⟨D, 5, none⟩) (show D ≤ D by omega) (.int .i64 0)))
      have hE : U.heap[D]? = some (.cells #[.int .i64 0, .int .i64 0, .int .i64 0, .int .i64 0, .int .i64 0, .int .i64 0] 25) := by rw [← hU]; exact (set6_5 (x := .int .i64 0) (set6_4 (x := .int .i64 0) (set6_3 (x := .int .i64 0) (set6_2 (x := .int .i64 0) (set6_1 (x := .int .i64 0) (set6_0 (x := .int .i64 0) h0))))))
      have HU := Lib.hid hU
      have z0 := cell6_0 hE
      have z1 := cell6_1 hE
      have z2 := cell6_2 hE
      have z3 := cell6_3 hE
      have z4 := cell6_4 hE
      have z5 := cell6_5 hE
      clear hE hU h0 hw hw1
      go_wp2
      rw [HU.out]
      refine bodyPost_ret (v := .tuple #[.agg #[.int .i64 0, .int .i64 0, .int .i64 0, .int .i64 0, .int .i64 0, .int .i64 0], .int .i64 10]) (by simp [results, Tryz.results24, go_sem, z0, z1, z2, z3, z4, z5]) rfl ⟨rfl, by first | exact HW.out | (rw [hD]; exact HW.out)⟩
end Go.Proofs.YthdoadkdofgenaaGreatDoor
