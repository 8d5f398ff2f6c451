/- solve: all rows are given columns, with a proof. -/
import Derived.Test.YtojgfpnecdngfaaMtG
import Derived.Test.YtojgfpnecdngfaaMtSum
namespace Go.Proofs.Ytojgfpnecdngfaa
open Go Go.RowKit Go.Shelf

/-- How many columns the first row has. -/
def wid (m : Nat) (L : Nat → Nat) : Nat := if m = 0 then 0 else L 0
theorem width_c (m B : Nat) (A : Option Addr) (cm : Nat) (L : Nat → Nat) (f : Nat → Nat → Int) (w : World) (hm : m ≤ 9223372036854775807) (hT : Tb w B A m L f) :
    Calls Try.prog 42 #[.slice A m cm] w fun e w' => e = .returned (.int .i64 ((wid m L : Nat) : Int)) ∧ w = w' := by
  by_cases h0 : m = 0
  · have e : wid m L = 0 := if_pos h0
    have hm0 : ((m : Int) == 0) = true := by simp [h0]
    rw [e]
    clear h0 e hT
    go_enter Try.func42, Try.ntmps42
    go_wp2
    go_ret
    exact ⟨rfl, rfl⟩
  · have e : wid m L = L 0 := if_neg h0
    obtain ⟨a, Ai, ci, rfl, _, h1, _⟩ := hT 0 (by omega)
    have h1' : w.cell? a = some (.slice Ai (L 0) ci) := by simpa [Addr.add] using h1
    have hm0 : ((m : Int) == 0) = false := by simp [h0]
    have hmi : (0 : Int) < (m : Int) := by omega
    obtain ⟨l, hl⟩ : ∃ l, L 0 = l := ⟨_, rfl⟩
    rw [e, hl]
    rw [hl] at h1 h1'
    clear h0 e hT hl
    go_enter Try.func42, Try.ntmps42
    go_wp2
    go_ret
    exact ⟨rfl, rfl⟩

/-- What has come up in the region that makes the search. -/
def soI (D m n : Nat) (A : Option Addr) (cm : Nat) : Nat → Value → World → Prop
  | 0, v, _ => v = .slice A m cm
  | 1, v, _ => v = .slice A m cm
  | 2, v, _ => v = .int .i64 (m : Int)
  | 3, v, W => ∃ g, v = .slice (some ⟨g, 0, none⟩) m m ∧ D ≤ g ∧ IR W g m (fun _ => 0)
  | 4, v, _ => v = .slice A m cm
  | 5, v, _ => v = .int .i64 (n : Int)
  | 6, v, W => ∃ g, v = .slice (some ⟨g, 0, none⟩) n n ∧ D ≤ g ∧ IR W g n (fun _ => 0)
  | 7, v, W => ∃ xb, v = .slice (some ⟨xb, 0, none⟩) 1 1 ∧ xb < W.heap.size ∧ W.cell? ⟨xb, 0, none⟩ = some (.int .i64 (-1))
  | 8, v, _ => v = .slice A m cm
  | 9, v, _ => v = .int .i64 (n : Int)
  | 10, v, W => ∃ g, v = .slice (some ⟨g, 0, none⟩) n n ∧ D ≤ g ∧ IR W g n (fun _ => -1)
  | 11, v, W => ∃ gR gC gO, v = .agg #[.slice A m cm, .slice (some ⟨gR, 0, none⟩) m m, .slice (some ⟨gC, 0, none⟩) n n, .slice (some ⟨gO, 0, none⟩) n n] ∧ (D ≤ gR ∧ D ≤ gC ∧ D ≤ gO ∧ gR ≠ gC) ∧ IR W gR m (fun _ => 0) ∧ IR W gC n (fun _ => 0) ∧ IR W gO n (fun _ => -1)
  | 12, v, W => ∃ b, v = .pointer (some ⟨b, 0, none⟩) ∧ D ≤ b ∧ W.heap[b]? = some (.cells #[.slice none 0 0, .slice none 0 0, .slice none 0 0, .slice none 0 0] 75)
  | _, _, _ => True
theorem soI_up (D m n : Nat) (A : Option Addr) (cm : Nat) : ∀ (j : Nat) (v : Value) (X Y : World), Below X.heap.size X Y → soI D m n A cm j v X → soI D m n A cm j v Y
  | 0, _, _, _, _, h => h
  | 1, _, _, _, _, h => h
  | 2, _, _, _, _, h => h
  | 3, _, _, _, hb, ⟨g, h1, h2, h3⟩ => ⟨g, h1, h2, row_below h3 hb⟩
  | 4, _, _, _, _, h => h
  | 5, _, _, _, _, h => h
  | 6, _, _, _, hb, ⟨g, h1, h2, h3⟩ => ⟨g, h1, h2, row_below h3 hb⟩
  | 7, _, _, _, hb, ⟨xb, h1, h2, h3⟩ => ⟨xb, h1, Nat.lt_of_lt_of_le h2 hb.size, (hb.cell (p := ⟨xb, 0, none⟩) h2).trans h3⟩
  | 8, _, _, _, _, h => h
  | 9, _, _, _, _, h => h
  | 10, _, _, _, hb, ⟨g, h1, h2, h3⟩ => ⟨g, h1, h2, row_below h3 hb⟩
  | 11, _, _, _, hb, ⟨gR, gC, gO, h1, h2, h3, h4, h5⟩ => ⟨gR, gC, gO, h1, h2, row_below h3 hb, row_below h4 hb, row_below h5 hb⟩
  | 12, _, _, _, hb, ⟨b, h1, h2, h3⟩ => ⟨b, h1, h2, (hb.block b (Array.getElem?_eq_some_iff.1 h3).1).trans h3⟩
  | _ + 13, _, _, _, _, _ => trivial
def soFin (w : World) (m n : Nat) (A : Option Addr) (cm : Nat) (ys : Nat → Value) (W : World) : Prop := ∃ gR gC gO b, ys 12 = .pointer (some ⟨b, 0, none⟩) ∧ (w.heap.size ≤ gR ∧ w.heap.size ≤ gC ∧ w.heap.size ≤ gO ∧ w.heap.size ≤ b ∧ gR ≠ gC) ∧
  IR W gR m (fun _ => 0) ∧ IR W gC n (fun _ => 0) ∧ IR W gO n (fun _ => -1) ∧ W.heap[b]? = some (searchO A cm gR gC gO m n) ∧ Below w.heap.size w W
theorem box_soI {D : Nat} (m n : Nat) (A : Option Addr) (cm : Nat) (W : World) : soI D m n A cm 7 (.slice (some ⟨W.heap.size, 0, none⟩) 1 1) (W.alloc (.cells #[.int .i64 (-1)] 3)) := ⟨_, rfl, by simp, by simp⟩
theorem set_fourM {W : World} {b : Nat} {T : TypeId} {x y z u x' y' z' u' : Value} (h : W.heap[b]? = some (.cells #[x, y, z, u] T)) : ((((W.setCell ⟨b, 0, none⟩ x').setCell ⟨b, 1, none⟩ y').setCell ⟨b, 2, none⟩ z').setCell ⟨b, 3, none⟩ u').heap[b]? = some (.cells #[x', y', z', u'] T) := by
  simp [World.setCell, Array.getElem?_modify, h]
/-- Two slices in different blocks. -/
def ApartV (u v : Value) : Prop := ∀ g g' k l k' l', u = .slice (some ⟨g, 0, none⟩) k l → v = .slice (some ⟨g', 0, none⟩) k' l' → g ≠ g'
theorem new_ne {W : World} {g n k l : Nat} {t : TypeId} {f : Nat → Value} (h : W.rowIs g t n f) : ApartV (.slice (some ⟨W.heap.size, 0, none⟩) k l) (.slice (some ⟨g, 0, none⟩) n n) := by
  intro a b _ _ _ _ e1 e2
  injection e1 with e1
  injection e1 with e1
  injection e1 with e1
  injection e2 with e2
  injection e2 with e2
  injection e2 with e2
  have := h.lt
  omega
theorem new_ne' {W : World} {g n k l : Nat} {t : TypeId} {f : Nat → Value} (h : W.rowIs g t n f) : ApartV (.slice (some ⟨g, 0, none⟩) n n) (.slice (some ⟨W.heap.size, 0, none⟩) k l) :=
  fun a b _ _ _ _ e1 e2 => Ne.symm (new_ne h b a _ _ _ _ e2 e1)
/-- What has come up in the region that makes the result. -/
def rsI (D m n gR gC Sb : Nat) (A : Option Addr) (cm : Nat) : Nat → Value → World → Prop
  | 0, v, _ => v = .slice A m cm
  | 1, v, _ => v = .int .i64 (m : Int)
  | 2, v, W => ∃ g, v = .slice (some ⟨g, 0, none⟩) m m ∧ D ≤ g ∧ IR W g m (fun _ => 0)
  | 3, v, _ => v = .pointer (some ⟨Sb, 1, none⟩)
  | 4, v, _ => v = .slice (some ⟨gR, 0, none⟩) m m
  | 5, v, _ => v = .pointer (some ⟨Sb, 2, none⟩)
  | 6, v, _ => v = .slice (some ⟨gC, 0, none⟩) n n
  | 7, v, W => ∃ g, v = .agg #[.slice (some ⟨g, 0, none⟩) m m, .int .i64 0, .slice (some ⟨gR, 0, none⟩) m m, .slice (some ⟨gC, 0, none⟩) n n] ∧ D ≤ g ∧ IR W g m (fun _ => 0)
  | 8, v, W => ∃ b, v = .pointer (some ⟨b, 0, none⟩) ∧ D ≤ b ∧ W.heap[b]? = some (.cells #[.slice none 0 0, .int .i64 0, .slice none 0 0, .slice none 0 0] 29)
  | _, _, _ => True
theorem rsI_up (D m n gR gC Sb : Nat) (A : Option Addr) (cm : Nat) : ∀ (j : Nat) (v : Value) (X Y : World), Below X.heap.size X Y → rsI D m n gR gC Sb A cm j v X → rsI D m n gR gC Sb A cm j v Y
  | 0, _, _, _, _, h => h
  | 1, _, _, _, _, h => h
  | 2, _, _, _, hb, ⟨g, h1, h2, h3⟩ => ⟨g, h1, h2, row_below h3 hb⟩
  | 3, _, _, _, _, h => h
  | 4, _, _, _, _, h => h
  | 5, _, _, _, _, h => h
  | 6, _, _, _, _, h => h
  | 7, _, _, _, hb, ⟨g, h1, h2, h3⟩ => ⟨g, h1, h2, row_below h3 hb⟩
  | 8, _, _, _, hb, ⟨b, h1, h2, h3⟩ => ⟨b, h1, h2, (hb.block b (Array.getElem?_eq_some_iff.1 h3).1).trans h3⟩
  | _ + 9, _, _, _, _, _ => trivial
def rsFin (w : World) (m n gR gC : Nat) (ys : Nat → Value) (W : World) : Prop := ∃ gX b, ys 8 = .pointer (some ⟨b, 0, none⟩) ∧ (w.heap.size ≤ gX ∧ w.heap.size ≤ b) ∧
  IR W gX m (fun _ => 0) ∧ W.heap[b]? = some (.cells #[.slice (some ⟨gX, 0, none⟩) m m, .int .i64 0, .slice (some ⟨gR, 0, none⟩) m m, .slice (some ⟨gC, 0, none⟩) n n] 29) ∧ Below w.heap.size w W

theorem toX_bd {cost : Nat → Nat → Int} {o : Nat → Int} {n m : Nat} (hc : ∀ i k, i < m → k < n → -1000000000 ≤ cost i k ∧ cost i k ≤ 1000000000) (ho : ∀ k, k < n → o k = -1 ∨ (0 ≤ o k ∧ o k < m)) :
    ∀ {j : Nat}, j ≤ n → -(1000000000 * (j : Int)) ≤ Mt.toX cost o j ∧ Mt.toX cost o j ≤ 1000000000 * (j : Int)
  | 0, _ => by have e : Mt.toX cost o 0 = 0 := rfl
               rw [e]; simp
  | j + 1, h => by
    have ih := toX_bd hc ho (j := j) (by omega)
    have e : Mt.toX cost o (j + 1) = Mt.toX cost o j + (if o j ≠ -1 then cost (o j).toNat j else 0) := rfl
    rw [e]
    by_cases hoj : o j = -1
    · rw [if_neg (fun h => h hoj)]; push_cast; omega
    · rw [if_pos hoj]
      have h1 := hc (o j).toNat j (by rcases ho j (by omega) with h | h <;> omega) (by omega)
      push_cast; omega
theorem inv_start {cost : Nat → Nat → Int} {n : Nat} : Mt.Inv cost n 0 (fun _ => 0) (fun _ => 0) (fun _ => -1) :=
  ⟨fun _ _ => .inl rfl, fun k l _ _ h _ => absurd h (by simp), fun i hi => absurd hi (by omega), fun i k hi => absurd hi (by omega), fun i k _ h => by omega, fun _ _ => Int.le_refl _, fun _ _ _ => rfl, fun i hi => absurd hi (by omega), fun _ _ => by simp⟩
set_option maxRecDepth 100000 in
set_option maxHeartbeats 4000000 in
theorem solve_c (m n B : Nat) (A : Option Addr) (cm : Nat) (cost : Nat → Nat → Int) (w : World)
    (hm : m ≤ 400) (hn : n ≤ 1000) (hmn : m ≤ n) (h0 : m = 0 → n = 0) (hT : Tb w B A m (fun _ => n) cost) (hB : B ≤ w.heap.size) (hcost : ∀ i k, i < m → k < n → -1000000000 ≤ cost i k ∧ cost i k ≤ 1000000000) :
    Calls Try.prog 33 #[.slice A m cm] w fun e w' => ∃ gX gR gC col r c tot, e = .returned (.agg #[.slice (some ⟨gX, 0, none⟩) m m, .int .i64 tot, .slice (some ⟨gR, 0, none⟩) m m, .slice (some ⟨gC, 0, none⟩) n n]) ∧
      IR w' gX m col ∧ IR w' gR m r ∧ IR w' gC n c ∧ (w.heap.size ≤ gX ∧ w.heap.size ≤ gR ∧ w.heap.size ≤ gC ∧ gX ≠ gR ∧ gX ≠ gC ∧ gR ≠ gC) ∧ Mt.Sol m n cost col r c tot ∧ Below w.heap.size w w' := by
  have hwid : wid m (fun _ => n) = n := by
    unfold wid
    by_cases h : m = 0
    · rw [if_pos h, h0 h]
    · rw [if_neg h]
  have W0 := Lib.hid (fun W (hb : Below w.heap.size w W) => width_c m B A cm (fun _ => n) cost W (by omega) (hT.below hb hB))
  rw [hwid] at W0
  have REP := Lib.hid (fun xb W hx hl => repeat_c xb n (-1) W (by omega) hx hl)
  have MI := Lib.hid (fun W => hmk_int m (by omega) W)
  have MN := Lib.hid (fun W => hmk_int n (by omega) W)
  have HT := Lib.hid hT
  have HCO := Lib.hid hcost
  have H00 := Lib.hid h0
  clear hT hcost hwid h0
  obtain ⟨w1, hw1⟩ : ∃ w1, w.alloc (.cells #[.slice none 0 0, .int .i64 0, .slice none 0 0, .slice none 0 0] 29) = w1 := ⟨_, rfl⟩
  have hb1 : Below w.heap.size w w1 := by rw [← hw1]; exact (Below.refl _ _).alloc (Nat.le_refl _) _
  have hres : w1.heap[w.heap.size]? = some (.cells #[.slice none 0 0, .int .i64 0, .slice none 0 0, .slice none 0 0] 29) := by rw [← hw1]; exact heap_newM _ _
  have zr : w.heap.size < w1.heap.size := by rw [← hw1]; simp
  have HB1 := Lib.hid (And.intro hb1 hres)
  clear hb1 hres
  go_enter Try.func33, Try.ntmps33
  go_wp2_with fail
  try rw [hw1]
  refine wp_region_slots_at rfl rfl (fun base ys => ((((((((((((base.set 8 (ys 0)).set 9 (ys 1)).set 10 (ys 2)).set 11 (ys 3)).set 12 (ys 4)).set 13 (ys 5)).set 14 (ys 6)).set 15 (ys 7)).set 16 (ys 8)).set 17 (ys 9)).set 18 (ys 10)).set 19 (ys 11)).set 3 (ys 12)) (LastZ ApartV 3 6 _ (Below w1.heap.size w1) (soI w1.heap.size m n A cm) (soFin w1 m n A cm)) (fun _ => undef) (by kernel_rfl) (z_start (by decide) (by decide) (Below.refl w1.heap.size w1).drew) ?h
  case h =>
    intro F hF
    simp only [List.set_cons_succ, List.set_cons_zero] at hF
    subst hF
    refine ⟨rfl, ?_, ?_⟩
    refine ⟨?_, ?_⟩
    · refine SlotStep.zB (by decide) (by decide) (by decide) (by kernel_rfl) rfl (by decide) (fun A B hb h => h.trans (hb.mono h.size)) (soI_up w1.heap.size m n A cm) ?_
      intro ys W hR hd hpr K hK
      go_simp
      have hK2 := hK (.slice A m cm) _ (Below.refl _ _) (rfl) (fun h => absurd h (by decide)) (fun h => absurd h (by decide))
      simp (config := { decide := true }) only [upd, if_true, if_false] at hK2
      exact hK2
    refine ⟨?_, ?_⟩
    · refine SlotStep.zB (by decide) (by decide) (by decide) (by kernel_rfl) rfl (by decide) (fun A B hb h => h.trans (hb.mono h.size)) (soI_up w1.heap.size m n A cm) ?_
      intro ys W hR hd hpr K hK
      go_simp
      have hK2 := hK (.slice A m cm) _ (Below.refl _ _) (rfl) (fun h => absurd h (by decide)) (fun h => absurd h (by decide))
      simp (config := { decide := true }) only [upd, if_true, if_false] at hK2
      exact hK2
    refine ⟨?_, ?_⟩
    · refine SlotStep.zB (by decide) (by decide) (by decide) (by kernel_rfl) rfl (by decide) (fun A B hb h => h.trans (hb.mono h.size)) (soI_up w1.heap.size m n A cm) ?_
      intro ys W hR hd hpr K hK
      have d1 : ys 1 = .slice A m cm := hd 1 (by kernel_rfl) (by decide)
      go_simp
      have hK2 := hK (.int .i64 (m : Int)) _ (Below.refl _ _) (rfl) (fun h => absurd h (by decide)) (fun h => absurd h (by decide))
      simp (config := { decide := true }) only [upd, if_true, if_false, d1] at hK2
      exact hK2
    refine ⟨?_, ?_⟩
    · refine SlotStep.zB (by decide) (by decide) (by decide) (by kernel_rfl) rfl (by decide) (fun A B hb h => h.trans (hb.mono h.size)) (soI_up w1.heap.size m n A cm) ?_
      intro ys W hR hd hpr K hK
      have d2 : ys 2 = .int .i64 (m : Int) := hd 2 (by kernel_rfl) (by decide)
      have mk := MI.out W
      have mr := made_int m W
      obtain ⟨Z, hZ⟩ : ∃ Z, madeCells (Value.int .i64 0).cells m = Z := ⟨_, rfl⟩
      rw [hZ] at mk mr
      clear hZ
      go_simp
      have hK2 := hK (.slice (some ⟨W.heap.size, 0, none⟩) m m) _ ((Below.refl _ _).alloc (Nat.le_refl _) _) (⟨_, rfl, hR.size, mr⟩) (fun _ u hu => by obtain ⟨g, rfl, _, hg⟩ := hu; exact new_ne hg) (fun h => absurd h (by decide))
      simp (config := { decide := true }) only [upd, if_true, if_false, d2] at hK2
      exact hK2
    refine ⟨?_, ?_⟩
    · refine SlotStep.zB (by decide) (by decide) (by decide) (by kernel_rfl) rfl (by decide) (fun A B hb h => h.trans (hb.mono h.size)) (soI_up w1.heap.size m n A cm) ?_
      intro ys W hR hd hpr K hK
      go_simp
      have hK2 := hK (.slice A m cm) _ (Below.refl _ _) (rfl) (fun h => absurd h (by decide)) (fun h => absurd h (by decide))
      simp (config := { decide := true }) only [upd, if_true, if_false] at hK2
      exact hK2
    refine ⟨?_, ?_⟩
    · refine SlotStep.zB (by decide) (by decide) (by decide) (by kernel_rfl) rfl (by decide) (fun A B hb h => h.trans (hb.mono h.size)) (soI_up w1.heap.size m n A cm) ?_
      intro ys W hR hd hpr K hK
      have d4 : ys 4 = .slice A m cm := hd 4 (by kernel_rfl) (by decide)
      go_simp
      refine (W0.out W (HB1.out.1.trans (hR.mono HB1.out.1.size))).mono ?_
      rintro e w5 ⟨rfl, rfl⟩
      have hK2 := hK (.int .i64 (n : Int)) _ (Below.refl _ _) (rfl) (fun h => absurd h (by decide)) (fun h => absurd h (by decide))
      simp (config := { decide := true }) only [upd, if_true, if_false, d4] at hK2
      exact hK2
    refine ⟨?_, ?_⟩
    · refine SlotStep.zB (by decide) (by decide) (by decide) (by kernel_rfl) rfl (by decide) (fun A B hb h => h.trans (hb.mono h.size)) (soI_up w1.heap.size m n A cm) ?_
      intro ys W hR hd hpr K hK
      have d5 : ys 5 = .int .i64 (n : Int) := hd 5 (by kernel_rfl) (by decide)
      have mk := MN.out W
      have mr := made_int n W
      obtain ⟨Z, hZ⟩ : ∃ Z, madeCells (Value.int .i64 0).cells n = Z := ⟨_, rfl⟩
      rw [hZ] at mk mr
      clear hZ
      go_simp
      have hK2 := hK (.slice (some ⟨W.heap.size, 0, none⟩) n n) _ ((Below.refl _ _).alloc (Nat.le_refl _) _) (⟨_, rfl, hR.size, mr⟩) (fun h => absurd h (by decide)) (fun _ u hu => by obtain ⟨g, rfl, _, hg⟩ := hu; exact new_ne' hg)
      simp (config := { decide := true }) only [upd, if_true, if_false, d5] at hK2
      exact hK2
    refine ⟨?_, ?_⟩
    · refine SlotStep.zB (by decide) (by decide) (by decide) (by kernel_rfl) rfl (by decide) (fun A B hb h => h.trans (hb.mono h.size)) (soI_up w1.heap.size m n A cm) ?_
      intro ys W hR hd hpr K hK
      go_simp
      have hK2 := hK (.slice (some ⟨W.heap.size, 0, none⟩) 1 1) _ ((Below.refl _ _).alloc (Nat.le_refl _) _) (box_soI m n A cm W) (fun h => absurd h (by decide)) (fun h => absurd h (by decide))
      simp (config := { decide := true }) only [upd, if_true, if_false] at hK2
      exact hK2
    refine ⟨?_, ?_⟩
    · refine SlotStep.zB (by decide) (by decide) (by decide) (by kernel_rfl) rfl (by decide) (fun A B hb h => h.trans (hb.mono h.size)) (soI_up w1.heap.size m n A cm) ?_
      intro ys W hR hd hpr K hK
      go_simp
      have hK2 := hK (.slice A m cm) _ (Below.refl _ _) (rfl) (fun h => absurd h (by decide)) (fun h => absurd h (by decide))
      simp (config := { decide := true }) only [upd, if_true, if_false] at hK2
      exact hK2
    refine ⟨?_, ?_⟩
    · refine SlotStep.zB (by decide) (by decide) (by decide) (by kernel_rfl) rfl (by decide) (fun A B hb h => h.trans (hb.mono h.size)) (soI_up w1.heap.size m n A cm) ?_
      intro ys W hR hd hpr K hK
      have d8 : ys 8 = .slice A m cm := hd 8 (by kernel_rfl) (by decide)
      go_simp
      refine (W0.out W (HB1.out.1.trans (hR.mono HB1.out.1.size))).mono ?_
      rintro e w5 ⟨rfl, rfl⟩
      have hK2 := hK (.int .i64 (n : Int)) _ (Below.refl _ _) (rfl) (fun h => absurd h (by decide)) (fun h => absurd h (by decide))
      simp (config := { decide := true }) only [upd, if_true, if_false, d8] at hK2
      exact hK2
    refine ⟨?_, ?_⟩
    · refine SlotStep.zB (by decide) (by decide) (by decide) (by kernel_rfl) rfl (by decide) (fun A B hb h => h.trans (hb.mono h.size)) (soI_up w1.heap.size m n A cm) ?_
      intro ys W hR hd hpr K hK
      obtain ⟨xb, d7, x1, x2⟩ : soI w1.heap.size m n A cm 7 (ys 7) W := hd 7 (by kernel_rfl) (by decide)
      have d9 : ys 9 = .int .i64 (n : Int) := hd 9 (by kernel_rfl) (by decide)
      go_simp
      refine (REP.out xb W x2 x1).mono ?_
      rintro e w5 ⟨rfl, hr5, hb5⟩
      have hK2 := hK (.slice (some ⟨W.heap.size, 0, none⟩) n n) _ (hb5) (⟨_, rfl, hR.size, hr5⟩) (fun h => absurd h (by decide)) (fun h => absurd h (by decide))
      simp (config := { decide := true }) only [upd, if_true, if_false, d7, d9] at hK2
      exact hK2
    refine ⟨?_, ?_⟩
    · refine SlotStep.zB (by decide) (by decide) (by decide) (by kernel_rfl) rfl (by decide) (fun A B hb h => h.trans (hb.mono h.size)) (soI_up w1.heap.size m n A cm) ?_
      intro ys W hR hd hpr K hK
      have d0 : ys 0 = .slice A m cm := hd 0 (by kernel_rfl) (by decide)
      obtain ⟨gR, d3, e3, r3⟩ : soI w1.heap.size m n A cm 3 (ys 3) W := hd 3 (by kernel_rfl) (by decide)
      obtain ⟨gC, d6, e6, r6⟩ : soI w1.heap.size m n A cm 6 (ys 6) W := hd 6 (by kernel_rfl) (by decide)
      obtain ⟨gO, d10, e10, r10⟩ : soI w1.heap.size m n A cm 10 (ys 10) W := hd 10 (by kernel_rfl) (by decide)
      have hRC : gR ≠ gC := hpr (by kernel_rfl) (by kernel_rfl) _ _ _ _ _ _ d3 d6
      clear hpr
      go_simp
      have hK2 := hK (.agg #[.slice A m cm, .slice (some ⟨gR, 0, none⟩) m m, .slice (some ⟨gC, 0, none⟩) n n, .slice (some ⟨gO, 0, none⟩) n n]) _ (Below.refl _ _) (⟨gR, gC, gO, rfl, ⟨e3, e6, e10, hRC⟩, r3, r6, r10⟩) (fun h => absurd h (by decide)) (fun h => absurd h (by decide))
      simp (config := { decide := true }) only [upd, if_true, if_false, d0, d3, d6, d10] at hK2
      exact hK2
    refine ⟨?_, ?_⟩
    · refine SlotStep.zB (by decide) (by decide) (by decide) (by kernel_rfl) rfl (by decide) (fun A B hb h => h.trans (hb.mono h.size)) (soI_up w1.heap.size m n A cm) ?_
      intro ys W hR hd hpr K hK
      go_simp
      have hK2 := hK (.pointer (some ⟨W.heap.size, 0, none⟩)) _ ((Below.refl _ _).alloc (Nat.le_refl _) _) (⟨_, rfl, hR.size, heap_newM _ _⟩) (fun h => absurd h (by decide)) (fun h => absurd h (by decide))
      simp (config := { decide := true }) only [upd, if_true, if_false] at hK2
      exact hK2
    refine ⟨?_, ?_⟩
    · refine SlotStep.zS (by kernel_rfl) rfl rfl (by decide) (by decide) ?_
      intro ys W hR hd _ K hK
      obtain ⟨gR, gC, gO, d11, e11, r3, r6, r10⟩ : soI w1.heap.size m n A cm 11 (ys 11) W := hd 11 (by decide)
      obtain ⟨b, d12, e12, r12⟩ : soI w1.heap.size m n A cm 12 (ys 12) W := hd 12 (by decide)
      have c0 : W.cell? ⟨b, 0, none⟩ = some (.slice none 0 0) := by simp [World.cell?, r12]
      have c1 : W.cell? ⟨b, 1, none⟩ = some (.slice none 0 0) := by simp [World.cell?, r12]
      have c2 : W.cell? ⟨b, 2, none⟩ = some (.slice none 0 0) := by simp [World.cell?, r12]
      have c3 : W.cell? ⟨b, 3, none⟩ = some (.slice none 0 0) := by simp [World.cell?, r12]
      have f0 : ∀ o, W.frozen? ⟨b, o, none⟩ = false := fun o => by simp [World.frozen?, r12]
      have n1 := row_ne_obj r3 r12 (by decide)
      have n2 := row_ne_obj r6 r12 (by decide)
      have n3 := row_ne_obj r10 r12 (by decide)
      go_simp
      have hK2 := hK undef _ (fun ys' hys => ⟨gR, gC, gO, b, (hys 12 (by decide)).trans d12, ⟨e11.1, e11.2.1, e11.2.2.1, e12, e11.2.2.2⟩,
        (((r3.setOther (a := ⟨b, 0, none⟩) n1 (.slice A m cm)).setOther (a := ⟨b, 1, none⟩) n1 (.slice (some ⟨gR, 0, none⟩) m m)).setOther (a := ⟨b, 2, none⟩) n1 (.slice (some ⟨gC, 0, none⟩) n n)).setOther (a := ⟨b, 3, none⟩) n1 (.slice (some ⟨gO, 0, none⟩) n n),
        (((r6.setOther (a := ⟨b, 0, none⟩) n2 _).setOther (a := ⟨b, 1, none⟩) n2 _).setOther (a := ⟨b, 2, none⟩) n2 _).setOther (a := ⟨b, 3, none⟩) n2 _,
        (((r10.setOther (a := ⟨b, 0, none⟩) n3 _).setOther (a := ⟨b, 1, none⟩) n3 _).setOther (a := ⟨b, 2, none⟩) n3 _).setOther (a := ⟨b, 3, none⟩) n3 _,
        set_fourM r12, (((hR.setCell (p := ⟨b, 0, none⟩) e12 _).setCell (p := ⟨b, 1, none⟩) e12 _).setCell (p := ⟨b, 2, none⟩) e12 _).setCell (p := ⟨b, 3, none⟩) e12 _⟩)
      simp (config := { decide := true }) only [upd, if_false, d11, d12] at hK2
      exact hK2
    trivial
    · intro L ys W hL hI
      obtain ⟨gR, gC, gO, b, d12, e12, r3, r6, r10, r12, hb⟩ := z_end (by decide) hL hI
      go_simp
      obtain ⟨k1, k2, k3, k4, kRC⟩ := e12
      have zw := HB1.out.1.size
      have kRb : gR ≠ b := row_ne_obj r3 r12 (by decide)
      have kCb : gC ≠ b := row_ne_obj r6 r12 (by decide)
      have kOb : gO ≠ b := row_ne_obj r10 r12 (by decide)
      have kO : 0 < m → gR ≠ gO ∧ gC ≠ gO := fun h => ⟨row_ne_val r3 r10 h (by omega) (by simp), row_ne_val r6 r10 (by omega) (by omega) (by simp)⟩
      have H2 := Lib.hid (And.intro r3 (And.intro r6 (And.intro r10 (And.intro r12 (And.intro hb kO)))))
      clear r3 r6 r10 r12 hb kO hI
      go_wp2_with fail
      go_loopw [22] (fun i wr => ∃ (k : Nat) (r c o : Nat → Int), k ≤ m ∧ i = .int .i64 (k : Int) ∧ IR wr gR m r ∧ IR wr gC n c ∧ IR wr gO n o ∧ Mt.Inv cost n k r c o ∧ (∀ i, k ≤ i → i < m → r i = 0) ∧ wr.heap[b]? = some (searchO A cm gR gC gO m n) ∧ Below w1.heap.size w1 wr) (fun i _ => m - (intOf i).toNat)
      case atStart => exact ⟨0, _, _, _, Nat.zero_le _, rfl, H2.out.1, H2.out.2.1, H2.out.2.2.1, inv_start, fun _ _ _ => rfl, H2.out.2.2.2.1, H2.out.2.2.2.2.1⟩
      case round =>
        obtain ⟨k, r, c, o, hk, rfl, hR, hC, hO, hinv, hz, hS, hb⟩ := hrel
        by_cases hkm : k < m
        · have hki : (k : Int) < (m : Int) := by omega
          have q1 := wrap_in (q := (k : Int) + 1) (by omega) (by omega)
          have hn1 := H2.out.2.2.2.2.2 (by omega)
          have AC := Lib.hid (assign_c b gR gC gO m n k B A cm cost r c o wr hm hn hkm hmn hS ((HT.out.below HB1.out.1 hB).below hb (by omega)) hR hC hO ⟨kRC, hn1.1, hn1.2, kRb, kCb, kOb, by omega, by omega, by omega, by omega⟩ hinv hz HCO.out)
          have HE := Lib.hid (And.intro hS hb)
          clear hR hC hO hinv hz hS hb hn1
          go_wp2_with fail
          refine (AC.out).mono ?_
          rintro e w3 ⟨⟨v3, rfl⟩, r', c', o', hR', hC', hO', hinv', hz', hkp⟩
          have HF := Lib.hid (And.intro hR' (And.intro hC' (And.intro hO' (And.intro hinv' (And.intro hz' hkp)))))
          clear hR' hC' hO' hinv' hz' hkp
          go_wp2_with fail
          go_roundw
          case rel => exact ⟨k + 1, r', c', o', hkm, rfl, HF.out.1, HF.out.2.1, HF.out.2.2.1, HF.out.2.2.2.1, HF.out.2.2.2.2.1, HF.out.2.2.2.2.2.heap HE.out.1 (show ¬ (b = gR ∨ b = gC ∨ b = gO) by omega), HE.out.2.trans (HF.out.2.2.2.2.2.below (B := w1.heap.size) HE.out.2.size (fun k hk => by omega))⟩
          case measure => simp [intOf]; omega
        · obtain rfl : k = m := by omega
          have hki : ¬ (k : Int) < (k : Int) := by omega
          have zS : b < wr.heap.size := (Array.getElem?_eq_some_iff.1 hS).1
          have s1 : wr.cell? ⟨b, 1, none⟩ = some (.slice (some ⟨gR, 0, none⟩) k k) := by simp [World.cell?, hS]
          have s2 : wr.cell? ⟨b, 2, none⟩ = some (.slice (some ⟨gC, 0, none⟩) n n) := by simp [World.cell?, hS]
          have s3 : wr.cell? ⟨b, 3, none⟩ = some (.slice (some ⟨gO, 0, none⟩) n n) := by simp [World.cell?, hS]
          have HE := Lib.hid (And.intro hR (And.intro hC (And.intro hO (And.intro hinv (And.intro hS hb)))))
          have HS12 := Lib.hid (And.intro s1 (And.intro s2 s3))
          clear hR hC hO hinv hz hS hb
          go_wp2_with fail
          refine wp_region_slots_at rfl rfl (fun base ys => ((((((((base.set 28 (ys 0)).set 29 (ys 1)).set 30 (ys 2)).set 31 (ys 3)).set 32 (ys 4)).set 33 (ys 5)).set 34 (ys 6)).set 35 (ys 7)).set 5 (ys 8)) (LastY _ (Below wr.heap.size wr) (rsI wr.heap.size k n gR gC b A cm) (rsFin wr k n gR gC)) (fun _ => undef) (by kernel_rfl) (y_start (by decide) (Below.refl wr.heap.size wr).drew) ?h
          case h =>
            intro F hF
            simp only [List.set_cons_succ, List.set_cons_zero] at hF
            subst hF
            refine ⟨rfl, ?_, ?_⟩
            refine ⟨?_, ?_⟩
            · refine SlotStep.yB (by kernel_rfl) rfl (by decide) (fun A B hb h => h.trans (hb.mono h.size)) (rsI_up wr.heap.size k n gR gC b A cm) ?_
              intro ys W hR hd K hK
              go_simp
              have hK2 := hK (.slice A k cm) _ (Below.refl _ _) (rfl)
              simp (config := { decide := true }) only [upd, if_true, if_false] at hK2
              exact hK2
            refine ⟨?_, ?_⟩
            · refine SlotStep.yB (by kernel_rfl) rfl (by decide) (fun A B hb h => h.trans (hb.mono h.size)) (rsI_up wr.heap.size k n gR gC b A cm) ?_
              intro ys W hR hd K hK
              have d0 : ys 0 = .slice A k cm := hd 0 (by kernel_rfl) (by decide)
              go_simp
              have hK2 := hK (.int .i64 (k : Int)) _ (Below.refl _ _) (rfl)
              simp (config := { decide := true }) only [upd, if_true, if_false, d0] at hK2
              exact hK2
            refine ⟨?_, ?_⟩
            · refine SlotStep.yB (by kernel_rfl) rfl (by decide) (fun A B hb h => h.trans (hb.mono h.size)) (rsI_up wr.heap.size k n gR gC b A cm) ?_
              intro ys W hR hd K hK
              have d1 : ys 1 = .int .i64 (k : Int) := hd 1 (by kernel_rfl) (by decide)
              have mk := MI.out W
              have mr := made_int k W
              obtain ⟨Z, hZ⟩ : ∃ Z, madeCells (Value.int .i64 0).cells k = Z := ⟨_, rfl⟩
              rw [hZ] at mk mr
              clear hZ
              go_simp
              have hK2 := hK (.slice (some ⟨W.heap.size, 0, none⟩) k k) _ ((Below.refl _ _).alloc (Nat.le_refl _) _) (⟨_, rfl, hR.size, mr⟩)
              simp (config := { decide := true }) only [upd, if_true, if_false, d1] at hK2
              exact hK2
            refine ⟨?_, ?_⟩
            · refine SlotStep.yB (by kernel_rfl) rfl (by decide) (fun A B hb h => h.trans (hb.mono h.size)) (rsI_up wr.heap.size k n gR gC b A cm) ?_
              intro ys W hR hd K hK
              go_simp
              have hK2 := hK (.pointer (some ⟨b, 1, none⟩)) _ (Below.refl _ _) (rfl)
              simp (config := { decide := true }) only [upd, if_true, if_false] at hK2
              exact hK2
            refine ⟨?_, ?_⟩
            · refine SlotStep.yB (by kernel_rfl) rfl (by decide) (fun A B hb h => h.trans (hb.mono h.size)) (rsI_up wr.heap.size k n gR gC b A cm) ?_
              intro ys W hR hd K hK
              have d3 : ys 3 = .pointer (some ⟨b, 1, none⟩) := hd 3 (by kernel_rfl) (by decide)
              have x1 := (hR.cell (p := ⟨b, 1, none⟩) zS).trans HS12.out.1
              go_simp
              have hK2 := hK (.slice (some ⟨gR, 0, none⟩) k k) _ (Below.refl _ _) (rfl)
              simp (config := { decide := true }) only [upd, if_true, if_false, d3] at hK2
              exact hK2
            refine ⟨?_, ?_⟩
            · refine SlotStep.yB (by kernel_rfl) rfl (by decide) (fun A B hb h => h.trans (hb.mono h.size)) (rsI_up wr.heap.size k n gR gC b A cm) ?_
              intro ys W hR hd K hK
              go_simp
              have hK2 := hK (.pointer (some ⟨b, 2, none⟩)) _ (Below.refl _ _) (rfl)
              simp (config := { decide := true }) only [upd, if_true, if_false] at hK2
              exact hK2
            refine ⟨?_, ?_⟩
            · refine SlotStep.yB (by kernel_rfl) rfl (by decide) (fun A B hb h => h.trans (hb.mono h.size)) (rsI_up wr.heap.size k n gR gC b A cm) ?_
              intro ys W hR hd K hK
              have d5 : ys 5 = .pointer (some ⟨b, 2, none⟩) := hd 5 (by kernel_rfl) (by decide)
              have x1 := (hR.cell (p := ⟨b, 2, none⟩) zS).trans HS12.out.2.1
              go_simp
              have hK2 := hK (.slice (some ⟨gC, 0, none⟩) n n) _ (Below.refl _ _) (rfl)
              simp (config := { decide := true }) only [upd, if_true, if_false, d5] at hK2
              exact hK2
            refine ⟨?_, ?_⟩
            · refine SlotStep.yB (by kernel_rfl) rfl (by decide) (fun A B hb h => h.trans (hb.mono h.size)) (rsI_up wr.heap.size k n gR gC b A cm) ?_
              intro ys W hR hd K hK
              obtain ⟨g, d2, e2, r2⟩ : rsI wr.heap.size k n gR gC b A cm 2 (ys 2) W := hd 2 (by kernel_rfl) (by decide)
              have d4 : ys 4 = .slice (some ⟨gR, 0, none⟩) k k := hd 4 (by kernel_rfl) (by decide)
              have d6 : ys 6 = .slice (some ⟨gC, 0, none⟩) n n := hd 6 (by kernel_rfl) (by decide)
              go_simp
              have hK2 := hK (.agg #[.slice (some ⟨g, 0, none⟩) k k, .int .i64 0, .slice (some ⟨gR, 0, none⟩) k k, .slice (some ⟨gC, 0, none⟩) n n]) _ (Below.refl _ _) (⟨g, rfl, e2, r2⟩)
              simp (config := { decide := true }) only [upd, if_true, if_false, d2, d4, d6] at hK2
              exact hK2
            refine ⟨?_, ?_⟩
            · refine SlotStep.yB (by kernel_rfl) rfl (by decide) (fun A B hb h => h.trans (hb.mono h.size)) (rsI_up wr.heap.size k n gR gC b A cm) ?_
              intro ys W hR hd K hK
              go_simp
              have hK2 := hK (.pointer (some ⟨W.heap.size, 0, none⟩)) _ ((Below.refl _ _).alloc (Nat.le_refl _) _) (⟨_, rfl, hR.size, heap_newM _ _⟩)
              simp (config := { decide := true }) only [upd, if_true, if_false] at hK2
              exact hK2
            refine ⟨?_, ?_⟩
            · refine SlotStep.yS (by kernel_rfl) rfl rfl ?_
              intro ys W hR hd K hK
              obtain ⟨g, d7, e7, r7⟩ : rsI wr.heap.size k n gR gC b A cm 7 (ys 7) W := hd 7 (by decide)
              obtain ⟨q, d8, e8, r8⟩ : rsI wr.heap.size k n gR gC b A cm 8 (ys 8) W := hd 8 (by decide)
              have c0 : W.cell? ⟨q, 0, none⟩ = some (.slice none 0 0) := by simp [World.cell?, r8]
              have c1 : W.cell? ⟨q, 1, none⟩ = some (.int .i64 0) := by simp [World.cell?, r8]
              have c2 : W.cell? ⟨q, 2, none⟩ = some (.slice none 0 0) := by simp [World.cell?, r8]
              have c3 : W.cell? ⟨q, 3, none⟩ = some (.slice none 0 0) := by simp [World.cell?, r8]
              have f0 : ∀ o, W.frozen? ⟨q, o, none⟩ = false := fun o => by simp [World.frozen?, r8]
              have n1 := row_ne_obj r7 r8 (by decide)
              go_simp
              have hK2 := hK undef _ (fun ys' hys => ⟨g, q, (hys 8 (by decide)).trans d8, ⟨e7, e8⟩,
                (((r7.setOther (a := ⟨q, 0, none⟩) n1 (.slice (some ⟨g, 0, none⟩) k k)).setOther (a := ⟨q, 1, none⟩) n1 (.int .i64 0)).setOther (a := ⟨q, 2, none⟩) n1 (.slice (some ⟨gR, 0, none⟩) k k)).setOther (a := ⟨q, 3, none⟩) n1 (.slice (some ⟨gC, 0, none⟩) n n),
                set_fourM r8, (((hR.setCell (p := ⟨q, 0, none⟩) e8 _).setCell (p := ⟨q, 1, none⟩) e8 _).setCell (p := ⟨q, 2, none⟩) e8 _).setCell (p := ⟨q, 3, none⟩) e8 _⟩)
              simp (config := { decide := true }) only [upd, if_false, d7, d8] at hK2
              exact hK2
            trivial
            · intro L ys' W3 hL hI
              obtain ⟨gX, q, d8, e8, rX, rq, hb3⟩ := y_end (by decide) hL hI
              go_simp
              have kXq : gX ≠ q := row_ne_obj rX rq (by decide)
              have zwr := HE.out.2.2.2.2.2.size
              have R3 := row_below HE.out.1 hb3
              have C3 := row_below HE.out.2.1 hb3
              have O3 := row_below HE.out.2.2.1 hb3
              have zR := HE.out.1.lt
              have zC := HE.out.2.1.lt
              have zO := HE.out.2.2.1.lt
              have B3 : Below w1.heap.size w1 W3 := HE.out.2.2.2.2.2.trans (hb3.mono zwr)
              have x3 := (hb3.cell (p := ⟨b, 3, none⟩) zS).trans HS12.out.2.2
              have XX : IR W3 gX k (Mt.coX o 0) := row_congr rX (fun _ _ => rfl)
              have HH := Lib.hid (And.intro XX (And.intro R3 (And.intro C3 (And.intro O3 (And.intro rq B3)))))
              clear rX R3 C3 O3 B3 XX rq hb3 hI
              go_wp2_with fail
              go_loopw [39] (fun i wr => ∃ j : Nat, j ≤ n ∧ i = .int .i64 (j : Int) ∧ IR wr gX k (Mt.coX o j) ∧ IR wr gR k r ∧ IR wr gC n c ∧ IR wr gO n o ∧ wr.heap[q]? = some (.cells #[.slice (some ⟨gX, 0, none⟩) k k, .int .i64 (Mt.toX cost o j), .slice (some ⟨gR, 0, none⟩) k k, .slice (some ⟨gC, 0, none⟩) n n] 29) ∧ Below w1.heap.size w1 wr) (fun i _ => n - (intOf i).toNat)
              case atStart => exact ⟨0, Nat.zero_le _, rfl, HH.out.1, HH.out.2.1, HH.out.2.2.1, HH.out.2.2.2.1, HH.out.2.2.2.2.1, HH.out.2.2.2.2.2⟩
              case round =>
                obtain ⟨j, hj, rfl, hX, hR, hC, hO, hq, hb⟩ := hrel
                clear x3
                by_cases hjn : j < n
                · have hji : (j : Int) < (n : Int) := by omega
                  have q1 := wrap_in (q := (j : Int) + 1) (by omega) (by omega)
                  have xo := hO.cell hjn
                  by_cases hoj : o j = -1
                  · rw [hoj] at xo
                    have U1 : ∀ i, Mt.coX o (j + 1) i = Mt.coX o j i := fun i => by show (if o j ≠ -1 ∧ _ then _ else _) = _; rw [if_neg (fun h => h.1 hoj)]
                    have U2 : Mt.toX cost o (j + 1) = Mt.toX cost o j := by show _ + (if o j ≠ -1 then _ else _) = _; rw [if_neg (fun h => h hoj)]; exact Int.add_zero _
                    have HE2 := Lib.hid (And.intro (row_congr hX (fun i _ => (U1 i).symm)) (And.intro hR (And.intro hC (And.intro hO (And.intro (by rw [U2]; exact hq : wr.heap[q]? = some (.cells #[.slice (some ⟨gX, 0, none⟩) k k, .int .i64 (Mt.toX cost o (j + 1)), .slice (some ⟨gR, 0, none⟩) k k, .slice (some ⟨gC, 0, none⟩) n n] 29)) hb)))))
                    clear hX hR hC hO hq hb hoj U1 U2
                    go_wp2_with fail
                    go_roundw
                    case rel => exact ⟨j + 1, hjn, rfl, HE2.out⟩
                    case measure => simp [intOf]; omega
                  · obtain ⟨i, hoi, hik⟩ : ∃ i : Nat, o j = (i : Int) ∧ i < k := by
                      rcases HE.out.2.2.2.1.own j hjn with h | h
                      · exact absurd h hoj
                      · exact ⟨(o j).toNat, by omega, by omega⟩
                    have U1 : ∀ l, Mt.coX o (j + 1) l = if l = i then (j : Int) else Mt.coX o j l := fun l => by
                      show (if o j ≠ -1 ∧ l = (o j).toNat then _ else _) = _
                      rw [hoi, Int.toNat_natCast]
                      by_cases e : l = i
                      · rw [if_pos ⟨by omega, e⟩, if_pos e]
                      · rw [if_neg (fun h => e h.2), if_neg e]
                    have U2 : Mt.toX cost o (j + 1) = Mt.toX cost o j + cost i j := by
                      show _ + (if o j ≠ -1 then _ else _) = _
                      rw [if_pos hoj, hoi, Int.toNat_natCast]; rfl
                    rw [hoi] at xo
                    have hine : ((i : Int) != -1) = true := by simp
                    have hii : (i : Int) < (k : Int) := by omega
                    have gX0 := hX.cell hik
                    have gXf := hX.frozen i
                    have p0 : wr.cell? ⟨q, 0, none⟩ = some (.slice (some ⟨gX, 0, none⟩) k k) := by simp [World.cell?, hq]
                    obtain ⟨tj, htj⟩ : ∃ tj, Mt.toX cost o j = tj := ⟨_, rfl⟩
                    have htb := toX_bd (cost := cost) (o := o) (n := n) (m := k) (fun i k hi hk => HCO.out i k hi hk) (fun k hk => HE.out.2.2.2.1.own k hk) hj
                    have hcb := HCO.out i j hik hjn
                    rw [htj] at htb U2 hq
                    have q2 := wrap_in (q := tj + cost i j) (by omega) (by omega)
                    have zq := (Array.getElem?_eq_some_iff.1 hq).1
                    have hBX : B ≤ gX := by omega
                    have hTr := (HT.out.below HB1.out.1 hB).below hb (by omega)
                    have hT4 : Tb (wr.setCell ⟨gX, i, none⟩ (.int .i64 (j : Int))) B A k (fun _ => n) cost := hTr.keep (fun l hl => Below.heap_setCell _ _ _ _ (show l ≠ gX by omega))
                    have hq4 : (wr.setCell ⟨gX, i, none⟩ (.int .i64 (j : Int))).heap[q]? = some (.cells #[.slice (some ⟨gX, 0, none⟩) k k, .int .i64 tj, .slice (some ⟨gR, 0, none⟩) k k, .slice (some ⟨gC, 0, none⟩) n n] 29) := (Below.heap_setCell _ _ _ _ (show q ≠ gX from fun h => kXq h.symm)).trans hq
                    have X4 := row_congr (row_set hX (k := i) (j : Int)) (fun l _ => (U1 l).symm)
                    have R4 := hR.setOther (a := ⟨gX, i, none⟩) (show gR ≠ gX by omega) (.int .i64 (j : Int))
                    have C4 := hC.setOther (a := ⟨gX, i, none⟩) (show gC ≠ gX by omega) (.int .i64 (j : Int))
                    have O4 := hO.setOther (a := ⟨gX, i, none⟩) (show gO ≠ gX by omega) (.int .i64 (j : Int))
                    have B4 : Below w1.heap.size w1 (wr.setCell ⟨gX, i, none⟩ (.int .i64 (j : Int))) := hb.setCell (p := ⟨gX, i, none⟩) (show w1.heap.size ≤ gX by omega) _
                    obtain ⟨W4, hW4⟩ : ∃ W4, wr.setCell ⟨gX, i, none⟩ (.int .i64 (j : Int)) = W4 := ⟨_, rfl⟩
                    rw [hW4] at hT4 hq4 X4 R4 C4 O4 B4
                    obtain ⟨a, Ai, ci, rfl, _, hai, hRd⟩ := hT4 i hik
                    obtain ⟨b1, rfl, _, hbj⟩ := hRd j hjn
                    have p1 : W4.cell? ⟨q, 1, none⟩ = some (.int .i64 tj) := by simp [World.cell?, hq4]
                    have p2 : W4.frozen? ⟨q, 1, none⟩ = false := by simp [World.frozen?, hq4]
                    have hq5 : (W4.setCell ⟨q, 1, none⟩ (.int .i64 (tj + cost i j))).heap[q]? = some (.cells #[.slice (some ⟨gX, 0, none⟩) k k, .int .i64 (Mt.toX cost o (j + 1)), .slice (some ⟨gR, 0, none⟩) k k, .slice (some ⟨gC, 0, none⟩) n n] 29) := by
                      rw [U2]; simp [World.setCell, Array.getElem?_modify, hq4]
                    have nRq : gR ≠ q := by omega
                    have nCq : gC ≠ q := by omega
                    have nOq : gO ≠ q := by omega
                    have HE2 := Lib.hid (And.intro (X4.setOther (a := ⟨q, 1, none⟩) kXq (.int .i64 (tj + cost i j))) (And.intro (R4.setOther (a := ⟨q, 1, none⟩) nRq (.int .i64 (tj + cost i j))) (And.intro (C4.setOther (a := ⟨q, 1, none⟩) nCq (.int .i64 (tj + cost i j))) (And.intro (O4.setOther (a := ⟨q, 1, none⟩) nOq (.int .i64 (tj + cost i j))) (And.intro hq5 (B4.setCell (p := ⟨q, 1, none⟩) (show w1.heap.size ≤ q by omega) (.int .i64 (tj + cost i j))))))))
                    clear hX hR hC hO hq hb hoj U1 U2 hoi htj htb hcb hTr hT4 hq4 X4 R4 C4 O4 B4 hq5 hRd
                    go_wp2_with fail
                    go_region
                    go_wp2_with fail
                    go_roundw
                    case rel => exact ⟨j + 1, hjn, rfl, HE2.out.1.drew, HE2.out.2.1.drew, HE2.out.2.2.1.drew, HE2.out.2.2.2.1.drew, HE2.out.2.2.2.2.1, HE2.out.2.2.2.2.2.drew⟩
                    case measure => simp [intOf]; omega
                · obtain rfl : j = n := by omega
                  have hji : ¬ (j : Int) < (j : Int) := by omega
                  have hr0 := (hb.block w.heap.size zr).trans HB1.out.2
                  have p0 : wr.cell? ⟨q, 0, none⟩ = some (.slice (some ⟨gX, 0, none⟩) k k) := by simp [World.cell?, hq]
                  have p1 : wr.cell? ⟨q, 1, none⟩ = some (.int .i64 (Mt.toX cost o j)) := by simp [World.cell?, hq]
                  have p2 : wr.cell? ⟨q, 2, none⟩ = some (.slice (some ⟨gR, 0, none⟩) k k) := by simp [World.cell?, hq]
                  have p3 : wr.cell? ⟨q, 3, none⟩ = some (.slice (some ⟨gC, 0, none⟩) j j) := by simp [World.cell?, hq]
                  have r0 : wr.cell? ⟨w.heap.size, 0, none⟩ = some (.slice none 0 0) := by simp [World.cell?, hr0]
                  have r1 : wr.cell? ⟨w.heap.size, 1, none⟩ = some (.int .i64 0) := by simp [World.cell?, hr0]
                  have r2 : wr.cell? ⟨w.heap.size, 2, none⟩ = some (.slice none 0 0) := by simp [World.cell?, hr0]
                  have r3 : wr.cell? ⟨w.heap.size, 3, none⟩ = some (.slice none 0 0) := by simp [World.cell?, hr0]
                  have rf : ∀ o, wr.frozen? ⟨w.heap.size, o, none⟩ = false := fun o => by simp [World.frozen?, hr0]
                  obtain ⟨tt, htt⟩ : ∃ tt, Mt.toX cost o j = tt := ⟨_, rfl⟩
                  have hsol := Mt.sol HE.out.2.2.2.1
                  rw [htt] at p1 hsol
                  have Z : Below w.heap.size w wr := HB1.out.1.trans (hb.mono (by omega))
                  have HE2 := Lib.hid (And.intro hX (And.intro hR (And.intro hC (And.intro hsol Z))))
                  clear hX hR hC hO hq hb hr0 hsol htt Z
                  go_wp2_with fail
                  have nX : gX ≠ w.heap.size := by omega
                  have nR : gR ≠ w.heap.size := by omega
                  have nC : gC ≠ w.heap.size := by omega
                  refine bodyPost_ret (v := .agg #[.slice (some ⟨gX, 0, none⟩) k k, .int .i64 tt, .slice (some ⟨gR, 0, none⟩) k k, .slice (some ⟨gC, 0, none⟩) j j]) (by simp [results, Try.results33, go_sem, r0, r1, r2, r3]) rfl
                    ⟨gX, gR, gC, Mt.coX o j, r, c, tt, rfl, ?_, ?_, ?_, ⟨by omega, by omega, by omega, by omega, by omega, kRC⟩, HE2.out.2.2.2.1, ?_⟩
                  · exact (((HE2.out.1.setOther (a := ⟨w.heap.size, 0, none⟩) nX _).setOther (a := ⟨w.heap.size, 1, none⟩) nX _).setOther (a := ⟨w.heap.size, 2, none⟩) nX _).setOther (a := ⟨w.heap.size, 3, none⟩) nX _
                  · exact (((HE2.out.2.1.setOther (a := ⟨w.heap.size, 0, none⟩) nR _).setOther (a := ⟨w.heap.size, 1, none⟩) nR _).setOther (a := ⟨w.heap.size, 2, none⟩) nR _).setOther (a := ⟨w.heap.size, 3, none⟩) nR _
                  · exact (((HE2.out.2.2.1.setOther (a := ⟨w.heap.size, 0, none⟩) nC _).setOther (a := ⟨w.heap.size, 1, none⟩) nC _).setOther (a := ⟨w.heap.size, 2, none⟩) nC _).setOther (a := ⟨w.heap.size, 3, none⟩) nC _
                  · exact (((HE2.out.2.2.2.2.setCell (p := ⟨w.heap.size, 0, none⟩) (Nat.le_refl _) _).setCell (p := ⟨w.heap.size, 1, none⟩) (Nat.le_refl _) _).setCell (p := ⟨w.heap.size, 2, none⟩) (Nat.le_refl _) _).setCell (p := ⟨w.heap.size, 3, none⟩) (Nat.le_refl _) _
end Go.Proofs.Ytojgfpnecdngfaa
