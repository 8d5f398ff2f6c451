/- The law's known, over what Two, Least and Count answer to it. -/
import Derived.Test.YtinopmdefndhoaaDoorSpO
import Derived.Test.YtinopmdefndhoaaDoorNsSh
import Derived.Test.YtinopmdefndhoaaDoorNsQ
import Derived.Laws.StructEq
namespace Go.Proofs.YtinopmdefndhoaaDoor
open Go Go.RowKit Go.Shelf

theorem set2_0 {W : World} {b : Nat} {c0 c1 x : Value} {T : TypeId} (h : W.heap[b]? = some (.cells #[c0, c1] T)) : (W.setCell ⟨b, 0, none⟩ x).heap[b]? = some (.cells #[x, c1] T) := by
  simp [World.setCell, Array.getElem?_modify, h]
theorem set2_1 {W : World} {b : Nat} {c0 c1 x : Value} {T : TypeId} (h : W.heap[b]? = some (.cells #[c0, c1] T)) : (W.setCell ⟨b, 1, none⟩ x).heap[b]? = some (.cells #[c0, x] T) := by
  simp [World.setCell, Array.getElem?_modify, h]
theorem free2_0 {W : World} {b : Nat} {c0 c1 : Value} {T : TypeId} (h : W.heap[b]? = some (.cells #[c0, c1] T)) : W.frozen? ⟨b, 0, none⟩ = false := by simp [World.frozen?, h]
theorem free2_1 {W : World} {b : Nat} {c0 c1 : Value} {T : TypeId} (h : W.heap[b]? = some (.cells #[c0, c1] T)) : W.frozen? ⟨b, 1, none⟩ = false := by simp [World.frozen?, h]
theorem set_other {W : World} {b k o : Nat} {x : Value} (h : k ≠ b) : (W.setCell ⟨b, o, none⟩ x).heap[k]? = W.heap[k]? := Below.heap_setCell _ _ _ _ (by simpa using h)
/-- The set of a list that was written down. -/
theorem rof_lit (l : List Nat) (B : Nat) (w : World) (hl : l.length ≤ 100) (h128 : ∀ x, x ∈ l → x < 128) (hB : w.heap[B]? = some (.cells (l.map fun n : Nat => Value.int .i64 (n : Int)).toArray 3)) :
    Calls Tryd.prog 26 #[.slice (some ⟨B, 0, none⟩) l.length l.length] w fun e w' => e = .returned (.agg #[.int .u64 ((ofN l).1 : Nat), .int .u64 ((ofN l).2 : Nat)]) ∧ Below w.heap.size w w' := by
  have h := rof_ok B 0 l.length l.length (nth l) w (by omega) (Array.getElem?_eq_some_iff.1 hB).1 (fun k hk => by
      unfold nth
      simp [World.cell?, hB, List.getElem?_eq_getElem hk]) (fun k hk => by
      have := h128 l[k] (List.getElem_mem hk)
      unfold nth validB
      rw [List.getD_eq_getElem?_getD, List.getElem?_eq_getElem hk]
      simp
      omega)
  have e : ((List.range l.length).map fun k => (nth l k).toNat) = l := by
    refine List.ext_getElem (by simp) fun k h1 h2 => ?_
    unfold nth
    simp [List.getElem?_eq_getElem h2]
  rw [e] at h
  exact h
def SpR (w : World) (D E : Nat) (A : World) : Prop := D ≤ A.heap.size ∧ Below w.heap.size w A ∧ A.heap[E]? = some (.cells #[.int .u64 1189231776602521600, .int .u64 257] 26)
theorem SpR_up (w : World) (D E : Nat) (A B : World) (hb : Below A.heap.size A B) (h : SpR w D E A) : SpR w D E B :=
  ⟨Nat.le_trans h.1 hb.size, h.2.1.trans (hb.mono h.2.1.size), heap_kept hb h.2.2⟩
theorem SpR_st (w : World) (D E : Nat) (hw : w.heap.size ≤ D) (hE : E < D) (A B : World) (hb : Below D A B) (h : SpR w D E A) : SpR w D E B :=
  ⟨Nat.le_trans h.1 hb.size, h.2.1.trans (hb.mono hw), (hb.block E hE).trans h.2.2⟩
def kbx : Nat → Option (Nat × Array Value)
  | 8 => some (10, #[.int .u64 36310271995674624, .int .u64 0])
  | 9 => some (11, #[.int .u64 1152921504606846976, .int .u64 257])
  | _ => none
theorem kbx_at (j s : Nat) (c : Array Value) (h : kbx j = some (s, c)) : (j = 8 ∧ s = 10) ∨ (j = 9 ∧ s = 11) := by
  unfold kbx at h
  split at h
  · cases h; exact .inl ⟨rfl, rfl⟩
  · cases h; exact .inr ⟨rfl, rfl⟩
  · cases h
def knI  : Nat → Value → Prop
  | 0, v => v = .agg #[.int .i64 5, .int .i64 12, .int .i64 2, .int .i64 12]
  | 1, v => v = .agg #[.int .u64 1189231776602521600, .int .u64 257]
  | 2, v => v = .tuple #[.agg #[.int .u64 36310271995674624, .int .u64 0], .agg #[.int .u64 1152921504606846976, .int .u64 257], .bool true, .int .i64 0]
  | 3, v => v = .tuple #[.agg #[.int .u64 36310271995674624, .int .u64 0], .agg #[.int .u64 1152921504606846976, .int .u64 257], .bool true, .int .i64 0]
  | 4, v => v = .agg #[.int .u64 36310271995674624, .int .u64 0]
  | 5, v => v = .agg #[.int .u64 1152921504606846976, .int .u64 257]
  | 6, v => v = .bool true
  | 7, v => v = .int .i64 0
  | 12, v => v = .bool true
  | 13, v => v = .int .i64 0
  | _, _ => True

def SpQ (w : World) (E b2 b3 : Nat) (A : World) : Prop := Below w.heap.size w A ∧ A.heap[E]? = some (.cells #[.int .u64 1189231776602521600, .int .u64 257] 26) ∧ A.heap[b2]? = some (.cells #[.int .u64 36310271995674624, .int .u64 0] 26) ∧ A.heap[b3]? = some (.cells #[.int .u64 1152921504606846976, .int .u64 257] 26)
theorem SpQ_up (w : World) (E b2 b3 : Nat) (A B : World) (hb : Below A.heap.size A B) (h : SpQ w E b2 b3 A) : SpQ w E b2 b3 B :=
  ⟨h.1.trans (hb.mono h.1.size), heap_kept hb h.2.1, heap_kept hb h.2.2.1, heap_kept hb h.2.2.2⟩
def knJ  : Nat → Value → World → Prop
  | 0, v, _ => v = .agg #[.int .i64 5, .int .i64 12, .int .i64 2, .int .i64 12]
  | 1, v, _ => v = .agg #[.int .u64 1189231776602521600, .int .u64 257]
  | 2, v, _ => v = .tuple #[.int .i64 12, .bool true, .int .i64 0]
  | 3, v, _ => v = .tuple #[.int .i64 12, .bool true, .int .i64 0]
  | 4, v, _ => v = .int .i64 12
  | 5, v, _ => v = .bool true
  | 6, v, _ => v = .int .i64 0
  | 7, v, _ => v = .int .i64 12
  | 8, v, _ => v = .bool true
  | 9, v, _ => v = .int .i64 0
  | _, _, _ => True

theorem knJ_up  : ∀ (j : Nat) (v : Value) (A B : World), Below A.heap.size A B → knJ  j v A → knJ  j v B
  | 0, _, _, _, _, h => h
  | 1, _, _, _, _, h => h
  | 2, _, _, _, _, h => h
  | 3, _, _, _, _, h => h
  | 4, _, _, _, _, h => h
  | 5, _, _, _, _, h => h
  | 6, _, _, _, _, h => h
  | 7, _, _, _, _, h => h
  | 8, _, _, _, _, h => h
  | 9, _, _, _, _, h => h
  | _ + 10, _, _, _, _, _ => trivial

def knL  : Nat → Value → World → Prop
  | 0, v, _ => v = .int .i64 0
  | 1, v, _ => v = .bool true
  | 2, v, _ => v = .bool true
  | 3, v, _ => v = .bool true
  | 4, v, _ => v = .bool true
  | 5, v, _ => v = .bool true
  | 6, v, _ => v = .agg #[.int .u64 36310271995674624, .int .u64 0]
  | 7, v, W => ∃ b, v = .slice (some ⟨b, 0, none⟩) 2 2 ∧ W.heap[b]? = some (.cells #[.int .i64 48, .int .i64 55] 3)
  | 8, v, _ => v = .agg #[.int .u64 36310271995674624, .int .u64 0]
  | 9, v, _ => v = .bool true
  | 10, v, _ => v = .bool true
  | 11, v, _ => v = .bool true
  | 12, v, _ => v = .agg #[.int .u64 1152921504606846976, .int .u64 257]
  | 13, v, W => ∃ b, v = .slice (some ⟨b, 0, none⟩) 3 3 ∧ W.heap[b]? = some (.cells #[.int .i64 60, .int .i64 64, .int .i64 72] 3)
  | 14, v, _ => v = .agg #[.int .u64 1152921504606846976, .int .u64 257]
  | 15, v, _ => v = .bool true
  | 16, v, _ => v = .bool true
  | 17, v, _ => v = .bool true
  | 18, v, _ => v = .int .i64 0
  | 19, v, _ => v = .bool true
  | 20, v, _ => v = .bool true
  | 21, v, _ => v = .bool true
  | 22, v, _ => v = .bool true
  | 23, v, _ => v = .bool true
  | 24, v, _ => v = .bool true
  | 25, v, _ => v = .int .i64 12
  | 26, v, _ => v = .bool true
  | 27, v, _ => v = .bool true
  | 28, v, _ => v = .bool true
  | 29, v, _ => v = .int .i64 0
  | 30, v, _ => v = .bool true
  | 31, v, _ => v = .bool true
  | 32, v, _ => v = .bool true
  | 33, v, _ => v = .int .i64 8
  | 34, v, _ => v = .bool true
  | 35, v, _ => v = .bool true
  | 36, v, _ => v = .bool true
  | _, _, _ => True

theorem knL_up  : ∀ (j : Nat) (v : Value) (A B : World), Below A.heap.size A B → knL  j v A → knL  j v B
  | 0, _, _, _, _, h => h
  | 1, _, _, _, _, h => h
  | 2, _, _, _, _, h => h
  | 3, _, _, _, _, h => h
  | 4, _, _, _, _, h => h
  | 5, _, _, _, _, h => h
  | 6, _, _, _, _, h => h
  | 7, _, _, _, hb, h => by obtain ⟨b, h1, h2⟩ := h; exact ⟨b, h1, heap_kept hb h2⟩
  | 8, _, _, _, _, h => h
  | 9, _, _, _, _, h => h
  | 10, _, _, _, _, h => h
  | 11, _, _, _, _, h => h
  | 12, _, _, _, _, h => h
  | 13, _, _, _, hb, h => by obtain ⟨b, h1, h2⟩ := h; exact ⟨b, h1, heap_kept hb h2⟩
  | 14, _, _, _, _, h => h
  | 15, _, _, _, _, h => h
  | 16, _, _, _, _, h => h
  | 17, _, _, _, _, h => h
  | 18, _, _, _, _, h => h
  | 19, _, _, _, _, h => h
  | 20, _, _, _, _, h => h
  | 21, _, _, _, _, h => h
  | 22, _, _, _, _, h => h
  | 23, _, _, _, _, h => h
  | 24, _, _, _, _, h => h
  | 25, _, _, _, _, h => h
  | 26, _, _, _, _, h => h
  | 27, _, _, _, _, h => h
  | 28, _, _, _, _, h => h
  | 29, _, _, _, _, h => h
  | 30, _, _, _, _, h => h
  | 31, _, _, _, _, h => h
  | 32, _, _, _, _, h => h
  | 33, _, _, _, _, h => h
  | 34, _, _, _, _, h => h
  | 35, _, _, _, _, h => h
  | 36, _, _, _, _, h => h
  | _ + 37, _, _, _, _, _ => trivial

theorem of_five : ofN [48, 55, 60, 64, 72] = (1189231776602521600, 257) := by decide +kernel
theorem of_two : ofN [48, 55] = (36310271995674624, 0) := by decide +kernel
theorem of_three : ofN [60, 64, 72] = (1152921504606846976, 257) := by decide +kernel
set_option maxRecDepth 100000 in
set_option maxHeartbeats 8000000 in
theorem known_c (w : World) (G : Gl w)
    (tw : ∀ W, Gl W → Calls Tryd.prog 17 #[.agg #[.int .i64 5, .int .i64 12, .int .i64 2, .int .i64 12], .agg #[.int .u64 1189231776602521600, .int .u64 257]] W fun e w' => e = .returned (.tuple #[.agg #[.int .u64 36310271995674624, .int .u64 0], .agg #[.int .u64 1152921504606846976, .int .u64 257], .bool true, .int .i64 0]) ∧ Below W.heap.size W w')
    (ls : ∀ W, Gl W → Calls Tryd.prog 19 #[.agg #[.int .i64 5, .int .i64 12, .int .i64 2, .int .i64 12], .agg #[.int .u64 1189231776602521600, .int .u64 257]] W fun e w' => e = .returned (.tuple #[.int .i64 12, .bool true, .int .i64 0]) ∧ Below W.heap.size W w')
    (co : ∀ W, Gl W → Calls Tryd.prog 21 #[.agg #[.int .i64 5, .int .i64 12, .int .i64 2, .int .i64 12], .agg #[.int .i64 60, .int .i64 62]] W fun e w' => e = .returned (.tuple #[.int .i64 8, .int .i64 0]) ∧ Below W.heap.size W w') :
    Calls Tryd.prog 12 #[] w fun e w' => e = .returned (.bool true) ∧ Below w.heap.size w w' := by
  have TW := Lib.hid tw
  have LS := Lib.hid ls
  have CO := Lib.hid co
  clear tw ls co
  have o5 := fun B W h => rof_lit [48, 55, 60, 64, 72] B W (by decide) (by decide) h
  have o2 := fun B W h => rof_lit [48, 55] B W (by decide) (by decide) h
  have o3 := fun B W h => rof_lit [60, 64, 72] B W (by decide) (by decide) h
  rw [of_five] at o5
  rw [of_two] at o2
  rw [of_three] at o3
  have OF5 := Lib.hid o5
  have OF2 := Lib.hid o2
  have OF3 := Lib.hid o3
  clear o5 o2 o3
  have HEQ1 := Lib.hid (show ∀ W : World, (binOp .eql 26 (.agg #[.int .u64 36310271995674624, .int .u64 0]) (.agg #[.int .u64 36310271995674624, .int .u64 0])).run Tryd.prog W = .ok (.bool true) W from fun W => by simp [go_sem])
  have HEQ2 := Lib.hid (show ∀ W : World, (binOp .eql 26 (.agg #[.int .u64 1152921504606846976, .int .u64 257]) (.agg #[.int .u64 1152921504606846976, .int .u64 257])).run Tryd.prog W = .ok (.bool true) W from fun W => by simp [go_sem])
  go_enter Tryd.func12, Tryd.ntmps12
  go_wp2_with fail
  refine (OF5.out _ _ (heap_new rfl)).mono ?_
  rintro e w1 ⟨rfl, hb1⟩
  obtain ⟨E, hE⟩ : ∃ E, w1.heap.size = E := ⟨_, rfl⟩
  have hw1 : Below w.heap.size w w1 := ((Below.refl _ w).alloc (Nat.le_refl _) _).trans (hb1.mono (by simp))
  have hz1 := hw1.size
  obtain ⟨V, hV⟩ : ∃ V : World, w1.alloc (.cells #[.int .u64 1189231776602521600, .int .u64 257] 26) = V := ⟨_, rfl⟩
  have hzV : V.heap.size = E + 1 := by rw [← hV]; simp [hE]
  have HR := Lib.hid (show SpR w (E + 1) E V from by
    refine ⟨by omega, ?_, ?_⟩
    · rw [← hV]; exact hw1.alloc hz1 _
    · rw [← hV]; exact heap_new hE.symm)
  clear hb1 hw1
  go_wp2_with fail
  try rw [hV]
  clear hV
  obtain ⟨D, hD⟩ : ∃ D, E + 1 = D := ⟨_, rfl⟩
  rw [hD] at HR hzV
  refine wp_region_slots_at rfl rfl (fun base ys => (((((((((((base.set 14 (ys 0)).set 15 (ys 1)).set 16 (ys 2)).set 13 (ys 3)).set 17 (ys 4)).set 18 (ys 5)).set 19 (ys 6)).set 20 (ys 7)).set 2 (ys 8)).set 3 (ys 9)).set 4 (ys 12)).set 5 (ys 13)) (BxI _ D (SpR w D E) knI 26 #[.int .u64 0, .int .u64 0] kbx) (fun _ => undef) (by kernel_rfl) (BxI.start (fun j s c h => by rcases kbx_at j s c h with h | h <;> (rw [h.1]; decide)) (SpR_up w D E V V.drew ⟨rfl, rfl, rfl, Nat.le_refl _, fun _ _ => rfl⟩ HR.out)) ?h
  case h =>
    intro FF hFF
    simp only [List.set_cons_succ, List.set_cons_zero] at hFF
    subst hFF
    refine ⟨rfl, ?_, ?_⟩
    refine ⟨?_, ?_⟩
    · refine SlotStep.boxV (SpR_up w D E) rfl rfl (fun j s c h => by rcases kbx_at j s c h with h | h <;> omega) ?_
      intro ys W hR hd K hK
      go_simp
      refine (player_any W).mono ?_
      rintro e w5 ⟨rfl, hb5⟩
      have hK2 := hK (.agg #[.int .i64 5, .int .i64 12, .int .i64 2, .int .i64 12]) _ hb5 rfl
      simp (config := { decide := true }) only [upd, if_true, if_false] at hK2
      exact hK2
    refine ⟨?_, ?_⟩
    · refine SlotStep.boxV (SpR_up w D E) rfl rfl (fun j s c h => by rcases kbx_at j s c h with h | h <;> omega) ?_
      intro ys W hR hd K hK
      have c0 := cell2_0 hR.2.2
      have c1 := cell2_1 hR.2.2
      go_simp
      have hK2 := hK (.agg #[.int .u64 1189231776602521600, .int .u64 257]) _ (Below.refl _ _) rfl
      simp (config := { decide := true }) only [upd, if_true, if_false] at hK2
      exact hK2
    refine ⟨?_, ?_⟩
    · refine SlotStep.boxV (SpR_up w D E) rfl rfl (fun j s c h => by rcases kbx_at j s c h with h | h <;> omega) ?_
      intro ys W hR hd K hK
      have dd0 : ys 0 = (.agg #[.int .i64 5, .int .i64 12, .int .i64 2, .int .i64 12]) := hd 0 (by kernel_rfl) (by decide)
      have dd1 : ys 1 = (.agg #[.int .u64 1189231776602521600, .int .u64 257]) := hd 1 (by kernel_rfl) (by decide)
      go_simp
      refine (TW.out W (G.below hR.2.1)).mono ?_
      rintro e w5 ⟨rfl, hb5⟩
      have hK2 := hK (.tuple #[.agg #[.int .u64 36310271995674624, .int .u64 0], .agg #[.int .u64 1152921504606846976, .int .u64 257], .bool true, .int .i64 0]) _ hb5 rfl
      simp (config := { decide := true }) only [upd, if_true, if_false, dd0, dd1] at hK2
      exact hK2
    refine ⟨?_, ?_⟩
    · refine SlotStep.boxV (SpR_up w D E) rfl rfl (fun j s c h => by rcases kbx_at j s c h with h | h <;> omega) ?_
      intro ys W hR hd K hK
      have dd2 : ys 2 = (.tuple #[.agg #[.int .u64 36310271995674624, .int .u64 0], .agg #[.int .u64 1152921504606846976, .int .u64 257], .bool true, .int .i64 0]) := hd 2 (by kernel_rfl) (by decide)
      go_simp
      have hK2 := hK (.tuple #[.agg #[.int .u64 36310271995674624, .int .u64 0], .agg #[.int .u64 1152921504606846976, .int .u64 257], .bool true, .int .i64 0]) _ (Below.refl _ _) rfl
      simp (config := { decide := true }) only [upd, if_true, if_false, dd2] at hK2
      exact hK2
    refine ⟨?_, ?_⟩
    · refine SlotStep.boxV (SpR_up w D E) rfl rfl (fun j s c h => by rcases kbx_at j s c h with h | h <;> omega) ?_
      intro ys W hR hd K hK
      have dd3 : ys 3 = (.tuple #[.agg #[.int .u64 36310271995674624, .int .u64 0], .agg #[.int .u64 1152921504606846976, .int .u64 257], .bool true, .int .i64 0]) := hd 3 (by kernel_rfl) (by decide)
      go_simp
      have hK2 := hK (.agg #[.int .u64 36310271995674624, .int .u64 0]) _ (Below.refl _ _) rfl
      simp (config := { decide := true }) only [upd, if_true, if_false, dd3] at hK2
      exact hK2
    refine ⟨?_, ?_⟩
    · refine SlotStep.boxV (SpR_up w D E) rfl rfl (fun j s c h => by rcases kbx_at j s c h with h | h <;> omega) ?_
      intro ys W hR hd K hK
      have dd3 : ys 3 = (.tuple #[.agg #[.int .u64 36310271995674624, .int .u64 0], .agg #[.int .u64 1152921504606846976, .int .u64 257], .bool true, .int .i64 0]) := hd 3 (by kernel_rfl) (by decide)
      go_simp
      have hK2 := hK (.agg #[.int .u64 1152921504606846976, .int .u64 257]) _ (Below.refl _ _) rfl
      simp (config := { decide := true }) only [upd, if_true, if_false, dd3] at hK2
      exact hK2
    refine ⟨?_, ?_⟩
    · refine SlotStep.boxV (SpR_up w D E) rfl rfl (fun j s c h => by rcases kbx_at j s c h with h | h <;> omega) ?_
      intro ys W hR hd K hK
      have dd3 : ys 3 = (.tuple #[.agg #[.int .u64 36310271995674624, .int .u64 0], .agg #[.int .u64 1152921504606846976, .int .u64 257], .bool true, .int .i64 0]) := hd 3 (by kernel_rfl) (by decide)
      go_simp
      have hK2 := hK (.bool true) _ (Below.refl _ _) rfl
      simp (config := { decide := true }) only [upd, if_true, if_false, dd3] at hK2
      exact hK2
    refine ⟨?_, ?_⟩
    · refine SlotStep.boxV (SpR_up w D E) rfl rfl (fun j s c h => by rcases kbx_at j s c h with h | h <;> omega) ?_
      intro ys W hR hd K hK
      have dd3 : ys 3 = (.tuple #[.agg #[.int .u64 36310271995674624, .int .u64 0], .agg #[.int .u64 1152921504606846976, .int .u64 257], .bool true, .int .i64 0]) := hd 3 (by kernel_rfl) (by decide)
      go_simp
      have hK2 := hK (.int .i64 0) _ (Below.refl _ _) rfl
      simp (config := { decide := true }) only [upd, if_true, if_false, dd3] at hK2
      exact hK2
    refine ⟨?_, ?_⟩
    · refine SlotStep.boxA (SpR_up w D E) (fun A h => h.1) rfl rfl rfl (by kernel_rfl) (fun j s c h => by rcases kbx_at j s c h with h | h <;> omega) (fun _ => trivial) ?_
      intro ys W hR K hK
      go_simp
      simp (config := { decide := true }) only [upd, if_true, if_false] at hK
      exact hK
    refine ⟨?_, ?_⟩
    · refine SlotStep.boxA (SpR_up w D E) (fun A h => h.1) rfl rfl rfl (by kernel_rfl) (fun j s c h => by rcases kbx_at j s c h with h | h <;> omega) (fun _ => trivial) ?_
      intro ys W hR K hK
      go_simp
      simp (config := { decide := true }) only [upd, if_true, if_false] at hK
      exact hK
    refine ⟨?_, ?_⟩
    · refine SlotStep.boxS (SpR_st w D E (by omega) (by omega)) rfl (j := 8) (c := #[.int .u64 36310271995674624, .int .u64 0]) rfl rfl (fun k s c h e => by rcases kbx_at k s c h with h | h <;> omega) (by kernel_rfl) (fun _ => trivial) ?_
      intro ys W b hR hd dB hDb hb K hK
      have dd4 : ys 4 = (.agg #[.int .u64 36310271995674624, .int .u64 0]) := hd 4 (by kernel_rfl) (by decide)
      have r0 := cell2_0 hb
      have r1 := cell2_1 hb
      have f0 := free2_0 hb
      have f1 := free2_1 hb
      go_simp
      have hK2 := hK undef _ (((Below.refl D W).setCell (p := ⟨b, 0, none⟩) hDb (.int .u64 36310271995674624)).setCell (p := ⟨b, 1, none⟩) hDb (.int .u64 0)) (set2_1 (x := .int .u64 0) (set2_0 (x := .int .u64 36310271995674624) hb)) (fun k hk => (set_other hk).trans (set_other hk))
      simp (config := { decide := true }) only [upd, if_false, dd4, dB] at hK2
      exact hK2
    refine ⟨?_, ?_⟩
    · refine SlotStep.boxS (SpR_st w D E (by omega) (by omega)) rfl (j := 9) (c := #[.int .u64 1152921504606846976, .int .u64 257]) rfl rfl (fun k s c h e => by rcases kbx_at k s c h with h | h <;> omega) (by kernel_rfl) (fun _ => trivial) ?_
      intro ys W b hR hd dB hDb hb K hK
      have dd5 : ys 5 = (.agg #[.int .u64 1152921504606846976, .int .u64 257]) := hd 5 (by kernel_rfl) (by decide)
      have r0 := cell2_0 hb
      have r1 := cell2_1 hb
      have f0 := free2_0 hb
      have f1 := free2_1 hb
      go_simp
      have hK2 := hK undef _ (((Below.refl D W).setCell (p := ⟨b, 0, none⟩) hDb (.int .u64 1152921504606846976)).setCell (p := ⟨b, 1, none⟩) hDb (.int .u64 257)) (set2_1 (x := .int .u64 257) (set2_0 (x := .int .u64 1152921504606846976) hb)) (fun k hk => (set_other hk).trans (set_other hk))
      simp (config := { decide := true }) only [upd, if_false, dd5, dB] at hK2
      exact hK2
    refine ⟨?_, ?_⟩
    · refine SlotStep.boxV (SpR_up w D E) rfl rfl (fun j s c h => by rcases kbx_at j s c h with h | h <;> omega) ?_
      intro ys W hR hd K hK
      have dd6 : ys 6 = (.bool true) := hd 6 (by kernel_rfl) (by decide)
      go_simp
      have hK2 := hK (.bool true) _ (Below.refl _ _) rfl
      simp (config := { decide := true }) only [upd, if_true, if_false, dd6] at hK2
      exact hK2
    refine ⟨?_, ?_⟩
    · refine SlotStep.boxV (SpR_up w D E) rfl rfl (fun j s c h => by rcases kbx_at j s c h with h | h <;> omega) ?_
      intro ys W hR hd K hK
      have dd7 : ys 7 = (.int .i64 0) := hd 7 (by kernel_rfl) (by decide)
      go_simp
      have hK2 := hK (.int .i64 0) _ (Below.refl _ _) rfl
      simp (config := { decide := true }) only [upd, if_true, if_false, dd7] at hK2
      exact hK2
    trivial
    · intro L ys W hL hI
      obtain ⟨b2, y8, d2, h2⟩ := hI.box 8 _ _ rfl (hL 8 (by decide))
      obtain ⟨b3, y9, d3, h3⟩ := hI.box 9 _ _ rfl (hL 9 (by decide))
      rw [if_pos (hL 10 (by decide))] at h2
      rw [if_pos (hL 11 (by decide))] at h3
      have y12 : ys 12 = .bool true := hI.vals 12 (by decide) (hL 12 (by decide))
      have y13 : ys 13 = .int .i64 0 := hI.vals 13 (by decide) (hL 13 (by decide))
      have HR := Lib.hid (show SpQ w E b2 b3 W from ⟨hI.rel.2.1, hI.rel.2.2, h2, h3⟩)
      clear hI h2 h3 hL d2 d3
      simp only [y8, y9, y12, y13]
      clear y8 y9 y12 y13
      go_wp2_with fail
      refine wp_region_slots_at rfl rfl (fun base ys => (((((((((base.set 22 (ys 0)).set 23 (ys 1)).set 24 (ys 2)).set 21 (ys 3)).set 25 (ys 4)).set 26 (ys 5)).set 27 (ys 6)).set 6 (ys 7)).set 7 (ys 8)).set 8 (ys 9)) (BelowI _ (SpQ w E b2 b3) knJ) (fun _ => undef) (by kernel_rfl) (below_start (SpQ_up w E b2 b3 W W.drew ⟨rfl, rfl, rfl, Nat.le_refl _, fun _ _ => rfl⟩ HR.out)) ?h3
      case h3 =>
        intro FF hFF
        simp only [List.set_cons_succ, List.set_cons_zero] at hFF
        subst hFF
        refine ⟨rfl, ?_, ?_⟩
        refine ⟨?_, ?_⟩
        · refine SlotStep.below (SpQ_up w E b2 b3) knJ_up ?_
          intro ys W hR hd K hK
          go_simp
          refine (player_any W).mono ?_
          rintro e w5 ⟨rfl, hb5⟩
          have hK2 := hK (.agg #[.int .i64 5, .int .i64 12, .int .i64 2, .int .i64 12]) _ hb5 rfl
          simp (config := { decide := true }) only [upd, if_true, if_false] at hK2
          exact hK2
        refine ⟨?_, ?_⟩
        · refine SlotStep.below (SpQ_up w E b2 b3) knJ_up ?_
          intro ys W hR hd K hK
          have c0 := cell2_0 hR.2.1
          have c1 := cell2_1 hR.2.1
          go_simp
          have hK2 := hK (.agg #[.int .u64 1189231776602521600, .int .u64 257]) _ (Below.refl _ _) rfl
          simp (config := { decide := true }) only [upd, if_true, if_false] at hK2
          exact hK2
        refine ⟨?_, ?_⟩
        · refine SlotStep.below (SpQ_up w E b2 b3) knJ_up ?_
          intro ys W hR hd K hK
          have dd0 : ys 0 = (.agg #[.int .i64 5, .int .i64 12, .int .i64 2, .int .i64 12]) := hd 0 (by kernel_rfl) (by decide)
          have dd1 : ys 1 = (.agg #[.int .u64 1189231776602521600, .int .u64 257]) := hd 1 (by kernel_rfl) (by decide)
          go_simp
          refine (LS.out W (G.below hR.1)).mono ?_
          rintro e w5 ⟨rfl, hb5⟩
          have hK2 := hK (.tuple #[.int .i64 12, .bool true, .int .i64 0]) _ hb5 rfl
          simp (config := { decide := true }) only [upd, if_true, if_false, dd0, dd1] at hK2
          exact hK2
        refine ⟨?_, ?_⟩
        · refine SlotStep.below (SpQ_up w E b2 b3) knJ_up ?_
          intro ys W hR hd K hK
          have dd2 : ys 2 = (.tuple #[.int .i64 12, .bool true, .int .i64 0]) := hd 2 (by kernel_rfl) (by decide)
          go_simp
          have hK2 := hK (.tuple #[.int .i64 12, .bool true, .int .i64 0]) _ (Below.refl _ _) rfl
          simp (config := { decide := true }) only [upd, if_true, if_false, dd2] at hK2
          exact hK2
        refine ⟨?_, ?_⟩
        · refine SlotStep.below (SpQ_up w E b2 b3) knJ_up ?_
          intro ys W hR hd K hK
          have dd3 : ys 3 = (.tuple #[.int .i64 12, .bool true, .int .i64 0]) := hd 3 (by kernel_rfl) (by decide)
          go_simp
          have hK2 := hK (.int .i64 12) _ (Below.refl _ _) rfl
          simp (config := { decide := true }) only [upd, if_true, if_false, dd3] at hK2
          exact hK2
        refine ⟨?_, ?_⟩
        · refine SlotStep.below (SpQ_up w E b2 b3) knJ_up ?_
          intro ys W hR hd K hK
          have dd3 : ys 3 = (.tuple #[.int .i64 12, .bool true, .int .i64 0]) := hd 3 (by kernel_rfl) (by decide)
          go_simp
          have hK2 := hK (.bool true) _ (Below.refl _ _) rfl
          simp (config := { decide := true }) only [upd, if_true, if_false, dd3] at hK2
          exact hK2
        refine ⟨?_, ?_⟩
        · refine SlotStep.below (SpQ_up w E b2 b3) knJ_up ?_
          intro ys W hR hd K hK
          have dd3 : ys 3 = (.tuple #[.int .i64 12, .bool true, .int .i64 0]) := hd 3 (by kernel_rfl) (by decide)
          go_simp
          have hK2 := hK (.int .i64 0) _ (Below.refl _ _) rfl
          simp (config := { decide := true }) only [upd, if_true, if_false, dd3] at hK2
          exact hK2
        refine ⟨?_, ?_⟩
        · refine SlotStep.below (SpQ_up w E b2 b3) knJ_up ?_
          intro ys W hR hd K hK
          have dd4 : ys 4 = (.int .i64 12) := hd 4 (by kernel_rfl) (by decide)
          go_simp
          have hK2 := hK (.int .i64 12) _ (Below.refl _ _) rfl
          simp (config := { decide := true }) only [upd, if_true, if_false, dd4] at hK2
          exact hK2
        refine ⟨?_, ?_⟩
        · refine SlotStep.below (SpQ_up w E b2 b3) knJ_up ?_
          intro ys W hR hd K hK
          have dd5 : ys 5 = (.bool true) := hd 5 (by kernel_rfl) (by decide)
          go_simp
          have hK2 := hK (.bool true) _ (Below.refl _ _) rfl
          simp (config := { decide := true }) only [upd, if_true, if_false, dd5] at hK2
          exact hK2
        refine ⟨?_, ?_⟩
        · refine SlotStep.below (SpQ_up w E b2 b3) knJ_up ?_
          intro ys W hR hd K hK
          have dd6 : ys 6 = (.int .i64 0) := hd 6 (by kernel_rfl) (by decide)
          go_simp
          have hK2 := hK (.int .i64 0) _ (Below.refl _ _) rfl
          simp (config := { decide := true }) only [upd, if_true, if_false, dd6] at hK2
          exact hK2
        trivial
        · intro L3 ys3 W3 hL3 hI3
          obtain ⟨hR3, hj3⟩ := hI3
          have y7 : ys3 7 = .int .i64 12 := hj3 7 (by decide) (hL3 7 (by decide))
          have y8 : ys3 8 = .bool true := hj3 8 (by decide) (hL3 8 (by decide))
          have y9 : ys3 9 = .int .i64 0 := hj3 9 (by decide) (hL3 9 (by decide))
          have HR := Lib.hid hR3
          clear hR3 hj3 hL3
          simp only [y7, y8, y9]
          clear y7 y8 y9
          go_wp2_with fail
          refine (player_any W3).mono ?_
          rintro e w4 ⟨rfl, hb4⟩
          have HR := Lib.hid (SpQ_up w E b2 b3 W3 w4 hb4 HR.out)
          clear hb4
          go_wp2_with fail
          refine (CO.out w4 (G.below HR.out.1)).mono ?_
          rintro e w5 ⟨rfl, hb5⟩
          have HR := Lib.hid (SpQ_up w E b2 b3 w4 w5 hb5 HR.out)
          clear hb5
          go_wp2_with fail
          refine wp_region_slots_at rfl rfl (fun base ys => ((((((((((((((((((((((((((((((((((((base.set 34 (ys 0)).set 35 (ys 1)).set 36 (ys 2)).set 37 (ys 3)).set 38 (ys 4)).set 39 (ys 5)).set 40 (ys 6)).set 41 (ys 7)).set 42 (ys 8)).set 43 (ys 9)).set 44 (ys 10)).set 45 (ys 11)).set 46 (ys 12)).set 47 (ys 13)).set 48 (ys 14)).set 49 (ys 15)).set 50 (ys 16)).set 51 (ys 17)).set 52 (ys 18)).set 53 (ys 19)).set 54 (ys 20)).set 55 (ys 21)).set 56 (ys 22)).set 57 (ys 23)).set 58 (ys 24)).set 59 (ys 25)).set 60 (ys 26)).set 61 (ys 27)).set 62 (ys 28)).set 63 (ys 29)).set 64 (ys 30)).set 65 (ys 31)).set 66 (ys 32)).set 67 (ys 33)).set 68 (ys 34)).set 69 (ys 35)).set 0 (ys 36)) (BelowI _ (SpQ w E b2 b3) knL) (fun | 36 => .bool false | _ => undef) (by kernel_rfl) (below_start (SpQ_up w E b2 b3 w5 w5.drew ⟨rfl, rfl, rfl, Nat.le_refl _, fun _ _ => rfl⟩ HR.out)) ?h5
          case h5 =>
            intro FF hFF
            simp only [List.set_cons_succ, List.set_cons_zero] at hFF
            subst hFF
            refine ⟨rfl, ?_, ?_⟩
            refine ⟨?_, ?_⟩
            · refine SlotStep.below (SpQ_up w E b2 b3) knL_up ?_
              intro ys W hR hd K hK
              go_simp
              have hK2 := hK (.int .i64 0) _ (Below.refl _ _) rfl
              simp (config := { decide := true }) only [upd, if_true, if_false] at hK2
              exact hK2
            refine ⟨?_, ?_⟩
            · refine SlotStep.below (SpQ_up w E b2 b3) knL_up ?_
              intro ys W hR hd K hK
              have dd0 : ys 0 = (.int .i64 0) := hd 0 (by kernel_rfl) (by decide)
              go_simp
              have hK2 := hK (.bool true) _ (Below.refl _ _) rfl
              simp (config := { decide := true }) only [upd, if_true, if_false, dd0] at hK2
              exact hK2
            refine ⟨?_, ?_⟩
            · refine SlotStep.below (SpQ_up w E b2 b3) knL_up ?_
              intro ys W hR hd K hK
              have dd1 : ys 1 = (.bool true) := hd 1 (by kernel_rfl) (by decide)
              go_simp
              have hK2 := hK (.bool true) _ (Below.refl _ _) rfl
              simp (config := { decide := true }) only [upd, if_true, if_false, dd1] at hK2
              exact hK2
            refine ⟨?_, ?_⟩
            · refine SlotStep.below (SpQ_up w E b2 b3) knL_up ?_
              intro ys W hR hd K hK
              have dd2 : ys 2 = (.bool true) := hd 2 (by kernel_rfl) (by decide)
              go_simp
              have hK2 := hK (.bool true) _ (Below.refl _ _) rfl
              simp (config := { decide := true }) only [upd, if_true, if_false, dd2] at hK2
              exact hK2
            refine ⟨?_, ?_⟩
            · refine SlotStep.below (SpQ_up w E b2 b3) knL_up ?_
              intro ys W hR hd K hK
              have dd2 : ys 2 = (.bool true) := hd 2 (by kernel_rfl) (by decide)
              have dd3 : ys 3 = (.bool true) := hd 3 (by kernel_rfl) (by decide)
              go_simp
              have hK2 := hK (.bool true) _ (Below.refl _ _) rfl
              simp (config := { decide := true }) only [upd, if_true, if_false, dd2, dd3] at hK2
              exact hK2
            refine ⟨?_, ?_⟩
            · refine SlotStep.below (SpQ_up w E b2 b3) knL_up ?_
              intro ys W hR hd K hK
              have dd4 : ys 4 = (.bool true) := hd 4 (by kernel_rfl) (by decide)
              go_simp
              have hK2 := hK (.bool true) _ (Below.refl _ _) rfl
              simp (config := { decide := true }) only [upd, if_true, if_false, dd4] at hK2
              exact hK2
            refine ⟨?_, ?_⟩
            · refine SlotStep.below (SpQ_up w E b2 b3) knL_up ?_
              intro ys W hR hd K hK
              have dd5 : ys 5 = (.bool true) := hd 5 (by kernel_rfl) (by decide)
              have c0 := cell2_0 hR.2.2.1
              have c1 := cell2_1 hR.2.2.1
              go_simp
              have hK2 := hK (.agg #[.int .u64 36310271995674624, .int .u64 0]) _ (Below.refl _ _) rfl
              simp (config := { decide := true }) only [upd, if_true, if_false, dd5] at hK2
              exact hK2
            refine ⟨?_, ?_⟩
            · refine SlotStep.below (SpQ_up w E b2 b3) knL_up ?_
              intro ys W hR hd K hK
              have dd5 : ys 5 = (.bool true) := hd 5 (by kernel_rfl) (by decide)
              go_simp
              have hK2 := hK (.slice (some ⟨W.heap.size, 0, none⟩) 2 2) _ ((Below.refl _ _).alloc (Nat.le_refl _) _) ⟨_, rfl, heap_new rfl⟩
              simp (config := { decide := true }) only [upd, if_true, if_false, dd5] at hK2
              exact hK2
            refine ⟨?_, ?_⟩
            · refine SlotStep.below (SpQ_up w E b2 b3) knL_up ?_
              intro ys W hR hd K hK
              have dd5 : ys 5 = (.bool true) := hd 5 (by kernel_rfl) (by decide)
              obtain ⟨bb, ds1, hbb⟩ : ∃ b, ys 7 = .slice (some ⟨b, 0, none⟩) 2 2 ∧ W.heap[b]? = some (.cells #[.int .i64 48, .int .i64 55] 3) := hd 7 (by kernel_rfl) (by decide)
              go_simp
              refine (OF2.out bb W hbb).mono ?_
              rintro e w5 ⟨rfl, hb5⟩
              have hK2 := hK (.agg #[.int .u64 36310271995674624, .int .u64 0]) _ hb5 rfl
              simp (config := { decide := true }) only [upd, if_true, if_false, dd5, ds1] at hK2
              exact hK2
            refine ⟨?_, ?_⟩
            · refine SlotStep.below (SpQ_up w E b2 b3) knL_up ?_
              intro ys W hR hd K hK
              have dd5 : ys 5 = (.bool true) := hd 5 (by kernel_rfl) (by decide)
              have dd6 : ys 6 = (.agg #[.int .u64 36310271995674624, .int .u64 0]) := hd 6 (by kernel_rfl) (by decide)
              have dd8 : ys 8 = (.agg #[.int .u64 36310271995674624, .int .u64 0]) := hd 8 (by kernel_rfl) (by decide)
              have heq := HEQ1.out
              go_simp
              have hK2 := hK (.bool true) _ (Below.refl _ _) rfl
              simp (config := { decide := true }) only [upd, if_true, if_false, dd5, dd6, dd8] at hK2
              exact hK2
            refine ⟨?_, ?_⟩
            · refine SlotStep.below (SpQ_up w E b2 b3) knL_up ?_
              intro ys W hR hd K hK
              have dd5 : ys 5 = (.bool true) := hd 5 (by kernel_rfl) (by decide)
              have dd9 : ys 9 = (.bool true) := hd 9 (by kernel_rfl) (by decide)
              go_simp
              have hK2 := hK (.bool true) _ (Below.refl _ _) rfl
              simp (config := { decide := true }) only [upd, if_true, if_false, dd5, dd9] at hK2
              exact hK2
            refine ⟨?_, ?_⟩
            · refine SlotStep.below (SpQ_up w E b2 b3) knL_up ?_
              intro ys W hR hd K hK
              have dd10 : ys 10 = (.bool true) := hd 10 (by kernel_rfl) (by decide)
              go_simp
              have hK2 := hK (.bool true) _ (Below.refl _ _) rfl
              simp (config := { decide := true }) only [upd, if_true, if_false, dd10] at hK2
              exact hK2
            refine ⟨?_, ?_⟩
            · refine SlotStep.below (SpQ_up w E b2 b3) knL_up ?_
              intro ys W hR hd K hK
              have dd11 : ys 11 = (.bool true) := hd 11 (by kernel_rfl) (by decide)
              have c0 := cell2_0 hR.2.2.2
              have c1 := cell2_1 hR.2.2.2
              go_simp
              have hK2 := hK (.agg #[.int .u64 1152921504606846976, .int .u64 257]) _ (Below.refl _ _) rfl
              simp (config := { decide := true }) only [upd, if_true, if_false, dd11] at hK2
              exact hK2
            refine ⟨?_, ?_⟩
            · refine SlotStep.below (SpQ_up w E b2 b3) knL_up ?_
              intro ys W hR hd K hK
              have dd11 : ys 11 = (.bool true) := hd 11 (by kernel_rfl) (by decide)
              go_simp
              have hK2 := hK (.slice (some ⟨W.heap.size, 0, none⟩) 3 3) _ ((Below.refl _ _).alloc (Nat.le_refl _) _) ⟨_, rfl, heap_new rfl⟩
              simp (config := { decide := true }) only [upd, if_true, if_false, dd11] at hK2
              exact hK2
            refine ⟨?_, ?_⟩
            · refine SlotStep.below (SpQ_up w E b2 b3) knL_up ?_
              intro ys W hR hd K hK
              have dd11 : ys 11 = (.bool true) := hd 11 (by kernel_rfl) (by decide)
              obtain ⟨bb, ds1, hbb⟩ : ∃ b, ys 13 = .slice (some ⟨b, 0, none⟩) 3 3 ∧ W.heap[b]? = some (.cells #[.int .i64 60, .int .i64 64, .int .i64 72] 3) := hd 13 (by kernel_rfl) (by decide)
              go_simp
              refine (OF3.out bb W hbb).mono ?_
              rintro e w5 ⟨rfl, hb5⟩
              have hK2 := hK (.agg #[.int .u64 1152921504606846976, .int .u64 257]) _ hb5 rfl
              simp (config := { decide := true }) only [upd, if_true, if_false, dd11, ds1] at hK2
              exact hK2
            refine ⟨?_, ?_⟩
            · refine SlotStep.below (SpQ_up w E b2 b3) knL_up ?_
              intro ys W hR hd K hK
              have dd11 : ys 11 = (.bool true) := hd 11 (by kernel_rfl) (by decide)
              have dd12 : ys 12 = (.agg #[.int .u64 1152921504606846976, .int .u64 257]) := hd 12 (by kernel_rfl) (by decide)
              have dd14 : ys 14 = (.agg #[.int .u64 1152921504606846976, .int .u64 257]) := hd 14 (by kernel_rfl) (by decide)
              have heq := HEQ2.out
              go_simp
              have hK2 := hK (.bool true) _ (Below.refl _ _) rfl
              simp (config := { decide := true }) only [upd, if_true, if_false, dd11, dd12, dd14] at hK2
              exact hK2
            refine ⟨?_, ?_⟩
            · refine SlotStep.below (SpQ_up w E b2 b3) knL_up ?_
              intro ys W hR hd K hK
              have dd11 : ys 11 = (.bool true) := hd 11 (by kernel_rfl) (by decide)
              have dd15 : ys 15 = (.bool true) := hd 15 (by kernel_rfl) (by decide)
              go_simp
              have hK2 := hK (.bool true) _ (Below.refl _ _) rfl
              simp (config := { decide := true }) only [upd, if_true, if_false, dd11, dd15] at hK2
              exact hK2
            refine ⟨?_, ?_⟩
            · refine SlotStep.below (SpQ_up w E b2 b3) knL_up ?_
              intro ys W hR hd K hK
              have dd16 : ys 16 = (.bool true) := hd 16 (by kernel_rfl) (by decide)
              go_simp
              have hK2 := hK (.bool true) _ (Below.refl _ _) rfl
              simp (config := { decide := true }) only [upd, if_true, if_false, dd16] at hK2
              exact hK2
            refine ⟨?_, ?_⟩
            · refine SlotStep.below (SpQ_up w E b2 b3) knL_up ?_
              intro ys W hR hd K hK
              have dd17 : ys 17 = (.bool true) := hd 17 (by kernel_rfl) (by decide)
              go_simp
              have hK2 := hK (.int .i64 0) _ (Below.refl _ _) rfl
              simp (config := { decide := true }) only [upd, if_true, if_false, dd17] at hK2
              exact hK2
            refine ⟨?_, ?_⟩
            · refine SlotStep.below (SpQ_up w E b2 b3) knL_up ?_
              intro ys W hR hd K hK
              have dd17 : ys 17 = (.bool true) := hd 17 (by kernel_rfl) (by decide)
              have dd18 : ys 18 = (.int .i64 0) := hd 18 (by kernel_rfl) (by decide)
              go_simp
              have hK2 := hK (.bool true) _ (Below.refl _ _) rfl
              simp (config := { decide := true }) only [upd, if_true, if_false, dd17, dd18] at hK2
              exact hK2
            refine ⟨?_, ?_⟩
            · refine SlotStep.below (SpQ_up w E b2 b3) knL_up ?_
              intro ys W hR hd K hK
              have dd17 : ys 17 = (.bool true) := hd 17 (by kernel_rfl) (by decide)
              have dd19 : ys 19 = (.bool true) := hd 19 (by kernel_rfl) (by decide)
              go_simp
              have hK2 := hK (.bool true) _ (Below.refl _ _) rfl
              simp (config := { decide := true }) only [upd, if_true, if_false, dd17, dd19] at hK2
              exact hK2
            refine ⟨?_, ?_⟩
            · refine SlotStep.below (SpQ_up w E b2 b3) knL_up ?_
              intro ys W hR hd K hK
              have dd20 : ys 20 = (.bool true) := hd 20 (by kernel_rfl) (by decide)
              go_simp
              have hK2 := hK (.bool true) _ (Below.refl _ _) rfl
              simp (config := { decide := true }) only [upd, if_true, if_false, dd20] at hK2
              exact hK2
            refine ⟨?_, ?_⟩
            · refine SlotStep.below (SpQ_up w E b2 b3) knL_up ?_
              intro ys W hR hd K hK
              have dd21 : ys 21 = (.bool true) := hd 21 (by kernel_rfl) (by decide)
              go_simp
              have hK2 := hK (.bool true) _ (Below.refl _ _) rfl
              simp (config := { decide := true }) only [upd, if_true, if_false, dd21] at hK2
              exact hK2
            refine ⟨?_, ?_⟩
            · refine SlotStep.below (SpQ_up w E b2 b3) knL_up ?_
              intro ys W hR hd K hK
              have dd21 : ys 21 = (.bool true) := hd 21 (by kernel_rfl) (by decide)
              have dd22 : ys 22 = (.bool true) := hd 22 (by kernel_rfl) (by decide)
              go_simp
              have hK2 := hK (.bool true) _ (Below.refl _ _) rfl
              simp (config := { decide := true }) only [upd, if_true, if_false, dd21, dd22] at hK2
              exact hK2
            refine ⟨?_, ?_⟩
            · refine SlotStep.below (SpQ_up w E b2 b3) knL_up ?_
              intro ys W hR hd K hK
              have dd23 : ys 23 = (.bool true) := hd 23 (by kernel_rfl) (by decide)
              go_simp
              have hK2 := hK (.bool true) _ (Below.refl _ _) rfl
              simp (config := { decide := true }) only [upd, if_true, if_false, dd23] at hK2
              exact hK2
            refine ⟨?_, ?_⟩
            · refine SlotStep.below (SpQ_up w E b2 b3) knL_up ?_
              intro ys W hR hd K hK
              have dd24 : ys 24 = (.bool true) := hd 24 (by kernel_rfl) (by decide)
              go_simp
              have hK2 := hK (.int .i64 12) _ (Below.refl _ _) rfl
              simp (config := { decide := true }) only [upd, if_true, if_false, dd24] at hK2
              exact hK2
            refine ⟨?_, ?_⟩
            · refine SlotStep.below (SpQ_up w E b2 b3) knL_up ?_
              intro ys W hR hd K hK
              have dd24 : ys 24 = (.bool true) := hd 24 (by kernel_rfl) (by decide)
              have dd25 : ys 25 = (.int .i64 12) := hd 25 (by kernel_rfl) (by decide)
              go_simp
              have hK2 := hK (.bool true) _ (Below.refl _ _) rfl
              simp (config := { decide := true }) only [upd, if_true, if_false, dd24, dd25] at hK2
              exact hK2
            refine ⟨?_, ?_⟩
            · refine SlotStep.below (SpQ_up w E b2 b3) knL_up ?_
              intro ys W hR hd K hK
              have dd24 : ys 24 = (.bool true) := hd 24 (by kernel_rfl) (by decide)
              have dd26 : ys 26 = (.bool true) := hd 26 (by kernel_rfl) (by decide)
              go_simp
              have hK2 := hK (.bool true) _ (Below.refl _ _) rfl
              simp (config := { decide := true }) only [upd, if_true, if_false, dd24, dd26] at hK2
              exact hK2
            refine ⟨?_, ?_⟩
            · refine SlotStep.below (SpQ_up w E b2 b3) knL_up ?_
              intro ys W hR hd K hK
              have dd27 : ys 27 = (.bool true) := hd 27 (by kernel_rfl) (by decide)
              go_simp
              have hK2 := hK (.bool true) _ (Below.refl _ _) rfl
              simp (config := { decide := true }) only [upd, if_true, if_false, dd27] at hK2
              exact hK2
            refine ⟨?_, ?_⟩
            · refine SlotStep.below (SpQ_up w E b2 b3) knL_up ?_
              intro ys W hR hd K hK
              have dd28 : ys 28 = (.bool true) := hd 28 (by kernel_rfl) (by decide)
              go_simp
              have hK2 := hK (.int .i64 0) _ (Below.refl _ _) rfl
              simp (config := { decide := true }) only [upd, if_true, if_false, dd28] at hK2
              exact hK2
            refine ⟨?_, ?_⟩
            · refine SlotStep.below (SpQ_up w E b2 b3) knL_up ?_
              intro ys W hR hd K hK
              have dd28 : ys 28 = (.bool true) := hd 28 (by kernel_rfl) (by decide)
              have dd29 : ys 29 = (.int .i64 0) := hd 29 (by kernel_rfl) (by decide)
              go_simp
              have hK2 := hK (.bool true) _ (Below.refl _ _) rfl
              simp (config := { decide := true }) only [upd, if_true, if_false, dd28, dd29] at hK2
              exact hK2
            refine ⟨?_, ?_⟩
            · refine SlotStep.below (SpQ_up w E b2 b3) knL_up ?_
              intro ys W hR hd K hK
              have dd28 : ys 28 = (.bool true) := hd 28 (by kernel_rfl) (by decide)
              have dd30 : ys 30 = (.bool true) := hd 30 (by kernel_rfl) (by decide)
              go_simp
              have hK2 := hK (.bool true) _ (Below.refl _ _) rfl
              simp (config := { decide := true }) only [upd, if_true, if_false, dd28, dd30] at hK2
              exact hK2
            refine ⟨?_, ?_⟩
            · refine SlotStep.below (SpQ_up w E b2 b3) knL_up ?_
              intro ys W hR hd K hK
              have dd31 : ys 31 = (.bool true) := hd 31 (by kernel_rfl) (by decide)
              go_simp
              have hK2 := hK (.bool true) _ (Below.refl _ _) rfl
              simp (config := { decide := true }) only [upd, if_true, if_false, dd31] at hK2
              exact hK2
            refine ⟨?_, ?_⟩
            · refine SlotStep.below (SpQ_up w E b2 b3) knL_up ?_
              intro ys W hR hd K hK
              have dd32 : ys 32 = (.bool true) := hd 32 (by kernel_rfl) (by decide)
              go_simp
              have hK2 := hK (.int .i64 8) _ (Below.refl _ _) rfl
              simp (config := { decide := true }) only [upd, if_true, if_false, dd32] at hK2
              exact hK2
            refine ⟨?_, ?_⟩
            · refine SlotStep.below (SpQ_up w E b2 b3) knL_up ?_
              intro ys W hR hd K hK
              have dd32 : ys 32 = (.bool true) := hd 32 (by kernel_rfl) (by decide)
              have dd33 : ys 33 = (.int .i64 8) := hd 33 (by kernel_rfl) (by decide)
              go_simp
              have hK2 := hK (.bool true) _ (Below.refl _ _) rfl
              simp (config := { decide := true }) only [upd, if_true, if_false, dd32, dd33] at hK2
              exact hK2
            refine ⟨?_, ?_⟩
            · refine SlotStep.below (SpQ_up w E b2 b3) knL_up ?_
              intro ys W hR hd K hK
              have dd32 : ys 32 = (.bool true) := hd 32 (by kernel_rfl) (by decide)
              have dd34 : ys 34 = (.bool true) := hd 34 (by kernel_rfl) (by decide)
              go_simp
              have hK2 := hK (.bool true) _ (Below.refl _ _) rfl
              simp (config := { decide := true }) only [upd, if_true, if_false, dd32, dd34] at hK2
              exact hK2
            refine ⟨?_, ?_⟩
            · refine SlotStep.below (SpQ_up w E b2 b3) knL_up ?_
              intro ys W hR hd K hK
              have dd35 : ys 35 = (.bool true) := hd 35 (by kernel_rfl) (by decide)
              go_simp
              have hK2 := hK (.bool true) _ (Below.refl _ _) rfl
              simp (config := { decide := true }) only [upd, if_true, if_false, dd35] at hK2
              exact hK2
            trivial
            · intro L5 ys5 W5 hL5 hI5
              obtain ⟨hR5, hj5⟩ := hI5
              have y := hj5 36 (by decide) (hL5 36 (by decide))
              have y : ys5 36 = .bool true := y
              have HW := Lib.hid hR5.1
              clear hR5 hj5 hL5
              simp only [y]
              go_wp2
              go_ret
              exact ⟨rfl, HW.out⟩
end Go.Proofs.YtinopmdefndhoaaDoor
