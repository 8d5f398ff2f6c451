/- The contract of pitch's Feet. -/
import Derived.Test.YtkoljddejjfbiaaGreatDoorPtP
namespace Go.Proofs.YtkoljddejjfbiaaGreatDoor
open Go Go.RowKit Go.Shelf
attribute [local go_sem] Oper.semAt_some
attribute [local go_sem] wide_fn wide_depth

/-- What Feet answers. -/
def ftV (n : Int) : Value := match us.find? (fun t => decide (t.2.2 = n)) with
  | some t => .tuple #[.agg #[.int .i64 t.1, .int .i64 t.2.1], .int .i64 0]
  | none => .tuple #[.agg #[.int .i64 0, .int .i64 0], .int .i64 18]
theorem find_hit {n : Int} {pre post : List (Int × Int × Int)} {t : Int × Int × Int} {l : List (Int × Int × Int)} (h : l = pre ++ t :: post) (hp : ∀ x ∈ pre, x.2.2 ≠ n) (ht : t.2.2 = n) :
    l.find? (fun t => decide (t.2.2 = n)) = some t := by
  rw [h, List.find?_append, List.find?_eq_none.2 (fun x hx => by simpa using hp x hx)]
  simp [ht]
theorem find_none {n : Int} {l : List (Int × Int × Int)} (hp : ∀ x ∈ l, x.2.2 ≠ n) : l.find? (fun t => decide (t.2.2 = n)) = none :=
  List.find?_eq_none.2 (fun x hx => by simpa using hp x hx)
structure FtR (w : World) (D : Nat) (n x y e : Int) (A : World) : Prop where
  bel : Below D w A
  p0 : A.heap[D]? = some (.cells #[.int .i64 n] 3)
  p1 : A.heap[D + 1]? = some (.cells #[.int .i64 x, .int .i64 y] 23)
  p2 : A.heap[D + 1 + 1]? = some (.cells #[.int .i64 e] 25)
theorem FtR.up {w : World} {D : Nat} {n x y e : Int} {A B : World} {C : Nat} (h : FtR w D n x y e A) (hC : D + 3 ≤ C) (hb : Below C A B) : FtR w D n x y e B :=
  ⟨h.bel.trans (hb.mono (by omega)), (hb.block D (by omega)).trans h.p0, (hb.block (D + 1) (by omega)).trans h.p1, (hb.block (D + 1 + 1) (by omega)).trans h.p2⟩
theorem FtR.size {w : World} {D : Nat} {n x y e : Int} {A : World} (h : FtR w D n x y e A) : D + 3 ≤ A.heap.size := by
  have := (Array.getElem?_eq_some_iff.1 h.p2).1; omega
theorem cell1_0 {W : World} {b : Nat} {c0 : Value} {T : TypeId} (h : W.heap[b]? = some (.cells #[c0] T)) : W.cell? ⟨b, 0, none⟩ = some c0 := by simp [World.cell?, h]
theorem free1_0 {W : World} {b : Nat} {c0 : Value} {T : TypeId} (h : W.heap[b]? = some (.cells #[c0] T)) : W.frozen? ⟨b, 0, none⟩ = false := by simp [World.frozen?, h]
theorem set1_0 {W : World} {b : Nat} {c0 x : Value} {T : TypeId} (h : W.heap[b]? = some (.cells #[c0] T)) : (W.setCell ⟨b, 0, none⟩ x).heap[b]? = some (.cells #[x] T) := by
  simp only [World.setCell, Array.getElem?_modify, if_true, h, Option.map_some]
  rfl
def ftI (n x y s : Int) (r : Bool) : Nat → Value → World → Prop
  | 0, v, _ => v = .agg #[.int .i64 x, .int .i64 y]
  | 1, v, _ => v = .agg #[.int .i64 (8 * y), .int .i64 x]
  | 2, v, _ => v = .int .i64 s
  | 3, v, _ => v = .int .i64 n
  | 4, v, _ => v = .bool r
  | _, _, _ => True
theorem ftI_up (n x y s : Int) (r : Bool) : ∀ (j : Nat) (v : Value) (A B : World), Below A.heap.size A B → ftI n x y s r j v A → ftI n x y s r j v B
  | 0, _, _, _, _, h => h
  | 1, _, _, _, _, h => h
  | 2, _, _, _, _, h => h
  | 3, _, _, _, _, h => h
  | 4, _, _, _, _, h => h
  | _ + 5, _, _, _, _, _ => trivial
/-- Three stores, as Feet makes them. -/
def st3 (w : World) (k : Nat) (x y e : Int) : World := ((w.setCell ⟨k, 0, none⟩ (.int .i64 x)).setCell ⟨k, 1, none⟩ (.int .i64 y)).setCell ⟨k + 1, 0, none⟩ (.int .i64 e)
theorem st3_other {w : World} {k j : Nat} {x y e : Int} (h : j ≠ k ∧ j ≠ k + 1) : (st3 w k x y e).heap[j]? = w.heap[j]? := (set_other h.2).trans ((set_other h.1).trans (set_other h.1))
theorem FtR.st {w : World} {D : Nat} {n x y e : Int} {A : World} (h : FtR w D n x y e A) (x' y' e' : Int) : FtR w D n x' y' e' (st3 A (D + 1) x' y' e') :=
  ⟨((h.bel.setCell (by show D ≤ D + 1; omega) _).setCell (by show D ≤ D + 1; omega) _).setCell (by show D ≤ D + 1 + 1; omega) _, (st3_other (by omega)).trans h.p0,
   (set_other (by omega)).trans (set2_1 (set2_0 h.p1)), set1_0 ((set_other (by omega)).trans ((set_other (by omega)).trans h.p2))⟩
theorem st3_kr {n₁ b : Nat} {A : World} {k : Nat} {x y e : Int} (h : k + 2 ≤ n₁) (hb : n₁ ≤ b) : Rn.Kr n₁ b A (st3 A k x y e) :=
  ⟨by simp [st3, World.setCell], fun j o hj hc => (st3_other (by rcases hc with ⟨hc, _⟩ | ⟨hc, _⟩ <;> omega)).trans hj⟩

set_option maxRecDepth 100000 in
set_option maxHeartbeats 4000000 in
theorem feet_c (n : Int) (w : World) (P : Pg w) (U : Us w) :
    Calls Tryz.prog 23 #[.int .i64 n] w fun e w' => e = .returned (ftV n) ∧ Below w.heap.size w w' := by
  obtain ⟨R, hR⟩ : ∃ R, ftV n = R := ⟨_, rfl⟩
  rw [hR]
  unfold ftV at hR
  have HR := Lib.hid hR
  clear hR
  obtain ⟨D, hD⟩ : ∃ D, w.heap.size = D := ⟨_, rfl⟩
  refine (callsIn_wide (n := 9)).1 ?_
  refine callsIn_of_wp_marks Tryz.func23 rfl trivial ?_ rfl
  simp only [Tryz.ntmps23, List.size_toArray, List.length_cons, List.length_nil, Nat.reduceAdd, Nat.reduceSub, Array.replicate_succ, Array.replicate_zero, List.push_toArray, List.append_toArray, List.nil_append, List.cons_append]
  gi_wp2_with fail
  refine (callsIn_wide.2 (low_c _)).mono ?_
  rintro e w' ⟨rfl, rfl⟩
  gi_wp2_with fail
  obtain ⟨V, hV⟩ : ∃ V, ((w.alloc (.cells #[.int .i64 n] 3)).alloc (.cells #[.int .i64 0, .int .i64 0] 23)).alloc (.cells #[.int .i64 0] 25) = V := ⟨_, rfl⟩
  have hzV : V.heap.size = D + 3 := by rw [← hV]; simp [hD]
  have hFV : FtR w D n 0 0 0 V := by
    rw [← hV]
    exact ⟨((((Below.refl _ w).alloc (by omega) _).alloc (by simp; omega) _).alloc (by simp; omega) _), heap_old (heap_old (heap_new hD.symm)), heap_old (heap_new (by simp [hD])), heap_new (by simp [hD])⟩
  try rw [hV]
  clear hV
  refine Rn.range_all rfl (by omega) (gf := 65) (lb := #[]) rfl trivial (enters_of Tryz.func65 (by kernel_rfl) rfl) (n₁ := D + 3) (by omega)
    (low_gives (D + 3) 8 V (by omega)) (fun _ => rfl)
    (fun (pre : List (Int × Int × Int)) A => (∀ t ∈ pre, t.2.2 ≠ n) ∧ FtR w D n 0 0 0 A)
    (fun k (pre : List (Int × Int × Int)) A => k = .ret ∧ ∃ (pre' : List (Int × Int × Int)) (x y s : Int), pre = pre' ++ [(x, y, s)] ∧ (∀ t ∈ pre', t.2.2 ≠ n) ∧ s = n ∧ FtR w D n x y 0 A)
    (fun s A B h st => ⟨h.1, h.2.up (Nat.le_refl _) st.below⟩)
    (fun k s A B ⟨h1, pre', x, y, z, h2, h3, h4, h5⟩ st => ⟨h1, pre', x, y, z, h2, h3, h4, h5.up (Nat.le_refl _) st.below⟩)
    (fun s A h => U.below (by rw [hD]; exact h.2.bel))
    ⟨by simp, hFV⟩
    (fun t a' A => ∃ b4, D + 3 ≤ b4 ∧ A.heap[b4]? = some (.cells #[.int .i64 t.1, .int .i64 t.2.1] 23) ∧ a' = { tmps := #[.int .i64 n, .pointer (some ⟨D, 0, none⟩), .pointer (some ⟨D + 1, 0, none⟩), .pointer (some ⟨D + 1 + 1, 0, none⟩), .pointer (some ⟨b4, 0, none⟩), .func (.func 65) #[] #[], .agg #[.int .i64 t.1, .int .i64 t.2.1], undef, undef, undef, undef, undef, undef, undef], defers := [] })
    (fun t a' A k o o' hk ho ⟨b4, h1, h4, e⟩ => ⟨b4, h1, (World.putObj_heap_other (fun e2 => by subst e2; rw [hk] at h4; cases h4; cases ho)).trans h4, e⟩) ?assign ?body ?done ?stop
  case assign =>
    rintro l' pre ⟨x, y, s⟩ A K _ hszA hK
    gi_wp2
    exact hK _ _ ((Below.refl _ A).alloc (Nat.le_refl _) _) ⟨_, by omega, heap_new rfl, by simp⟩
  case body =>
    rintro l' pre ⟨x, y, s⟩ a' A ⟨hpre, hFA⟩ hpost hszA ⟨b4, hb4, h4, rfl⟩
    have hm : (x, y, s) ∈ us := by obtain ⟨post, hp⟩ := hpost; rw [hp]; simp
    have ok := us_ok hm
    obtain ⟨_, k1, k2, k3, k4, _⟩ := pk_ok ok.pk
    have hs1 := shi_comm (8 * y) x ok.sh rfl (Int.one_mul x).symm
    have RO := Lib.hid (fun W => ratioOn_any x y W (by omega) (by omega) (by omega) (by omega))
    have SH := Lib.hid (fun W G => shift_i (8 * y) x s (by omega) (by omega) (by omega) (by omega) hs1 W G)
    have PP := Lib.hid (fun (W : World) (h : Below A.heap.size A W) => P.below (by rw [hD]; exact hFA.bel.trans (h.mono (by have := hFA.size; omega))))
    have hF := Lib.hid hFA
    have H4 := Lib.hid h4
    have hl4 := (Array.getElem?_eq_some_iff.1 h4).1
    have hzA := hFA.size
    show Code.wpIn _ _ _ _ (Rn.ends (D + 3) V.heap.size _ _ (pre ++ [(x, y, s)]) A) _ _
    clear hs1 ok k1 k2 k3 k4 hm h4 hFA hpost
    have hmm : Tryz.prog.follows Departure.mixedOrders = true := by kernel_rfl
    by_cases hsn : s = n
    · subst hsn
      gi_wp2_with fail
      refine wpIn_region_slots_at hmm rfl (fun base ys => ((((base.set 7 (ys 0)).set 8 (ys 1)).set 9 (ys 2)).set 10 (ys 3)).set 11 (ys 4)) (BelowI _ (fun B => Below A.heap.size A B) (ftI s x y s true)) (fun _ => undef) (by kernel_rfl) (below_start ((Below.refl A.heap.size A).drew)) ?h
      case h =>
        intro FF hFF
        simp only [List.set_cons_succ, List.set_cons_zero] at hFF
        subst hFF
        refine ⟨rfl, ?_, ?_⟩
        refine ⟨?_, ?_⟩
        · refine SlotStepIn.below (fun X Z hb h => h.trans (hb.mono h.size)) (ftI_up s x y s true) ?_
          intro ys W hR hd K hK
          have hl := (hR.block b4 hl4).trans H4.out
          have c0 := cell2_0 hl
          have c1 := cell2_1 hl
          go_simp
          have hK2 := hK (.agg #[.int .i64 x, .int .i64 y]) _ (Below.refl _ _) rfl
          simp (config := { decide := true }) only [upd, if_true, if_false] at hK2
          first | exact hK2 | exact ⟨fun _ h => (by cases h), hK2⟩ | exact ⟨by simp, hK2⟩
        refine ⟨?_, ?_⟩
        · refine SlotStepIn.below (fun X Z hb h => h.trans (hb.mono h.size)) (ftI_up s x y s true) ?_
          intro ys W hR hd K hK
          have dd0 : ys 0 = (.agg #[.int .i64 x, .int .i64 y]) := hd 0 (by kernel_rfl) (by decide)
          go_simp
          refine (CallsIn.inRound l' (callsIn_wide.2 (RO.out W))).mono ?_
          rintro e w5 ⟨rfl, hb5⟩
          have hK2 := hK (.agg #[.int .i64 (8 * y), .int .i64 x]) _ hb5 rfl
          simp (config := { decide := true }) only [upd, if_true, if_false, dd0] at hK2
          first | exact hK2 | exact ⟨fun _ h => (by cases h), hK2⟩ | exact ⟨by simp, hK2⟩
        refine ⟨?_, ?_⟩
        · refine SlotStepIn.below (fun X Z hb h => h.trans (hb.mono h.size)) (ftI_up s x y s true) ?_
          intro ys W hR hd K hK
          have dd1 : ys 1 = (.agg #[.int .i64 (8 * y), .int .i64 x]) := hd 1 (by kernel_rfl) (by decide)
          go_simp
          refine (CallsIn.inRound l' (callsIn_wide.2 (SH.out W (PP.out W hR).gi))).mono ?_
          rintro e w5 ⟨rfl, hb5⟩
          have hK2 := hK (.int .i64 s) _ hb5 rfl
          simp (config := { decide := true }) only [upd, if_true, if_false, dd1] at hK2
          first | exact hK2 | exact ⟨fun _ h => (by cases h), hK2⟩ | exact ⟨by simp, hK2⟩
        refine ⟨?_, ?_⟩
        · refine SlotStepIn.below (fun X Z hb h => h.trans (hb.mono h.size)) (ftI_up s x y s true) ?_
          intro ys W hR hd K hK
          have c0 := cell1_0 ((hR.block D (by omega)).trans hF.out.p0)
          go_simp
          have hK2 := hK (.int .i64 s) _ (Below.refl _ _) rfl
          simp (config := { decide := true }) only [upd, if_true, if_false] at hK2
          first | exact hK2 | exact ⟨fun _ h => (by cases h), hK2⟩ | exact ⟨by simp, hK2⟩
        refine ⟨?_, ?_⟩
        · refine SlotStepIn.below (fun X Z hb h => h.trans (hb.mono h.size)) (ftI_up s x y s true) ?_
          intro ys W hR hd K hK
          have dd2 : ys 2 = (.int .i64 s) := hd 2 (by kernel_rfl) (by decide)
          have dd3 : ys 3 = (.int .i64 s) := hd 3 (by kernel_rfl) (by decide)
          go_simp
          have hK2 := hK (.bool true) _ (Below.refl _ _) rfl
          simp (config := { decide := true }) only [upd, if_true, if_false, dd2, dd3] at hK2
          first | exact hK2 | exact ⟨fun _ h => (by cases h), hK2⟩ | exact ⟨by simp, hK2⟩
        trivial
        · intro LL ys B hL hI
          obtain ⟨hR, hj⟩ := hI
          have y4 : ys 4 = .bool true := hj 4 (by decide) (hL 4 (by decide))
          have hBB : Below A.heap.size A B := hR
          have hFB := hF.out.up hzA hBB
          have hl := (hBB.block b4 hl4).trans H4.out
          have c0 := cell2_0 hl
          have c1 := cell2_1 hl
          have f0 := free2_0 hFB.p1
          have f1 := free2_1 hFB.p1
          have f2 := free1_0 hFB.p2
          have g0 := cell2_0 hFB.p1
          have g1 := cell2_1 hFB.p1
          have g2 := cell1_0 hFB.p2
          have HFB := Lib.hid hFB
          have HBB := Lib.hid hBB
          clear hR hj hL hFB hBB hl
          simp only [y4]
          gi_wp2
          exact ⟨(Rn.Kr.of_below HBB.out).trans (st3_kr (by omega) (by omega)), rfl, pre, x, y, s, rfl, hpre, rfl, HFB.out.st x y 0⟩
    · skip
      gi_wp2_with fail
      refine wpIn_region_slots_at hmm rfl (fun base ys => ((((base.set 7 (ys 0)).set 8 (ys 1)).set 9 (ys 2)).set 10 (ys 3)).set 11 (ys 4)) (BelowI _ (fun B => Below A.heap.size A B) (ftI n x y s false)) (fun _ => undef) (by kernel_rfl) (below_start ((Below.refl A.heap.size A).drew)) ?h
      case h =>
        intro FF hFF
        simp only [List.set_cons_succ, List.set_cons_zero] at hFF
        subst hFF
        refine ⟨rfl, ?_, ?_⟩
        refine ⟨?_, ?_⟩
        · refine SlotStepIn.below (fun X Z hb h => h.trans (hb.mono h.size)) (ftI_up n x y s false) ?_
          intro ys W hR hd K hK
          have hl := (hR.block b4 hl4).trans H4.out
          have c0 := cell2_0 hl
          have c1 := cell2_1 hl
          go_simp
          have hK2 := hK (.agg #[.int .i64 x, .int .i64 y]) _ (Below.refl _ _) rfl
          simp (config := { decide := true }) only [upd, if_true, if_false] at hK2
          first | exact hK2 | exact ⟨fun _ h => (by cases h), hK2⟩ | exact ⟨by simp, hK2⟩
        refine ⟨?_, ?_⟩
        · refine SlotStepIn.below (fun X Z hb h => h.trans (hb.mono h.size)) (ftI_up n x y s false) ?_
          intro ys W hR hd K hK
          have dd0 : ys 0 = (.agg #[.int .i64 x, .int .i64 y]) := hd 0 (by kernel_rfl) (by decide)
          go_simp
          refine (CallsIn.inRound l' (callsIn_wide.2 (RO.out W))).mono ?_
          rintro e w5 ⟨rfl, hb5⟩
          have hK2 := hK (.agg #[.int .i64 (8 * y), .int .i64 x]) _ hb5 rfl
          simp (config := { decide := true }) only [upd, if_true, if_false, dd0] at hK2
          first | exact hK2 | exact ⟨fun _ h => (by cases h), hK2⟩ | exact ⟨by simp, hK2⟩
        refine ⟨?_, ?_⟩
        · refine SlotStepIn.below (fun X Z hb h => h.trans (hb.mono h.size)) (ftI_up n x y s false) ?_
          intro ys W hR hd K hK
          have dd1 : ys 1 = (.agg #[.int .i64 (8 * y), .int .i64 x]) := hd 1 (by kernel_rfl) (by decide)
          go_simp
          refine (CallsIn.inRound l' (callsIn_wide.2 (SH.out W (PP.out W hR).gi))).mono ?_
          rintro e w5 ⟨rfl, hb5⟩
          have hK2 := hK (.int .i64 s) _ hb5 rfl
          simp (config := { decide := true }) only [upd, if_true, if_false, dd1] at hK2
          first | exact hK2 | exact ⟨fun _ h => (by cases h), hK2⟩ | exact ⟨by simp, hK2⟩
        refine ⟨?_, ?_⟩
        · refine SlotStepIn.below (fun X Z hb h => h.trans (hb.mono h.size)) (ftI_up n x y s false) ?_
          intro ys W hR hd K hK
          have c0 := cell1_0 ((hR.block D (by omega)).trans hF.out.p0)
          go_simp
          have hK2 := hK (.int .i64 n) _ (Below.refl _ _) rfl
          simp (config := { decide := true }) only [upd, if_true, if_false] at hK2
          first | exact hK2 | exact ⟨fun _ h => (by cases h), hK2⟩ | exact ⟨by simp, hK2⟩
        refine ⟨?_, ?_⟩
        · refine SlotStepIn.below (fun X Z hb h => h.trans (hb.mono h.size)) (ftI_up n x y s false) ?_
          intro ys W hR hd K hK
          have dd2 : ys 2 = (.int .i64 s) := hd 2 (by kernel_rfl) (by decide)
          have dd3 : ys 3 = (.int .i64 n) := hd 3 (by kernel_rfl) (by decide)
          have e0 : (s == n) = false := by rw [beq_eq_false_iff_ne]; exact hsn
          go_simp
          have hK2 := hK (.bool false) _ (Below.refl _ _) rfl
          simp (config := { decide := true }) only [upd, if_true, if_false, dd2, dd3] at hK2
          first | exact hK2 | exact ⟨fun _ h => (by cases h), hK2⟩ | exact ⟨by simp, hK2⟩
        trivial
        · intro LL ys B hL hI
          obtain ⟨hR, hj⟩ := hI
          have y4 : ys 4 = .bool false := hj 4 (by decide) (hL 4 (by decide))
          have HRR := Lib.hid (show Below A.heap.size A B from hR)
          clear hR hj hL
          simp only [y4]
          gi_wp2
          have hBB := HRR.out
          exact ⟨Rn.Kr.of_below hBB, ⟨fun t ht => by
            rcases List.mem_append.1 ht with h | h
            · exact hpre t h
            · simp at h; subst h; exact hsn, hF.out.up hzA hBB⟩⟩
  case done =>
    rintro D2 A hD2 ⟨hT, hFA⟩ hK
    have f0 := free2_0 hFA.p1
    have f1 := free2_1 hFA.p1
    have f2 := free1_0 hFA.p2
    have g0 := cell2_0 hFA.p1
    have g1 := cell2_1 hFA.p1
    have g2 := cell1_0 hFA.p2
    have HFA := Lib.hid hFA
    have hKU : (st3 A (D + 1) 0 0 18).heap[D2]? = some (.deferred (some [])) := (st3_other (by omega)).trans hK
    clear hFA
    gi_wp2_with fail
    refine ⟨by simp, .inl ⟨_, (st3 A (D + 1) 0 0 18).putObj D2 (.deferred none), rfl, run_takeDeferred hKU, ?_⟩⟩
    have hst := Rn.Step.putObj (n₁ := D + 3) (b := D + 3) _ _ (.deferred none) (by omega) (by omega) hKU rfl
    have hFU := (HFA.out.st 0 0 18).up (Nat.le_refl _) hst.below
    have y0 := cell2_0 hFU.p1
    have y1 := cell2_1 hFU.p1
    have y2 := cell1_0 hFU.p2
    refine ⟨_, ?_, by rw [← HR.out, find_none hT], by rw [hD]; exact hFU.bel⟩
    simp [results, Tryz.results23, go_sem, y0, y1, y2]
  case stop =>
    rintro D2 k pre A hD2 ⟨post, hpost⟩ ⟨rfl, pre', x, y, s, rfl, hp, rfl, hFA⟩ hK
    gi_wp2
    refine ⟨by simp, .inl ⟨_, _, rfl, run_takeDeferred hK, ?_⟩⟩
    have hst := Rn.Step.putObj (n₁ := D + 3) (b := D + 3) A _ (.deferred none) (by omega) (by omega) hK rfl
    have hFU := hFA.up (Nat.le_refl _) hst.below
    have y0 := cell2_0 hFU.p1
    have y1 := cell2_1 hFU.p1
    have y2 := cell1_0 hFU.p2
    refine ⟨_, ?_, by rw [← HR.out, find_hit (t := (x, y, s)) (by rw [hpost, List.append_assoc]; rfl) hp rfl], by rw [hD]; exact hFU.bel⟩
    simp [results, Tryz.results23, go_sem, y0, y1, y2]
end Go.Proofs.YtkoljddejjfbiaaGreatDoor
