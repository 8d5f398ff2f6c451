/- assign: a row is given a column. -/
import Derived.Test.YtojgfpnecdngfaaMtF
import Derived.StillTailTactics
namespace Go.Proofs.Ytojgfpnecdngfaa
open Go Go.RowKit Go.Shelf

abbrev bigI : Int := 9223372036854775807
/-- What has come up in the region that makes the ways. -/
def asI (D n : Nat) : Nat → Value → World → Prop
  | 0, v, W => ∃ xb, v = .slice (some ⟨xb, 0, none⟩) 1 1 ∧ xb < W.heap.size ∧ W.cell? ⟨xb, 0, none⟩ = some (.int .i64 bigI)
  | 1, v, _ => v = .int .i64 (n : Int)
  | 2, v, W => ∃ g, v = .slice (some ⟨g, 0, none⟩) n n ∧ D ≤ g ∧ IR W g n (fun _ => bigI)
  | 3, v, _ => v = .int .i64 (n : Int)
  | 4, v, W => ∃ g, v = .slice (some ⟨g, 0, none⟩) n n ∧ D ≤ g ∧ IR W g n (fun _ => 0)
  | 5, v, _ => v = .int .i64 (n : Int)
  | 6, v, W => ∃ g, v = .slice (some ⟨g, 0, none⟩) n n ∧ D ≤ g ∧ BR W g n (fun _ => false)
  | 7, v, W => ∃ gD gB gK, v = wayV gD gB gK n ∧ (D ≤ gD ∧ D ≤ gB ∧ D ≤ gK) ∧ IR W gD n (fun _ => bigI) ∧ IR W gB n (fun _ => 0) ∧ BR W gK n (fun _ => false)
  | 8, v, W => ∃ b, v = .pointer (some ⟨b, 0, none⟩) ∧ D ≤ b ∧ W.heap[b]? = some (.cells #[.slice none 0 0, .slice none 0 0, .slice none 0 0] 86)
  | _, _, _ => True
theorem asI_up (D n : Nat) : ∀ (j : Nat) (v : Value) (A B : World), Below A.heap.size A B → asI D n j v A → asI D n j v B
  | 0, _, _, _, hb, ⟨xb, h1, h2, h3⟩ => ⟨xb, h1, Nat.lt_of_lt_of_le h2 hb.size, (hb.cell (p := ⟨xb, 0, none⟩) h2).trans h3⟩
  | 1, _, _, _, _, h => h
  | 2, _, _, _, hb, ⟨g, h1, h2, h3⟩ => ⟨g, h1, h2, row_below h3 hb⟩
  | 3, _, _, _, _, h => h
  | 4, _, _, _, hb, ⟨g, h1, h2, h3⟩ => ⟨g, h1, h2, row_below h3 hb⟩
  | 5, _, _, _, _, h => h
  | 6, _, _, _, hb, ⟨g, h1, h2, h3⟩ => ⟨g, h1, h2, row_below h3 hb⟩
  | 7, _, _, _, hb, ⟨gD, gB, gK, h1, h2, h3, h4, h5⟩ => ⟨gD, gB, gK, h1, h2, row_below h3 hb, row_below h4 hb, row_below h5 hb⟩
  | 8, _, _, _, hb, ⟨b, h1, h2, h3⟩ => ⟨b, h1, h2, (hb.block b (Array.getElem?_eq_some_iff.1 h3).1).trans h3⟩
  | _ + 9, _, _, _, _, _ => trivial
/-- What is right behind that region. -/
def asFin (w : World) (n : Nat) (ys : Nat → Value) (W : World) : Prop := ∃ gD gB gK b, ys 8 = .pointer (some ⟨b, 0, none⟩) ∧ (w.heap.size ≤ gD ∧ w.heap.size ≤ gB ∧ w.heap.size ≤ gK ∧ w.heap.size ≤ b) ∧
  IR W gD n (fun _ => bigI) ∧ IR W gB n (fun _ => 0) ∧ BR W gK n (fun _ => false) ∧ W.heap[b]? = some (.cells #[.slice (some ⟨gD, 0, none⟩) n n, .slice (some ⟨gB, 0, none⟩) n n, .slice (some ⟨gK, 0, none⟩) n n] 86) ∧ Below w.heap.size w W
theorem row_ne_obj {W : World} {g n b : Nat} {t t' : TypeId} {f : Nat → Value} {cs : Array Value} (h : W.rowIs g t n f) (h' : W.heap[b]? = some (.cells cs t')) (hne : t ≠ t') : g ≠ b := by
  rintro rfl
  obtain ⟨c, hb, _, _⟩ := h
  rw [hb] at h'
  injection h' with h'
  injection h' with _ ht
  exact hne ht
theorem row_ne_row {W : World} {g g' n n' : Nat} {t t' : TypeId} {f f' : Nat → Value} (h : W.rowIs g t n f) (h' : W.rowIs g' t' n' f') (hne : t ≠ t') : g ≠ g' := by
  obtain ⟨c, hb, _, _⟩ := h'
  exact row_ne_obj h hb hne
theorem row_ne_val {W : World} {g g' n n' : Nat} {t : TypeId} {f f' : Nat → Value} (h : W.rowIs g t n f) (h' : W.rowIs g' t n' f') (hn : 0 < n) (hn' : 0 < n') (hne : f 0 ≠ f' 0) : g ≠ g' := by
  rintro rfl
  have := (h.cell hn).symm.trans (h'.cell hn')
  exact hne (by injection this)
theorem box_asI {D : Nat} (n : Nat) (W : World) : asI D n 0 (.slice (some ⟨W.heap.size, 0, none⟩) 1 1) (W.alloc (.cells #[.int .i64 bigI] 3)) := ⟨_, rfl, by simp, by simp⟩
theorem set_threeM {W : World} {b : Nat} {T : TypeId} {x y z x' y' z' : Value} (h : W.heap[b]? = some (.cells #[x, y, z] T)) : (((W.setCell ⟨b, 0, none⟩ x').setCell ⟨b, 1, none⟩ y').setCell ⟨b, 2, none⟩ z').heap[b]? = some (.cells #[x', y', z'] T) := by
  simp [World.setCell, Array.getElem?_modify, h]
theorem made_int (n : Nat) (w : World) : IR (w.alloc (.cells (madeCells (Value.int .i64 0).cells n) 3)) w.heap.size n (fun _ => 0) := World.rowIs_made w (.int .i64 0) n 3
theorem made_bool (n : Nat) (w : World) : BR (w.alloc (.cells (madeCells (Value.bool false).cells n) 4)) w.heap.size n (fun _ => false) := World.rowIs_made w (.bool false) n 4

/-- What a world holds while a row is assigned. -/
structure AsW (B : Nat) (A : Option Addr) (cm Sb gR gC gO gD gB gK b m n : Nat) (cost : Nat → Nat → Int) (r c o : Nat → Int) (d bf : Nat → Int) (kn : Nat → Bool) (W : World) : Prop where
  S : W.heap[Sb]? = some (searchO A cm gR gC gO m n)
  T : Tb W B A m (fun _ => n) cost
  R : IR W gR m r
  C : IR W gC n c
  O : IR W gO n o
  D : IR W gD n d
  Bf : IR W gB n bf
  K : BR W gK n kn
  box : W.heap[b]? = some (.cells #[.slice (some ⟨gD, 0, none⟩) n n, .slice (some ⟨gB, 0, none⟩) n n, .slice (some ⟨gK, 0, none⟩) n n] 86)
theorem AsW.below {B : Nat} {A : Option Addr} {cm Sb gR gC gO gD gB gK b m n : Nat} {cost : Nat → Nat → Int} {r c o d bf : Nat → Int} {kn : Nat → Bool} {W W' : World}
    (h : AsW B A cm Sb gR gC gO gD gB gK b m n cost r c o d bf kn W) (hb : Below W.heap.size W W') (hB : B ≤ W.heap.size) : AsW B A cm Sb gR gC gO gD gB gK b m n cost r c o d bf kn W' :=
  ⟨(hb.block _ (Array.getElem?_eq_some_iff.1 h.S).1).trans h.S, h.T.below hb hB, row_below h.R hb, row_below h.C hb, row_below h.O hb, row_below h.D hb, row_below h.Bf hb, row_below h.K hb, (hb.block _ (Array.getElem?_eq_some_iff.1 h.box).1).trans h.box⟩
theorem AsW.drew {B : Nat} {A : Option Addr} {cm Sb gR gC gO gD gB gK b m n : Nat} {cost : Nat → Nat → Int} {r c o d bf : Nat → Int} {kn : Nat → Bool} {W : World}
    (h : AsW B A cm Sb gR gC gO gD gB gK b m n cost r c o d bf kn W) : AsW B A cm Sb gR gC gO gD gB gK b m n cost r c o d bf kn W.drew := ⟨h.S, h.T, h.R, h.C, h.O, h.D, h.Bf, h.K, h.box⟩
theorem AsW.kn {B : Nat} {A : Option Addr} {cm Sb gR gC gO gD gB gK b m n : Nat} {cost : Nat → Nat → Int} {r c o d bf : Nat → Int} {kn kn' : Nat → Bool} {W : World}
    (h : AsW B A cm Sb gR gC gO gD gB gK b m n cost r c o d bf kn W) (he : ∀ k, k < n → kn k = kn' k) : AsW B A cm Sb gR gC gO gD gB gK b m n cost r c o d bf kn' W :=
  ⟨h.S, h.T, h.R, h.C, h.O, h.D, h.Bf, h.K.congr fun i hi => by rw [he i hi], h.box⟩
theorem AsW.c0 {B : Nat} {A : Option Addr} {cm Sb gR gC gO gD gB gK b m n : Nat} {cost : Nat → Nat → Int} {r c o d bf : Nat → Int} {kn : Nat → Bool} {W : World}
    (h : AsW B A cm Sb gR gC gO gD gB gK b m n cost r c o d bf kn W) : W.cell? ⟨b, 0, none⟩ = some (.slice (some ⟨gD, 0, none⟩) n n) := by have := h.box; simp [World.cell?, this]
theorem AsW.c1 {B : Nat} {A : Option Addr} {cm Sb gR gC gO gD gB gK b m n : Nat} {cost : Nat → Nat → Int} {r c o d bf : Nat → Int} {kn : Nat → Bool} {W : World}
    (h : AsW B A cm Sb gR gC gO gD gB gK b m n cost r c o d bf kn W) : W.cell? ⟨b, 1, none⟩ = some (.slice (some ⟨gB, 0, none⟩) n n) := by have := h.box; simp [World.cell?, this]
theorem AsW.c2 {B : Nat} {A : Option Addr} {cm Sb gR gC gO gD gB gK b m n : Nat} {cost : Nat → Nat → Int} {r c o d bf : Nat → Int} {kn : Nat → Bool} {W : World}
    (h : AsW B A cm Sb gR gC gO gD gB gK b m n cost r c o d bf kn W) : W.cell? ⟨b, 2, none⟩ = some (.slice (some ⟨gK, 0, none⟩) n n) := by have := h.box; simp [World.cell?, this]
theorem AsW.s3 {B : Nat} {A : Option Addr} {cm Sb gR gC gO gD gB gK b m n : Nat} {cost : Nat → Nat → Int} {r c o d bf : Nat → Int} {kn : Nat → Bool} {W : World}
    (h : AsW B A cm Sb gR gC gO gD gB gK b m n cost r c o d bf kn W) : W.cell? ⟨Sb, 3, none⟩ = some (.slice (some ⟨gO, 0, none⟩) n n) := by have := h.S; simp [World.cell?, this]

set_option maxRecDepth 100000 in
set_option maxHeartbeats 4000000 in
theorem assign_c (Sb gR gC gO m n t B : Nat) (A : Option Addr) (cm : Nat) (cost : Nat → Nat → Int) (r c o : Nat → Int) (w : World)
    (hm : m ≤ 400) (hn : n ≤ 1000) (ht : t < m) (hmn : m ≤ n) (hS : w.heap[Sb]? = some (searchO A cm gR gC gO m n)) (hT : Tb w B A m (fun _ => n) cost)
    (hR : IR w gR m r) (hC : IR w gC n c) (hO : IR w gO n o) (hne : gR ≠ gC ∧ gR ≠ gO ∧ gC ≠ gO ∧ gR ≠ Sb ∧ gC ≠ Sb ∧ gO ≠ Sb ∧ B ≤ gR ∧ B ≤ gC ∧ B ≤ gO ∧ B ≤ Sb)
    (hI : Mt.Inv cost n t r c o) (hz : ∀ i, t ≤ i → i < m → r i = 0) (hcost : ∀ i k, i < m → k < n → -1000000000 ≤ cost i k ∧ cost i k ≤ 1000000000) :
    Calls Try.prog 46 #[.pointer (some ⟨Sb, 0, none⟩), .int .i64 (t : Int)] w fun e w' => (∃ v, e = .returned v) ∧
      ∃ r' c' o', IR w' gR m r' ∧ IR w' gC n c' ∧ IR w' gO n o' ∧ Mt.Inv cost n (t + 1) r' c' o' ∧ (∀ i, t + 1 ≤ i → i < m → r' i = 0) ∧ Kp (fun k => k = gR ∨ k = gC ∨ k = gO) w w' := by
  have zS : Sb < w.heap.size := (Array.getElem?_eq_some_iff.1 hS).1
  have zR := hR.lt
  have zC := hC.lt
  have zO := hO.lt
  have hn0 : 0 < n := by omega
  have y2 : w.cell? ⟨Sb, 2, none⟩ = some (.slice (some ⟨gC, 0, none⟩) n n) := by simp [World.cell?, hS]
  have REP := Lib.hid (fun xb W hx hl => repeat_c xb n bigI W (by omega) hx hl)
  have MI := Lib.hid (fun W => hmk_int n (by omega) W)
  have MB := Lib.hid (fun W => hmk_bool n (by omega) W)
  have H0 := Lib.hid (And.intro hS (And.intro hT (And.intro hR (And.intro hC hO))))
  have HI := Lib.hid hI
  have HZ := Lib.hid hz
  have HCO := Lib.hid hcost
  have HNE := Lib.hid hne
  clear hS hT hR hC hO hI hz hcost hne
  go_enter Try.func46, Try.ntmps46
  go_wp2_with fail
  refine wp_region_slots_at rfl rfl (fun base ys => ((((((((base.set 13 (ys 0)).set 14 (ys 1)).set 15 (ys 2)).set 16 (ys 3)).set 17 (ys 4)).set 18 (ys 5)).set 19 (ys 6)).set 20 (ys 7)).set 5 (ys 8)) (LastY _ (Below w.heap.size w) (asI w.heap.size n) (asFin w n)) (fun _ => undef) (by kernel_rfl) (y_start (by decide) (Below.refl w.heap.size w).drew) ?h
  case h =>
    intro F hF
    simp only [List.set_cons_succ, List.set_cons_zero] at hF
    subst hF
    refine ⟨rfl, ?_, ?_⟩
    refine ⟨?_, ?_⟩
    · refine SlotStep.yB (by kernel_rfl) rfl (by decide) (fun A B hb h => h.trans (hb.mono h.size)) (asI_up w.heap.size n) ?_
      intro ys W hR hd K hK
      go_simp
      have hK2 := hK (.slice (some ⟨W.heap.size, 0, none⟩) 1 1) _ ((Below.refl _ _).alloc (Nat.le_refl _) _) (box_asI n W)
      simp (config := { decide := true }) only [upd, if_true, if_false] at hK2
      exact hK2
    refine ⟨?_, ?_⟩
    · refine SlotStep.yB (by kernel_rfl) rfl (by decide) (fun A B hb h => h.trans (hb.mono h.size)) (asI_up w.heap.size n) ?_
      intro ys W hR hd K hK
      go_simp
      have hK2 := hK (.int .i64 (n : Int)) _ (Below.refl _ _) (rfl)
      simp (config := { decide := true }) only [upd, if_true, if_false] at hK2
      exact hK2
    refine ⟨?_, ?_⟩
    · refine SlotStep.yB (by kernel_rfl) rfl (by decide) (fun A B hb h => h.trans (hb.mono h.size)) (asI_up w.heap.size n) ?_
      intro ys W hR hd K hK
      obtain ⟨xb, d0, x1, x2⟩ : asI w.heap.size n 0 (ys 0) W := hd 0 (by kernel_rfl) (by decide)
      have d1 : ys 1 = .int .i64 (n : Int) := hd 1 (by kernel_rfl) (by decide)
      go_simp
      refine (REP.out xb W x2 x1).mono ?_
      rintro e w5 ⟨rfl, hr5, hb5⟩
      have hK2 := hK (.slice (some ⟨W.heap.size, 0, none⟩) n n) _ (hb5) (⟨_, rfl, hR.size, hr5⟩)
      simp (config := { decide := true }) only [upd, if_true, if_false, d0, d1] at hK2
      exact hK2
    refine ⟨?_, ?_⟩
    · refine SlotStep.yB (by kernel_rfl) rfl (by decide) (fun A B hb h => h.trans (hb.mono h.size)) (asI_up w.heap.size n) ?_
      intro ys W hR hd K hK
      go_simp
      have hK2 := hK (.int .i64 (n : Int)) _ (Below.refl _ _) (rfl)
      simp (config := { decide := true }) only [upd, if_true, if_false] at hK2
      exact hK2
    refine ⟨?_, ?_⟩
    · refine SlotStep.yB (by kernel_rfl) rfl (by decide) (fun A B hb h => h.trans (hb.mono h.size)) (asI_up w.heap.size n) ?_
      intro ys W hR hd K hK
      have d3 : ys 3 = .int .i64 (n : Int) := hd 3 (by kernel_rfl) (by decide)
      have mk := MI.out W
      have mr := made_int n W
      obtain ⟨Z, hZ⟩ : ∃ Z, madeCells (Value.int .i64 0).cells n = Z := ⟨_, rfl⟩
      rw [hZ] at mk mr
      clear hZ
      go_simp
      have hK2 := hK (.slice (some ⟨W.heap.size, 0, none⟩) n n) _ ((Below.refl _ _).alloc (Nat.le_refl _) _) (⟨_, rfl, hR.size, mr⟩)
      simp (config := { decide := true }) only [upd, if_true, if_false, d3] at hK2
      exact hK2
    refine ⟨?_, ?_⟩
    · refine SlotStep.yB (by kernel_rfl) rfl (by decide) (fun A B hb h => h.trans (hb.mono h.size)) (asI_up w.heap.size n) ?_
      intro ys W hR hd K hK
      go_simp
      have hK2 := hK (.int .i64 (n : Int)) _ (Below.refl _ _) (rfl)
      simp (config := { decide := true }) only [upd, if_true, if_false] at hK2
      exact hK2
    refine ⟨?_, ?_⟩
    · refine SlotStep.yB (by kernel_rfl) rfl (by decide) (fun A B hb h => h.trans (hb.mono h.size)) (asI_up w.heap.size n) ?_
      intro ys W hR hd K hK
      have d5 : ys 5 = .int .i64 (n : Int) := hd 5 (by kernel_rfl) (by decide)
      have mk := MB.out W
      have mr := made_bool n W
      obtain ⟨Z, hZ⟩ : ∃ Z, madeCells (Value.bool false).cells n = Z := ⟨_, rfl⟩
      rw [hZ] at mk mr
      clear hZ
      go_simp
      have hK2 := hK (.slice (some ⟨W.heap.size, 0, none⟩) n n) _ ((Below.refl _ _).alloc (Nat.le_refl _) _) (⟨_, rfl, hR.size, mr⟩)
      simp (config := { decide := true }) only [upd, if_true, if_false, d5] at hK2
      exact hK2
    refine ⟨?_, ?_⟩
    · refine SlotStep.yB (by kernel_rfl) rfl (by decide) (fun A B hb h => h.trans (hb.mono h.size)) (asI_up w.heap.size n) ?_
      intro ys W hR hd K hK
      obtain ⟨gD, d2, e2, r2⟩ : asI w.heap.size n 2 (ys 2) W := hd 2 (by kernel_rfl) (by decide)
      obtain ⟨gB, d4, e4, r4⟩ : asI w.heap.size n 4 (ys 4) W := hd 4 (by kernel_rfl) (by decide)
      obtain ⟨gK, d6, e6, r6⟩ : asI w.heap.size n 6 (ys 6) W := hd 6 (by kernel_rfl) (by decide)
      go_simp
      have hK2 := hK (wayV gD gB gK n) _ (Below.refl _ _) (⟨gD, gB, gK, rfl, ⟨e2, e4, e6⟩, r2, r4, r6⟩)
      simp (config := { decide := true }) only [upd, if_true, if_false, d2, d4, d6] at hK2
      exact hK2
    refine ⟨?_, ?_⟩
    · refine SlotStep.yB (by kernel_rfl) rfl (by decide) (fun A B hb h => h.trans (hb.mono h.size)) (asI_up w.heap.size n) ?_
      intro ys W hR hd K hK
      go_simp
      have hK2 := hK (.pointer (some ⟨W.heap.size, 0, none⟩)) _ ((Below.refl _ _).alloc (Nat.le_refl _) _) (⟨_, rfl, hR.size, heap_newM _ _⟩)
      simp (config := { decide := true }) only [upd, if_true, if_false] at hK2
      exact hK2
    refine ⟨?_, ?_⟩
    · refine SlotStep.yS (by kernel_rfl) rfl rfl ?_
      intro ys W hR hd K hK
      obtain ⟨gD, gB, gK, d7, e7, r2, r4, r6⟩ : asI w.heap.size n 7 (ys 7) W := hd 7 (by decide)
      obtain ⟨b, d8, e8, r8⟩ : asI w.heap.size n 8 (ys 8) W := hd 8 (by decide)
      have c0 : W.cell? ⟨b, 0, none⟩ = some (.slice none 0 0) := by simp [World.cell?, r8]
      have c1 : W.cell? ⟨b, 1, none⟩ = some (.slice none 0 0) := by simp [World.cell?, r8]
      have c2 : W.cell? ⟨b, 2, none⟩ = some (.slice none 0 0) := by simp [World.cell?, r8]
      have f0 : ∀ o, W.frozen? ⟨b, o, none⟩ = false := fun o => by simp [World.frozen?, r8]
      have n1 := row_ne_obj r2 r8 (by decide)
      have n2 := row_ne_obj r4 r8 (by decide)
      have n3 := row_ne_obj r6 r8 (by decide)
      go_simp
      have hK2 := hK undef _ (fun ys' hys => ⟨gD, gB, gK, b, (hys 8 (by decide)).trans d8, ⟨e7.1, e7.2.1, e7.2.2, e8⟩, ((r2.setOther (a := ⟨b, 0, none⟩) n1 (.slice (some ⟨gD, 0, none⟩) n n)).setOther (a := ⟨b, 1, none⟩) n1 (.slice (some ⟨gB, 0, none⟩) n n)).setOther (a := ⟨b, 2, none⟩) n1 (.slice (some ⟨gK, 0, none⟩) n n), ((r4.setOther (a := ⟨b, 0, none⟩) n2 _).setOther (a := ⟨b, 1, none⟩) n2 _).setOther (a := ⟨b, 2, none⟩) n2 _, ((r6.setOther (a := ⟨b, 0, none⟩) n3 _).setOther (a := ⟨b, 1, none⟩) n3 _).setOther (a := ⟨b, 2, none⟩) n3 _, set_threeM r8, ((hR.setCell (p := ⟨b, 0, none⟩) e8 _).setCell (p := ⟨b, 1, none⟩) e8 _).setCell (p := ⟨b, 2, none⟩) e8 _⟩)
      simp (config := { decide := true }) only [upd, if_false, d7, d8] at hK2
      exact hK2
    trivial
    · intro L ys W hL hI
      obtain ⟨gD, gB, gK, b, d8, e8, r2, r4, r6, r8, hb⟩ := y_end (by decide) hL hI
      obtain ⟨n1, n2, n3, n4, n5, n6, m1, m2, m3, m4⟩ := HNE.out
      obtain ⟨k1, k2, k3, k4⟩ := e8
      have kDB : gD ≠ gB := row_ne_val r2 r4 hn0 hn0 (by simp [bigI])
      have kDK : gD ≠ gK := row_ne_row r2 r6 (by decide)
      have kBK : gB ≠ gK := row_ne_row r4 r6 (by decide)
      have kDb : gD ≠ b := row_ne_obj r2 r8 (by decide)
      have kBb : gB ≠ b := row_ne_obj r4 r8 (by decide)
      have kKb : gK ≠ b := row_ne_obj r6 r8 (by decide)
      have hB0 : B ≤ w.heap.size := by omega
      have hS1 : W.heap[Sb]? = some (searchO A cm gR gC gO m n) := (hb.block Sb zS).trans H0.out.1
      have hT1 := H0.out.2.1.below hb hB0
      have hR1 := row_below H0.out.2.2.1 hb
      have hC1 := row_below H0.out.2.2.2.1 hb
      have hO1 := row_below H0.out.2.2.2.2 hb
      have hrt : r t = 0 := HZ.out t (Nat.le_refl _) ht
      have hcb : ∀ k, k < n → (-1000000000000 ≤ c k ∧ c k ≤ 1000000000000) ∧ -1000000000000 ≤ cost t k ∧ cost t k ≤ 1000000000000 := fun k hk => by
        have := HI.out.cneg k hk
        have := HI.out.cb k hk
        have := HCO.out t k ht hk
        omega
      have HX := Lib.hid (extend_c Sb gR gC gO gD gB gK m n t B A cm cost r c (fun _ => bigI) (fun _ => 0) (fun _ => false) (-1) 0 (-1) (Lib.hid rfl) W (by omega) (by omega) ht hS1 hT1 hR1 hC1 r2 r4 r6 ⟨kDB, by omega, by omega, kDK, kBK, by omega, by omega, by omega, by omega⟩ (.inl ⟨rfl, by rw [hrt]; rfl⟩) (by rw [hrt]; omega) (by omega) hcb)
      have c0 : W.cell? ⟨b, 0, none⟩ = some (.slice (some ⟨gD, 0, none⟩) n n) := by simp [World.cell?, r8]
      have c1 : W.cell? ⟨b, 1, none⟩ = some (.slice (some ⟨gB, 0, none⟩) n n) := by simp [World.cell?, r8]
      have c2 : W.cell? ⟨b, 2, none⟩ = some (.slice (some ⟨gK, 0, none⟩) n n) := by simp [World.cell?, r8]
      have HW1 := Lib.hid (And.intro hb (And.intro r8 (And.intro r6 (And.intro hS1 (And.intro hT1 (And.intro hR1 (And.intro hC1 hO1)))))))
      clear hS1 hT1 hR1 hC1 hO1 r2 r4 r6 hcb hI
      go_simp
      go_wp2_with fail
      refine (HX.out).mono ?_
      rintro e w2 ⟨⟨v2, rfl⟩, hD2, hB2, hk2⟩
      clear c0 c1 c2
      have r82 := hk2.heap HW1.out.2.1 (show ¬ (b = gD ∨ b = gB) by omega)
      have r62 := hk2.row HW1.out.2.2.1 (show ¬ (gK = gD ∨ gK = gB) by omega)
      have c0 : w2.cell? ⟨b, 0, none⟩ = some (.slice (some ⟨gD, 0, none⟩) n n) := by simp [World.cell?, r82]
      have c1 : w2.cell? ⟨b, 1, none⟩ = some (.slice (some ⟨gB, 0, none⟩) n n) := by simp [World.cell?, r82]
      have c2 : w2.cell? ⟨b, 2, none⟩ = some (.slice (some ⟨gK, 0, none⟩) n n) := by simp [World.cell?, r82]
      have NE := Lib.hid (nearest_c gD gB gK n _ (fun _ => false) w2 (by omega) hD2 r62 ⟨0, hn0, rfl⟩)
      have DJ := Lib.hid (ex_start (d := fun _ => bigI) (b := fun _ => 0) (kn := fun _ => false) HI.out (fun k hk => HCO.out t k ht hk) (fun _ _ => rfl) (fun _ _ => rfl) rfl (by omega))
      have HW2 := Lib.hid (And.intro hD2 (And.intro hB2 hk2))
      clear hD2 hB2 hk2 r82 r62
      go_wp2_with fail
      refine (NE.out).mono ?_
      rintro e w3 ⟨⟨x, rfl, hx1, hx2, hx3⟩, hb3⟩
      have AS3 : AsW B A cm Sb gR gC gO gD gB gK b m n cost r c o (exD (fun _ => false) (fun k => 0 + cost t k - c k) (fun _ => bigI) n) (exB (fun _ => false) (fun k => 0 + cost t k - c k) (fun _ => bigI) (fun _ => 0) (-1) n) (fun k => decide (k ∈ ([] : List Nat))) w3 := by
        have hh := HW2.out
        have hk := hh.2.2
        have AS2 : AsW B A cm Sb gR gC gO gD gB gK b m n cost r c o (exD (fun _ => false) (fun k => 0 + cost t k - c k) (fun _ => bigI) n) (exB (fun _ => false) (fun k => 0 + cost t k - c k) (fun _ => bigI) (fun _ => 0) (-1) n) (fun _ => false) w2 :=
          ⟨hk.heap HW1.out.2.2.2.1 (show ¬ (Sb = gD ∨ Sb = gB) by omega), HW1.out.2.2.2.2.1.kp hk (by have := HW1.out.1.size; omega) (fun k hk => by omega), hk.row HW1.out.2.2.2.2.2.1 (show ¬ (gR = gD ∨ gR = gB) by omega), hk.row HW1.out.2.2.2.2.2.2.1 (show ¬ (gC = gD ∨ gC = gB) by omega), hk.row HW1.out.2.2.2.2.2.2.2 (show ¬ (gO = gD ∨ gO = gB) by omega), hh.1, hh.2.1, hk.row HW1.out.2.2.1 (show ¬ (gK = gD ∨ gK = gB) by omega), hk.heap HW1.out.2.1 (show ¬ (b = gD ∨ b = gB) by omega)⟩
        exact (AS2.below hb3 (by have := HW1.out.1.size; have := hk.size; omega)).kn (fun k _ => by simp)
      have B3 : Below w.heap.size w w3 := by
        have hk := HW2.out.2.2
        exact (HW1.out.1.trans (hk.below (B := w.heap.size) HW1.out.1.size (fun k hk => by omega))).trans (hb3.mono (by have := HW1.out.1.size; have := hk.size; omega))
      have H3 := Lib.hid (And.intro AS3 (And.intro B3 hx3))
      clear AS3 B3 hx2 hx3 hb3 c0 c1 c2
      go_wp2_with fail
      go_loopw [6] (fun v wr => ∃ (x : Nat) (Ks : List Nat) (d bf : Nat → Int), v = .int .i64 (x : Int) ∧ x < n ∧ x ∉ Ks ∧ (∀ k, k < n → k ∉ Ks → d x ≤ d k) ∧ Mt.Dij cost n t r c o Ks d bf ∧ AsW B A cm Sb gR gC gO gD gB gK b m n cost r c o d bf (fun k => decide (k ∈ Ks)) wr ∧ Below w.heap.size w wr) (fun _ wr => unk gK n wr)
      case atStart => exact ⟨x, [], _, _, rfl, hx1, by simp, fun k hk _ => H3.out.2.2 k hk trivial, DJ.out, H3.out.1, H3.out.2.1⟩
      case round =>
        obtain ⟨x', Ks, d, bf, rfl, hxn, hxk, hmin, hdj, has, hbr⟩ := hrel
        clear hx1
        have zb := (Array.getElem?_eq_some_iff.1 has.box).1
        have zS' := (Array.getElem?_eq_some_iff.1 has.S).1
        have zK := has.K.lt
        have s3 := has.s3
        have xo := has.O.cell hxn
        have b0 := has.c0
        have b1 := has.c1
        have b2 := has.c2
        have hxi : (x' : Int) < (n : Int) := by omega
        have HM := Lib.hid (And.intro hmin (And.intro hdj (And.intro has hbr)))
        have hBr : B ≤ wr.heap.size := by have := hbr.size; omega
        by_cases hox : o x' = -1
        · rw [hox] at xo
          have xd := has.D.cell hxn
          have HOX := Lib.hid hox
          clear hox hdj hmin has hbr
          go_wp2_with fail
          go_still_tail 8, (by kernel_rfl)
          change wpList _ _ _ _ _ wr.drew
          obtain ⟨W5, hW5⟩ : ∃ W5, wr.drew = W5 := ⟨_, rfl⟩
          rw [hW5]
          have AS5 : AsW B A cm Sb gR gC gO gD gB gK b m n cost r c o d bf (fun k => decide (k ∈ Ks)) W5 := by rw [← hW5]; exact HM.out.2.2.1.drew
          have B5 : Below w.heap.size w W5 := by rw [← hW5]; exact HM.out.2.2.2.drew
          clear hW5 s3 xo b0 b1 b2 xd
          have hrt' : r t = 0 := HZ.out t (Nat.le_refl _) ht
          have hdx := HM.out.2.1.dir x' hxn
          have hdl := HM.out.2.1.low x' hxn
          have hcx := HI.out.free x' hxn HOX.out
          have hcc := HCO.out t x' ht hxn
          have hrb : ∀ k, k < n → decide (k ∈ Ks) = true → (-1000000000000 ≤ c k ∧ c k ≤ 1000000000000) ∧ (-1000000000000 ≤ d k ∧ d k ≤ 1000000000000) ∧ (∃ i : Nat, i < m ∧ o k = (i : Int)) ∧
              -1000000000000 ≤ raR t (fun k => decide (k ∈ Ks)) o d (d x') r k (o k).toNat ∧ raR t (fun k => decide (k ∈ Ks)) o d (d x') r k (o k).toNat ≤ 1000000000000 := fun k hk hkk => by
            have e1 := HI.out.cneg k hk
            have e2 := HI.out.cb k hk
            have e3 := HM.out.2.1.dir k hk
            have e4 := HM.out.2.1.low k hk
            have e5 := HCO.out t k ht hk
            have e6 := (HM.out.2.1.ks k (of_decide_eq_true hkk)).2
            have e7 : o k < t := by rcases HI.out.own k hk with h | h <;> omega
            have e8 := HI.out.rb (o k).toNat (by omega)
            rw [raR_at HI.out HM.out.2.1 (fun _ _ => rfl) hk hkk]
            exact ⟨by omega, by omega, ⟨(o k).toNat, by omega, by omega⟩, by omega, by omega⟩
          have hn1000 : n ≤ 1000000 := by omega
          have RA := Lib.hid (raise_c Sb gR gC gO gD gB gK m n t A cm r c o d (fun k => decide (k ∈ Ks)) (d x') W5 (by omega) hn1000 ht AS5.S AS5.R AS5.C AS5.O AS5.D AS5.K ⟨n1, n2, by omega, by omega, n4, n3, by omega, by omega, n5⟩ (by rw [hrt']; omega) (by omega) hrb)
          have HM5 := Lib.hid (And.intro AS5 B5)
          clear AS5 B5 hrb hdx hdl hcx hcc
          go_wp2_with fail
          refine (RA.out).mono ?_
          rintro e w6 ⟨⟨v6, rfl⟩, hR6, hC6, hk6⟩
          have hrd := raised (e := x') HI.out HM.out.2.1 (fun _ _ => rfl) hrt'
          obtain ⟨hready, hflip⟩ := Mt.ready HI.out HM.out.2.1 hxn hxk HOX.out HM.out.1 hrd (HCO.out t x' ht hxn).2
          have hzz : ∀ i, t + 1 ≤ i → i < m → raR t (fun k => decide (k ∈ Ks)) o d (d x') r n i = 0 := fun i hi him => by
            rw [raR_beyond HI.out HM.out.2.1 (fun _ _ => rfl) (show t < i by omega)]
            exact HZ.out i (by omega) him
          obtain ⟨r6, hr6⟩ : ∃ r6, raR t (fun k => decide (k ∈ Ks)) o d (d x') r n = r6 := ⟨_, rfl⟩
          obtain ⟨c6, hc6⟩ : ∃ c6, raC (fun k => decide (k ∈ Ks)) d (d x') c n = c6 := ⟨_, rfl⟩
          rw [hr6, hc6] at hready hflip
          rw [hr6] at hR6 hzz
          rw [hc6] at hC6
          have h5 := HM5.out.1
          have hz5 := HM5.out.2.size
          have K6 : Kp (fun k => k = gR ∨ k = gC ∨ k = gO) w w6 := (Kp.of_below HM5.out.2).trans (hk6.mono (fun k _ h => by omega))
          have S6 := hk6.heap h5.S (show ¬ (Sb = gR ∨ Sb = gC) by omega)
          have O6 := hk6.row h5.O (show ¬ (gO = gR ∨ gO = gC) by omega)
          have BF6 := hk6.row h5.Bf (show ¬ (gB = gR ∨ gB = gC) by omega)
          have BX6 := hk6.heap h5.box (show ¬ (b = gR ∨ b = gC) by omega)
          have HF := Lib.hid (And.intro hready (And.intro hflip (And.intro hzz (And.intro hR6 (And.intro hC6 (And.intro S6 (And.intro O6 (And.intro BF6 (And.intro BX6 K6)))))))))
          clear hrd hr6 hc6 hready hflip hzz hR6 hC6 S6 O6 BF6 BX6 K6 h5 hk6 hz5
          go_wp2_with fail
          go_loopw [6] (fun v wr => ∃ oc : Nat → Int, IR wr gO n oc ∧ IR wr gR m r6 ∧ IR wr gC n c6 ∧ IR wr gB n bf ∧ wr.heap[Sb]? = some (searchO A cm gR gC gO m n) ∧ wr.heap[b]? = some (.cells #[.slice (some ⟨gD, 0, none⟩) n n, .slice (some ⟨gB, 0, none⟩) n n, .slice (some ⟨gK, 0, none⟩) n n] 86) ∧ Kp (fun k => k = gR ∨ k = gC ∨ k = gO) w wr ∧
            ((∃ e : Nat, v = .int .i64 (e : Int) ∧ Mt.Flip cost n t r6 c6 o bf (x' :: Ks) e oc) ∨ (v = .int .i64 (-1) ∧ Mt.Inv cost n (t + 1) r6 c6 oc))) (fun v _ => left2 (x' :: Ks) (intOf v))
          case atStart => exact ⟨o, HF.out.2.2.2.2.2.2.1, HF.out.2.2.2.1, HF.out.2.2.2.2.1, HF.out.2.2.2.2.2.2.2.1, HF.out.2.2.2.2.2.1, HF.out.2.2.2.2.2.2.2.2.1, HF.out.2.2.2.2.2.2.2.2.2, .inl ⟨x', rfl, HF.out.2.1⟩⟩
          case round =>
            obtain ⟨oc, hO, hR, hC, hBf, hS, hX, hkp, hcase⟩ := hrel
            rcases hcase with ⟨e, rfl, hfl⟩ | ⟨rfl, hinv⟩
            · have hen := hfl.lt
              have hei : (e : Int) < (n : Int) := by omega
              have hene : ((e : Int) != -1) = true := by simp
              have p0 : wr.cell? ⟨b, 1, none⟩ = some (.slice (some ⟨gB, 0, none⟩) n n) := by simp [World.cell?, hX]
              have p1 : wr.cell? ⟨Sb, 3, none⟩ = some (.slice (some ⟨gO, 0, none⟩) n n) := by simp [World.cell?, hS]
              have p2 := hBf.cell hen
              have p3 := hO.cell hen
              have p4 := hO.frozen e
              have zO' : gO ≠ Sb := n6
              have zOb : gO ≠ b := by omega
              by_cases hbe : bf e = -1
              · rw [hbe] at p2
                have hl : e ∈ x' :: Ks := by obtain ⟨pre, l, h, _⟩ := hfl.suf; rw [h]; simp
                have hlt := left2_pos hl
                have O7 := row_set hO (k := e) (t : Int)
                have hinv := hfl.last HF.out.1 hbe (o' := fun j => if j = e then (t : Int) else oc j) (by simp) (fun k _ hke => by simp [hke])
                have P7 : Kp (fun k => k = gR ∨ k = gC ∨ k = gO) w (wr.setCell ⟨gO, e, none⟩ (.int .i64 (t : Int))) := hkp.setCell (p := ⟨gO, e, none⟩) (.inl (.inr (.inr rfl))) _
                have HE := Lib.hid (And.intro O7 (And.intro (hR.setOther (a := ⟨gO, e, none⟩) n2 (.int .i64 (t : Int))) (And.intro (hC.setOther (a := ⟨gO, e, none⟩) n3 (.int .i64 (t : Int))) (And.intro (hBf.setOther (a := ⟨gO, e, none⟩) (show gB ≠ gO by omega) (.int .i64 (t : Int)))
                  (And.intro ((Below.heap_setCell wr ⟨gO, e, none⟩ (.int .i64 (t : Int)) Sb (show Sb ≠ gO by omega)).trans hS) (And.intro ((Below.heap_setCell wr ⟨gO, e, none⟩ (.int .i64 (t : Int)) b (show b ≠ gO by omega)).trans hX) (And.intro P7 (And.intro hinv hlt))))))))
                clear hO hR hC hBf hS hX hkp hinv hlt O7 P7 hbe hfl hl
                go_wp2_with fail
                go_roundw
                case rel => exact ⟨_, HE.out.1, HE.out.2.1, HE.out.2.2.1, HE.out.2.2.2.1, HE.out.2.2.2.2.1, HE.out.2.2.2.2.2.1, HE.out.2.2.2.2.2.2.1, .inr ⟨rfl, HE.out.2.2.2.2.2.2.2.1⟩⟩
                case measure => exact HE.out.2.2.2.2.2.2.2.2
              · obtain ⟨y, hy1, hyn, hye, hfl2, pre, l, hL1, pre', l', hL2, hlt⟩ := hfl.next HF.out.1 hbe (o' := fun j => if j = e then oc (bf e).toNat else oc j) (fun b' hb' => by simp [hb']) (fun k _ hke => by simp [hke])
                rw [hy1, Int.toNat_natCast] at hfl2
                rw [hy1] at p2
                have hlt2 := left2_lt HF.out.1.nd hL1 hL2 hlt
                have hyi : (y : Int) < (n : Int) := by omega
                have hyne : ((y : Int) != -1) = true := by simp
                have p5 := hO.cell hyn
                have hey : ¬ e = y := fun h => hye h.symm
                have O7 := row_congr (row_set (row_set hO (k := e) (t : Int)) (k := e) (oc y)) (f' := fun j => if j = e then oc y else oc j) (fun j _ => by by_cases h : j = e <;> simp [h])
                have P7 : Kp (fun k => k = gR ∨ k = gC ∨ k = gO) w ((wr.setCell ⟨gO, e, none⟩ (.int .i64 (t : Int))).setCell ⟨gO, e, none⟩ (.int .i64 (oc y))) := (hkp.setCell (p := ⟨gO, e, none⟩) (.inl (.inr (.inr rfl))) _).setCell (p := ⟨gO, e, none⟩) (.inl (.inr (.inr rfl))) _
                have HE := Lib.hid (And.intro O7 (And.intro ((hR.setOther (a := ⟨gO, e, none⟩) n2 (.int .i64 (t : Int))).setOther (a := ⟨gO, e, none⟩) n2 (.int .i64 (oc y))) (And.intro ((hC.setOther (a := ⟨gO, e, none⟩) n3 (.int .i64 (t : Int))).setOther (a := ⟨gO, e, none⟩) n3 (.int .i64 (oc y))) (And.intro ((hBf.setOther (a := ⟨gO, e, none⟩) (show gB ≠ gO by omega) (.int .i64 (t : Int))).setOther (a := ⟨gO, e, none⟩) (show gB ≠ gO by omega) (.int .i64 (oc y)))
                  (And.intro ((Below.heap_setCell _ ⟨gO, e, none⟩ (.int .i64 (oc y)) Sb (show Sb ≠ gO by omega)).trans ((Below.heap_setCell wr ⟨gO, e, none⟩ (.int .i64 (t : Int)) Sb (show Sb ≠ gO by omega)).trans hS)) (And.intro ((Below.heap_setCell _ ⟨gO, e, none⟩ (.int .i64 (oc y)) b (show b ≠ gO by omega)).trans ((Below.heap_setCell wr ⟨gO, e, none⟩ (.int .i64 (t : Int)) b (show b ≠ gO by omega)).trans hX)) (And.intro P7 (And.intro hfl2 hlt2))))))))
                clear hO hR hC hBf hS hX hkp hlt O7 P7 hbe hfl hfl2 hlt2 hL1 hL2 hy1
                go_wp2_with fail
                go_region
                go_wp2_with fail
                go_roundw
                case rel => exact ⟨_, HE.out.1.drew, HE.out.2.1.drew, HE.out.2.2.1.drew, HE.out.2.2.2.1.drew, HE.out.2.2.2.2.1, HE.out.2.2.2.2.2.1, HE.out.2.2.2.2.2.2.1.drew, .inl ⟨y, rfl, HE.out.2.2.2.2.2.2.2.1⟩⟩
                case measure => exact HE.out.2.2.2.2.2.2.2.2
            · have HE := Lib.hid (And.intro hO (And.intro hR (And.intro hC (And.intro hinv hkp))))
              clear hO hR hC hBf hS hX hkp hinv
              go_wp2_with fail
              go_end0
              exact ⟨⟨_, rfl⟩, r6, c6, oc, HE.out.2.1, HE.out.2.2.1, HE.out.1, HE.out.2.2.2.1, HF.out.2.2.1, HE.out.2.2.2.2⟩
        · have hoi : ∃ i : Nat, o x' = (i : Int) ∧ i < t := by
            rcases HI.out.own x' hxn with h | h
            · exact absurd h hox
            · exact ⟨(o x').toNat, by omega, by omega⟩
          obtain ⟨i, hoi, hit⟩ := hoi
          have HOI := Lib.hid hoi
          rw [hoi] at xo
          have hine : ((i : Int) != -1) = true := by simp
          have xk := has.K.cell hxn
          have fk := has.K.frozen x'
          have AS4 : AsW B A cm Sb gR gC gO gD gB gK b m n cost r c o d bf (fun j => if j = x' then true else decide (j ∈ Ks)) (wr.setCell ⟨gK, x', none⟩ (.bool true)) :=
            ⟨(Below.heap_setCell _ _ _ _ (show Sb ≠ gK by omega)).trans has.S, has.T.keep (fun k hk => Below.heap_setCell _ _ _ _ (show k ≠ gK by omega)), has.R.setOther (a := ⟨gK, x', none⟩) (show gR ≠ gK by omega) _, has.C.setOther (a := ⟨gK, x', none⟩) (show gC ≠ gK by omega) _, has.O.setOther (a := ⟨gK, x', none⟩) (show gO ≠ gK by omega) _, has.D.setOther (a := ⟨gK, x', none⟩) kDK _, has.Bf.setOther (a := ⟨gK, x', none⟩) kBK _,
              (has.K.set x' (.bool true)).congr fun j _ => by by_cases e : j = x' <;> simp [e], (Below.heap_setCell _ _ _ _ (show b ≠ gK by omega)).trans has.box⟩
          have B4 : Below w.heap.size w (wr.setCell ⟨gK, x', none⟩ (.bool true)) := hbr.setCell (p := ⟨gK, x', none⟩) k3 _
          obtain ⟨W4, hW4⟩ : ∃ W4, wr.setCell ⟨gK, x', none⟩ (.bool true) = W4 := ⟨_, rfl⟩
          rw [hW4] at AS4 B4
          have g3 := AS4.s3
          have go4 := AS4.O.cell hxn
          rw [hoi] at go4
          have h0 := AS4.c0
          have h1 := AS4.c1
          have h2 := AS4.c2
          have HM4 := Lib.hid (And.intro AS4 B4)
          clear has hdj hbr hmin hoi hox AS4 B4
          go_wp2_with fail
          go_still_tail 10, (by kernel_rfl)
          change wpList _ _ _ _ _ W4.drew
          obtain ⟨W5, hW5⟩ : ∃ W5, W4.drew = W5 := ⟨_, rfl⟩
          rw [hW5]
          have AS5 : AsW B A cm Sb gR gC gO gD gB gK b m n cost r c o d bf (fun j => if j = x' then true else decide (j ∈ Ks)) W5 := by rw [← hW5]; exact HM4.out.1.drew
          have B5 : Below w.heap.size w W5 := by rw [← hW5]; exact HM4.out.2.drew
          clear hW5
          have hib := HI.out.rb i hit
          have hzn : ∀ k, k < n → (-1000000000000 ≤ c k ∧ c k ≤ 1000000000000) ∧ -1000000000000 ≤ cost i k ∧ cost i k ≤ 1000000000000 := fun k hk => by
            have := HI.out.cneg k hk
            have := HI.out.cb k hk
            have := HCO.out i k (by omega) hk
            omega
          have hdx := HM.out.2.1.dir x' hxn
          have hdl := HM.out.2.1.low x' hxn
          have hcx := HI.out.cb x' hxn
          have hcc := HCO.out t x' ht hxn
          have hn1000 : n ≤ 1000000 := by omega
          have EX := Lib.hid (extend_c Sb gR gC gO gD gB gK m n i B A cm cost r c d bf (fun j => if j = x' then true else decide (j ∈ Ks)) (x' : Int) (- r i + d x') (x' : Int) (Lib.hid rfl) W5 (by omega) hn1000 (by omega) AS5.S AS5.T AS5.R AS5.C AS5.D AS5.Bf AS5.K ⟨kDB, by omega, by omega, kDK, kBK, by omega, by omega, by omega, by omega⟩ (.inr ⟨x', hxn, rfl, rfl⟩) (by omega) (by omega) hzn)
          have HM5 := Lib.hid (And.intro AS5 B5)
          clear AS5 B5 hib hzn hdx hdl hcx hcc g3 go4 h0 h1 h2 s3 xo b0 b1 b2 xk fk hW4
          go_wp2_with fail
          refine (EX.out).mono ?_
          rintro e w6 ⟨⟨v6, rfl⟩, hD6, hB6, hk6⟩
          have hst6 := ex_step (kn := fun j => if j = x' then true else decide (j ∈ Ks)) HI.out HM.out.2.1 hxn hxk (by rw [HOI.out]; omega) HM.out.1 (fun k _ => by by_cases e : k = x' <;> simp [e]) (show - r i + d x' = - r (o x').toNat + d x' by rw [HOI.out, Int.toNat_natCast])
          rw [HOI.out, Int.toNat_natCast] at hst6
          have AS6 : AsW B A cm Sb gR gC gO gD gB gK b m n cost r c o (exD (fun j => if j = x' then true else decide (j ∈ Ks)) (fun k => - r i + d x' + cost i k - c k) d n) (exB (fun j => if j = x' then true else decide (j ∈ Ks)) (fun k => - r i + d x' + cost i k - c k) d bf (x' : Int) n) (fun k => decide (k ∈ x' :: Ks)) w6 := by
            have h5 := HM5.out.1
            have hz5 := HM5.out.2.size
            exact AsW.kn (kn := fun j => if j = x' then true else decide (j ∈ Ks)) ⟨hk6.heap h5.S (show ¬ (Sb = gD ∨ Sb = gB) by omega), h5.T.kp hk6 (by omega) (fun k hk => by omega), hk6.row h5.R (show ¬ (gR = gD ∨ gR = gB) by omega), hk6.row h5.C (show ¬ (gC = gD ∨ gC = gB) by omega), hk6.row h5.O (show ¬ (gO = gD ∨ gO = gB) by omega), hD6, hB6, hk6.row h5.K (show ¬ (gK = gD ∨ gK = gB) by omega), hk6.heap h5.box (show ¬ (b = gD ∨ b = gB) by omega)⟩ (fun k _ => by by_cases e : k = x' <;> simp [e])
          have B6 : Below w.heap.size w w6 := HM5.out.2.trans (hk6.below (B := w.heap.size) HM5.out.2.size (fun k hk => by omega))
          clear hD6 hB6 hk6
          have hex6 : ∃ k, k < n ∧ (fun k => decide (k ∈ x' :: Ks)) k = false := by
            obtain ⟨k, hk, hok⟩ := free_col HI.out (show t < n by omega)
            refine ⟨k, hk, decide_eq_false fun hm => ?_⟩
            rcases List.mem_cons.1 hm with e | hm
            · subst e; have := HOI.out; omega
            · have := (HM.out.2.1.ks k hm).2; omega
          obtain ⟨d6, hd6⟩ : ∃ d6, exD (fun j => if j = x' then true else decide (j ∈ Ks)) (fun k => - r i + d x' + cost i k - c k) d n = d6 := ⟨_, rfl⟩
          obtain ⟨bf6, hbf6⟩ : ∃ bf6, exB (fun j => if j = x' then true else decide (j ∈ Ks)) (fun k => - r i + d x' + cost i k - c k) d bf (x' : Int) n = bf6 := ⟨_, rfl⟩
          rw [hd6, hbf6] at hst6 AS6
          clear hd6 hbf6
          have NE6 := Lib.hid (nearest_c gD gB gK n d6 (fun k => decide (k ∈ x' :: Ks)) w6 hn1000 AS6.D AS6.K hex6)
          have b0 := AS6.c0
          have b1 := AS6.c1
          have b2 := AS6.c2
          have HM6 := Lib.hid (And.intro AS6 (And.intro B6 hst6))
          clear AS6 B6 hst6 hex6
          go_wp2_with fail
          refine (NE6.out).mono ?_
          rintro e w7 ⟨⟨x7, rfl, hx71, hx72, hx73⟩, hb7⟩
          have AS7 := HM6.out.1.below hb7 (by have := HM6.out.2.1.size; omega)
          have B7 := HM6.out.2.1.trans (hb7.mono HM6.out.2.1.size)
          have HM7 := Lib.hid (And.intro AS7 (And.intro B7 (And.intro hx72 hx73)))
          have hU : unk gK n w7 < unk gK n wr := unk_lt HM.out.2.2.1.K AS7.K hxn hxk
          have HU := Lib.hid hU
          clear AS7 B7 hx72 hx73 hb7 b0 b1 b2 hU
          go_wp2_with fail
          go_roundw
          case rel => exact ⟨x7, x' :: Ks, d6, bf6, rfl, hx71, of_decide_eq_false HM7.out.2.2.1, fun k hk hkm => HM7.out.2.2.2 k hk (decide_eq_false hkm), HM6.out.2.2, HM7.out.1, HM7.out.2.1⟩
          case measure => exact HU.out
end Go.Proofs.Ytojgfpnecdngfaa
