/- Best; checkPartial. -/
import Derived.Test.YtojgfpnecdngfaaMtI
namespace Go.Proofs.Ytojgfpnecdngfaa
open Go Go.RowKit Go.Shelf

theorem Tb.congr {w : World} {B : Nat} {A : Option Addr} {m : Nat} {L L' : Nat → Nat} {f f' : Nat → Nat → Int} (h : Tb w B A m L f) (hL : ∀ i, i < m → L i = L' i) (hf : ∀ i, i < m → ∀ k, k < L i → f i k = f' i k) : Tb w B A m L' f' := fun i hi => by
  obtain ⟨a, Ai, ci, h1, h2, h3, h4⟩ := h i hi
  refine ⟨a, Ai, ci, h1, h2, by rw [← hL i hi]; exact h3, fun k hk => ?_⟩
  obtain ⟨b, e1, e2, e3⟩ := h4 k (by rw [hL i hi]; exact hk)
  exact ⟨b, e1, e2, by rw [← hf i hi k (by rw [hL i hi]; exact hk)]; exact e3⟩
/-- The zero result. -/
abbrev resZ : Value := .agg #[.slice none 0 0, .int .i64 0, .slice none 0 0, .slice none 0 0]
/-- A result of so many rows and columns. -/
abbrev resV (gX gR gC m n : Nat) (tot : Int) : Value := .agg #[.slice (some ⟨gX, 0, none⟩) m m, .int .i64 tot, .slice (some ⟨gR, 0, none⟩) m m, .slice (some ⟨gC, 0, none⟩) n n]
/-- What a solution's memory is. -/
def SolW (w w' : World) (m n : Nat) (cost : Nat → Nat → Int) (v : Value) : Prop := ∃ gX gR gC col r c tot, v = resV gX gR gC m n tot ∧
  IR w' gX m col ∧ IR w' gR m r ∧ IR w' gC n c ∧ (w.heap.size ≤ gX ∧ w.heap.size ≤ gR ∧ w.heap.size ≤ gC ∧ gX ≠ gR ∧ gX ≠ gC ∧ gR ≠ gC) ∧ Mt.Sol m n cost col r c tot

set_option maxHeartbeats 2000000 in
theorem best_err (B m : Nat) (A : Option Addr) (cm : Nat) (L : Nat → Nat) (f : Nat → Nat → Int) (w : World) (hm : m ≤ 9223372036854775807) (hL : ∀ i, i < m → L i ≤ 9223372036854775807) (hT : Tb w B A m L f) (hB : B ≤ w.heap.size)
    (E : Int) (hE : chT true m L f = E) (h0 : E ≠ 0) :
    Calls Try.prog 15 #[.slice A m cm] w fun e w' => e = .returned (.tuple #[resZ, .int .i64 E]) ∧ Below w.heap.size w w' := by
  obtain ⟨w1, hw1⟩ : ∃ w1, w.alloc (.cells #[.slice none 0 0, .int .i64 0, .slice none 0 0, .slice none 0 0] 29) = w1 := ⟨_, rfl⟩
  have hb1 : Below w.heap.size w w1 := by rw [← hw1]; exact (Below.refl _ _).alloc (Nat.le_refl _) _
  have hr : w1.heap[w.heap.size]? = some (.cells #[.slice none 0 0, .int .i64 0, .slice none 0 0, .slice none 0 0] 29) := by rw [← hw1]; exact heap_newM _ _
  have CK := Lib.hid (check_c B m A cm L f w1 hm hL (hT.below hb1 hB))
  rw [hE] at CK
  have r0 : w1.cell? ⟨w.heap.size, 0, none⟩ = some (.slice none 0 0) := by simp [World.cell?, hr]
  have r1 : w1.cell? ⟨w.heap.size, 1, none⟩ = some (.int .i64 0) := by simp [World.cell?, hr]
  have r2 : w1.cell? ⟨w.heap.size, 2, none⟩ = some (.slice none 0 0) := by simp [World.cell?, hr]
  have r3 : w1.cell? ⟨w.heap.size, 3, none⟩ = some (.slice none 0 0) := by simp [World.cell?, hr]
  have rf : ∀ o, w1.frozen? ⟨w.heap.size, o, none⟩ = false := fun o => by simp [World.frozen?, hr]
  have hne : (E != 0) = true := by simp [h0]
  have HB := Lib.hid hb1
  clear hT hL hE hb1 hr h0
  go_enter Try.func15, Try.ntmps15
  go_wp2_with fail
  try rw [hw1]
  refine CK.out.mono ?_
  rintro e w' ⟨rfl, rfl⟩
  go_wp2_with fail
  refine bodyPost_ret (v := .tuple #[resZ, .int .i64 E]) (by simp [results, Try.results15, go_sem, r0, r1, r2, r3]) rfl ⟨rfl, ?_⟩
  exact (((HB.out.setCell (p := ⟨w.heap.size, 0, none⟩) (Nat.le_refl _) _).setCell (p := ⟨w.heap.size, 1, none⟩) (Nat.le_refl _) _).setCell (p := ⟨w.heap.size, 2, none⟩) (Nat.le_refl _) _).setCell (p := ⟨w.heap.size, 3, none⟩) (Nat.le_refl _) _

set_option maxHeartbeats 2000000 in
theorem best_ok (B m : Nat) (A : Option Addr) (cm : Nat) (L : Nat → Nat) (f : Nat → Nat → Int) (w : World) (hm : m ≤ 9223372036854775807) (hL : ∀ i, i < m → L i ≤ 9223372036854775807) (hT : Tb w B A m L f) (hB : B ≤ w.heap.size)
    (n : Nat) (hn : wid m L = n) (hE : chT true m L f = 0) :
    Calls Try.prog 15 #[.slice A m cm] w fun e w' => (∃ v, e = .returned (.tuple #[v, .int .i64 0]) ∧ SolW w w' m n f v) ∧ Below w.heap.size w w' := by
  obtain ⟨w1, hw1⟩ : ∃ w1, w.alloc (.cells #[.slice none 0 0, .int .i64 0, .slice none 0 0, .slice none 0 0] 29) = w1 := ⟨_, rfl⟩
  have hb1 : Below w.heap.size w w1 := by rw [← hw1]; exact (Below.refl _ _).alloc (Nat.le_refl _) _
  have hr : w1.heap[w.heap.size]? = some (.cells #[.slice none 0 0, .int .i64 0, .slice none 0 0, .slice none 0 0] 29) := by rw [← hw1]; exact heap_newM _ _
  have zr : w.heap.size < w1.heap.size := by rw [← hw1]; simp
  have CK := Lib.hid (check_c B m A cm L f w1 hm hL (hT.below hb1 hB))
  rw [hE] at CK
  obtain ⟨o1, o2, o3, o4, o5⟩ := chT_ok hE
  rw [hn] at o2 o3 o4 o5
  have hT1 : Tb w1 B A m (fun _ => n) f := (hT.below hb1 hB).congr o3 (fun _ _ _ _ => rfl)
  have SO := Lib.hid (solve_c m n B A cm f w1 (by omega) (by omega) (o4 rfl) (fun h => by rw [← hn]; exact if_pos h) hT1 (by have := hb1.size; omega) (fun i k hi hk => o5 i hi k hk))
  have HB := Lib.hid (And.intro hb1 hr)
  clear hT hL hE hb1 hr hT1 o1 o2 o3 o4 o5 hn
  go_enter Try.func15, Try.ntmps15
  go_wp2_with fail
  try rw [hw1]
  refine CK.out.mono ?_
  rintro e w' ⟨rfl, rfl⟩
  go_wp2_with fail
  refine SO.out.mono ?_
  rintro e w2 ⟨gX, gR, gC, col, r, c, tot, rfl, hX, hR, hC, hne, hsol, hb2⟩
  have hr := (hb2.block w.heap.size zr).trans HB.out.2
  have r0 : w2.cell? ⟨w.heap.size, 0, none⟩ = some (.slice none 0 0) := by simp [World.cell?, hr]
  have r1 : w2.cell? ⟨w.heap.size, 1, none⟩ = some (.int .i64 0) := by simp [World.cell?, hr]
  have r2 : w2.cell? ⟨w.heap.size, 2, none⟩ = some (.slice none 0 0) := by simp [World.cell?, hr]
  have r3 : w2.cell? ⟨w.heap.size, 3, none⟩ = some (.slice none 0 0) := by simp [World.cell?, hr]
  have rf : ∀ o, w2.frozen? ⟨w.heap.size, o, none⟩ = false := fun o => by simp [World.frozen?, hr]
  have nX : gX ≠ w.heap.size := by omega
  have nR : gR ≠ w.heap.size := by omega
  have nC : gC ≠ w.heap.size := by omega
  have HE := Lib.hid (And.intro hX (And.intro hR (And.intro hC (And.intro hsol (And.intro hne (HB.out.1.trans (hb2.mono (by omega))))))))
  clear hX hR hC hsol hne hb2 hr
  go_wp2_with fail
  have h5 := HE.out.2.2.2.2.1
  refine bodyPost_ret (v := .tuple #[resV gX gR gC m n tot, .int .i64 0]) (by simp [results, Try.results15, go_sem, r0, r1, r2, r3]) rfl ⟨⟨_, rfl, gX, gR, gC, col, r, c, tot, rfl, ?_, ?_, ?_, ⟨by omega, by omega, by omega, h5.2.2.2⟩, HE.out.2.2.2.1⟩, ?_⟩
  · exact (((HE.out.1.setOther (a := ⟨w.heap.size, 0, none⟩) nX _).setOther (a := ⟨w.heap.size, 1, none⟩) nX _).setOther (a := ⟨w.heap.size, 2, none⟩) nX _).setOther (a := ⟨w.heap.size, 3, none⟩) nX _
  · exact (((HE.out.2.1.setOther (a := ⟨w.heap.size, 0, none⟩) nR _).setOther (a := ⟨w.heap.size, 1, none⟩) nR _).setOther (a := ⟨w.heap.size, 2, none⟩) nR _).setOther (a := ⟨w.heap.size, 3, none⟩) nR _
  · exact (((HE.out.2.2.1.setOther (a := ⟨w.heap.size, 0, none⟩) nC _).setOther (a := ⟨w.heap.size, 1, none⟩) nC _).setOther (a := ⟨w.heap.size, 2, none⟩) nC _).setOther (a := ⟨w.heap.size, 3, none⟩) nC _
  · exact (((HE.out.2.2.2.2.2.setCell (p := ⟨w.heap.size, 0, none⟩) (Nat.le_refl _) _).setCell (p := ⟨w.heap.size, 1, none⟩) (Nat.le_refl _) _).setCell (p := ⟨w.heap.size, 2, none⟩) (Nat.le_refl _) _).setCell (p := ⟨w.heap.size, 3, none⟩) (Nat.le_refl _) _

/-- The error of costs that can be partial, and of the cost to skip. -/
def chP (m : Nat) (L : Nat → Nat) (f : Nat → Nat → Int) (skip : Int) : Int := if chT false m L f ≠ 0 then chT false m L f else if inR skip = true then 0 else 3
theorem checkPartial_c (B m : Nat) (A : Option Addr) (cm : Nat) (L : Nat → Nat) (f : Nat → Nat → Int) (skip : Int) (w : World) (hm : m ≤ 9223372036854775807) (hL : ∀ i, i < m → L i ≤ 9223372036854775807) (hT : Tb w B A m L f) :
    Calls Try.prog 39 #[.slice A m cm, .int .i64 skip] w fun e w' => e = .returned (.int .i64 (chP m L f skip)) ∧ w = w' := by
  have CT := Lib.hid (checkTable_c true B m A cm L f w hm hL hT)
  clear hL hT
  have WI := Lib.hid (within_c skip 1000000000 (by omega) w)
  unfold chP
  rw [show (!true) = false from rfl] at CT
  obtain ⟨R, hR⟩ : ∃ R, chT false m L f = R := ⟨_, rfl⟩
  rw [hR] at CT
  rw [hR]
  clear hR
  obtain ⟨b, hb⟩ : ∃ b, inR skip = b := ⟨_, rfl⟩
  have hb' : decide (-1000000000 ≤ skip ∧ skip ≤ 1000000000) = b := hb
  rw [hb'] at WI
  rw [hb]
  clear hb hb'
  by_cases h : R = 0
  · rw [if_neg (fun h' => h' h)]
    have he : (R != 0) = false := by simp [h]
    clear h
    cases b
    all_goals
      go_enter Try.func39, Try.ntmps39
      go_wp2_with fail
      refine CT.out.mono ?_
      rintro e w' ⟨rfl, rfl⟩
      go_wp2_with fail
      refine WI.out.mono ?_
      rintro e w' ⟨rfl, rfl⟩
      go_wp2_with fail
      go_ret
      exact ⟨by first | rfl | simp, rfl⟩
  · rw [if_pos h]
    have he : (R != 0) = true := by simp [h]
    clear h
    go_enter Try.func39, Try.ntmps39
    go_wp2_with fail
    refine CT.out.mono ?_
    rintro e w' ⟨rfl, rfl⟩
    go_wp2_with fail
    go_ret
    exact ⟨rfl, rfl⟩
end Go.Proofs.Ytojgfpnecdngfaa
