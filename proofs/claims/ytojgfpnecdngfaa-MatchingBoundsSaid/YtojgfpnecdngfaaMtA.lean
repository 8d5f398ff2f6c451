/- Words for memory: tables of costs, rows of ints and bools of the call's own, worlds in which only some blocks have turned. -/
import Derived.Test.YtojgfpnecdngfaaProg
import Derived.Test.YtojgfpnecdngfaaMtMath
import Derived.WalkKit
import Derived.WalkSpells
import Derived.WalkLawsBesides
import Derived.Outline
import Derived.BigQuiet
import Derived.BigRegion
import Derived.Deep.QuietTactic
import Derived.Deep.OwnRows
import Derived.Deep.MidRow
import Derived.Deep.Draws
import Derived.Deep.DeepCutAuto
import Derived.RegionTactic
import Derived.ChangeAlike
import Derived.Lib.Hide
import Derived.Handy
import Derived.IntWalk
namespace Go.Proofs.Ytojgfpnecdngfaa
open Go Go.RowKit

theorem ret_int {k : IntKind} {a b : Int} (h : a = b) : Ending.returned (.int k a) = .returned (.int k b) := by rw [h]
theorem ret_bool {a b : Bool} (h : a = b) : Ending.returned (.bool a) = .returned (.bool b) := by rw [h]
theorem wrap_in {q : Int} (h1 : -9223372036854775808 ≤ q) (h2 : q ≤ 9223372036854775807) : IntKind.i64.wrap q = q := by
  rw [IntKind.wrap_i64]; omega
theorem info_int : (Try.prog.info? 3).map (fun i => (i.zero, i.size, i.bytes)) = some (some (.int .i64 0), 1, 8) := by kernel_rfl
theorem info_bool : (Try.prog.info? 4).map (fun i => (i.zero, i.size, i.bytes)) = some (some (.bool false), 1, 1) := by kernel_rfl
theorem bcell {W w1 : World} (hb : Below W.heap.size W w1) : (∀ b o, b < W.heap.size → w1.cell? ⟨b, o, none⟩ = W.cell? ⟨b, o, none⟩) ∧ (∀ b o, b < W.heap.size → w1.frozen? ⟨b, o, none⟩ = W.frozen? ⟨b, o, none⟩) :=
  ⟨fun b o h => hb.cell (p := ⟨b, o, none⟩) h, fun b o h => hb.frozen (p := ⟨b, o, none⟩) h⟩

/-- Only blocks of ex, and what is new, have turned. -/
structure Kp (ex : Nat → Prop) (w w' : World) : Prop where
  os : w'.os = w.os
  tape : w'.tape = w.tape
  output : w'.output = w.output
  size : w.heap.size ≤ w'.heap.size
  block : ∀ k, k < w.heap.size → ¬ ex k → w'.heap[k]? = w.heap[k]?
namespace Kp
variable {ex ex' : Nat → Prop} {a w w' : World}
theorem refl (ex : Nat → Prop) (w : World) : Kp ex w w := ⟨rfl, rfl, rfl, Nat.le_refl _, fun _ _ _ => rfl⟩
theorem trans (h : Kp ex a w) (k : Kp ex w w') : Kp ex a w' :=
  ⟨k.os.trans h.os, k.tape.trans h.tape, k.output.trans h.output, Nat.le_trans h.size k.size, fun i hi hn => (k.block i (Nat.lt_of_lt_of_le hi h.size) hn).trans (h.block i hi hn)⟩
theorem mono (h : Kp ex w w') (hx : ∀ k, k < w.heap.size → ex k → ex' k) : Kp ex' w w' := ⟨h.os, h.tape, h.output, h.size, fun k hk hn => h.block k hk (fun he => hn (hx k hk he))⟩
theorem drew (h : Kp ex a w) : Kp ex a w.drew := ⟨h.os, h.tape, h.output, h.size, h.block⟩
theorem drewN (h : Kp ex a w) (n : Nat) : Kp ex a (w.drewN n) := ⟨h.os, h.tape, h.output, h.size, h.block⟩
theorem alloc (h : Kp ex a w) (o : Obj) : Kp ex a (w.alloc o) := h.trans ⟨rfl, rfl, rfl, by simp, fun k hk _ => Below.heap_alloc _ _ _ hk⟩
theorem setCell (h : Kp ex a w) {p : Addr} (hp : ex p.block ∨ a.heap.size ≤ p.block) (u : Value) : Kp ex a (w.setCell p u) :=
  ⟨h.os, h.tape, h.output, by simpa [World.setCell] using h.size, fun k hk hn => (Below.heap_setCell _ _ _ _ (by
    rintro rfl
    rcases hp with hp | hp
    · exact hn hp
    · omega)).trans (h.block k hk hn)⟩
theorem of_below (h : Below w.heap.size w w') : Kp ex w w' := ⟨h.os, h.tape, h.output, h.size, fun k hk _ => h.block k hk⟩
theorem below (h : Kp ex w w') {B : Nat} (hB : B ≤ w.heap.size) (hx : ∀ k, ex k → B ≤ k) : Below B w w' :=
  ⟨h.os, h.tape, h.output, h.size, fun k hk => h.block k (Nat.lt_of_lt_of_le hk hB) (fun he => by have := hx k he; omega)⟩
theorem row {b n : Nat} {t : TypeId} {f : Nat → Value} (h : Kp ex w w') (hr : w.rowIs b t n f) (hn : ¬ ex b) : w'.rowIs b t n f := hr.of_block (h.block b hr.lt hn)
theorem heap {b : Nat} {o : Obj} (h : Kp ex w w') (hr : w.heap[b]? = some o) (hn : ¬ ex b) : w'.heap[b]? = some o :=
  (h.block b (Array.getElem?_eq_some_iff.1 hr).1 hn).trans hr
end Kp

/-- A slice's address, which holds n ints below block B. -/
def Rd (w : World) (B : Nat) (A : Option Addr) (n : Nat) (f : Nat → Int) : Prop := ∀ k, k < n → ∃ b, A = some b ∧ b.block < B ∧ w.cell? (b.add k) = some (.int .i64 (f k))
/-- A table: m rows, the row i of L i ints, all below block B. -/
def Tb (w : World) (B : Nat) (A : Option Addr) (m : Nat) (L : Nat → Nat) (f : Nat → Nat → Int) : Prop :=
  ∀ i, i < m → ∃ a Ai ci, A = some a ∧ a.block < B ∧ w.cell? (a.add i) = some (.slice Ai (L i) ci) ∧ Rd w B Ai (L i) (f i)
theorem block_add (a : Addr) (n : Nat) : (a.add n).block = a.block := by unfold Addr.add; split <;> rfl
theorem Rd.keep {w w' : World} {B : Nat} {A : Option Addr} {n : Nat} {f : Nat → Int} (h : Rd w B A n f) (hk : ∀ k, k < B → w'.heap[k]? = w.heap[k]?) : Rd w' B A n f := fun k hkn => by
  obtain ⟨b, h1, h2, h3⟩ := h k hkn
  exact ⟨b, h1, h2, (World.cell?_of_block (w := w) (a := b.add k) (hk _ (by rw [block_add]; exact h2))).trans h3⟩
theorem Tb.keep {w w' : World} {B : Nat} {A : Option Addr} {m : Nat} {L : Nat → Nat} {f : Nat → Nat → Int} (h : Tb w B A m L f) (hk : ∀ k, k < B → w'.heap[k]? = w.heap[k]?) : Tb w' B A m L f := fun i hi => by
  obtain ⟨a, Ai, ci, h1, h2, h3, h4⟩ := h i hi
  exact ⟨a, Ai, ci, h1, h2, (World.cell?_of_block (w := w) (a := a.add i) (hk _ (by rw [block_add]; exact h2))).trans h3, h4.keep hk⟩
theorem Tb.below {w w' : World} {B B' : Nat} {A : Option Addr} {m : Nat} {L : Nat → Nat} {f : Nat → Nat → Int} (h : Tb w B A m L f) (hb : Below B' w w') (hB : B ≤ B') : Tb w' B A m L f :=
  h.keep fun k hk => hb.block k (by omega)
theorem Rd.below {w w' : World} {B B' : Nat} {A : Option Addr} {n : Nat} {f : Nat → Int} (h : Rd w B A n f) (hb : Below B' w w') (hB : B ≤ B') : Rd w' B A n f :=
  h.keep fun k hk => hb.block k (by omega)
theorem Tb.kp {w w' : World} {B : Nat} {ex : Nat → Prop} {A : Option Addr} {m : Nat} {L : Nat → Nat} {f : Nat → Nat → Int} (h : Tb w B A m L f) (hb : Kp ex w w') (hB : B ≤ w.heap.size) (hx : ∀ k, k < B → ¬ ex k) : Tb w' B A m L f :=
  h.keep fun k hk => hb.block k (by omega) (hx k hk)
theorem Tb.mono {w : World} {B B' : Nat} {A : Option Addr} {m : Nat} {L : Nat → Nat} {f : Nat → Nat → Int} (h : Tb w B A m L f) (hB : B ≤ B') : Tb w B' A m L f := fun i hi => by
  obtain ⟨a, Ai, ci, h1, h2, h3, h4⟩ := h i hi
  exact ⟨a, Ai, ci, h1, by omega, h3, fun k hk => by obtain ⟨b, e1, e2, e3⟩ := h4 k hk; exact ⟨b, e1, by omega, e3⟩⟩
theorem Rd.mono {w : World} {B B' : Nat} {A : Option Addr} {n : Nat} {f : Nat → Int} (h : Rd w B A n f) (hB : B ≤ B') : Rd w B' A n f := fun k hk => by
  obtain ⟨b, e1, e2, e3⟩ := h k hk; exact ⟨b, e1, by omega, e3⟩
theorem Rd.of_row {w : World} {B g n N : Nat} {f : Nat → Int} (h : w.rowIs g 3 N (fun j => .int .i64 (f j))) (hg : g < B) (hN : n ≤ N) : Rd w B (some ⟨g, 0, none⟩) n f := fun k hk =>
  ⟨_, rfl, hg, by rw [Addr.add_mid, Nat.zero_add]; exact h.cell (by omega)⟩
/-- A row of ints, a row of bools, of the call's own. -/
abbrev IR (w : World) (g n : Nat) (f : Nat → Int) : Prop := w.rowIs g 3 n (fun j => .int .i64 (f j))
abbrev BR (w : World) (g n : Nat) (f : Nat → Bool) : Prop := w.rowIs g 4 n (fun j => .bool (f j))
/-- The three rows of ways, as the struct holds them. -/
abbrev wayV (gD gB gK n : Nat) : Value := .agg #[.slice (some ⟨gD, 0, none⟩) n n, .slice (some ⟨gB, 0, none⟩) n n, .slice (some ⟨gK, 0, none⟩) n n]

set_option maxHeartbeats 1000000 in
theorem free_c (gD gB gK n k : Nat) (kn : Nat → Bool) (w : World) (hk : k < n) (hn : n ≤ 1000000) (hK : BR w gK n kn) :
    Calls Try.prog 55 #[wayV gD gB gK n, .int .i64 (k : Int)] w fun e w' => e = .returned (.bool (!kn k)) ∧ Below w.heap.size w w' := by
  have hlt := hK.lt
  have c0 := (hK.alloc (.cells #[.slice (some ⟨gD, 0, none⟩) n n, .slice (some ⟨gB, 0, none⟩) n n, .slice (some ⟨gK, 0, none⟩) n n] 86)).cell hk
  have hki : (k : Int) < (n : Int) := by omega
  go_enter Try.func55, Try.ntmps55
  go_wp2
  go_ret
  exact ⟨rfl, (Below.refl _ _).alloc (Nat.le_refl _) _⟩
end Go.Proofs.Ytojgfpnecdngfaa
