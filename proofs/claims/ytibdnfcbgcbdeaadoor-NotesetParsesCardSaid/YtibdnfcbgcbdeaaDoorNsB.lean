/- The listed package-level variables in a world; the least note of a set; the iterator over a set's notes, by what it gives to any loop whose body goes on. -/
import Derived.Test.YtibdnfcbgcbdeaaDoorNsA
import Derived.Test.YtibdnfcbgcbdeaaDoorNsR
import Derived.Test.YtibdnfcbgcbdeaaDoorNsShelf
import Derived.Lib.SmallJoins
namespace Go.Proofs.YtibdnfcbgcbdeaaDoor
open Go Go.RowKit Go.Shelf

def letters : List ByteArray := [⟨#[67]⟩, ⟨#[67, 35]⟩, ⟨#[68]⟩, ⟨#[68, 35]⟩, ⟨#[69]⟩, ⟨#[70]⟩, ⟨#[70, 35]⟩, ⟨#[71]⟩, ⟨#[71, 35]⟩, ⟨#[65]⟩, ⟨#[65, 35]⟩, ⟨#[66]⟩]

/-- What the listed variables hold. -/
structure Gl (w : World) : Prop where
  size : 3 ≤ w.heap.size
  tz : TabAt 1 Lib.deBruijn64tab w
  names : ∀ (j : Nat) v, letters[j]? = some v → w.cell? ⟨0, j, none⟩ = some (.string v)
  p10 : Lib.TabIs Tryd.prog w "internal/strconv.uint64pow10" .u64 Lib.pow10Tab

theorem Gl.below {w w' : World} (h : Gl w) (hb : Below w.heap.size w w') : Gl w' where
  size := Nat.le_trans h.size hb.size
  tz := fun j hj => (hb.cell (p := ⟨1, j, none⟩) (by have := h.size; simp; omega)).trans (h.tz j hj)
  names := fun j v hv => (hb.cell (p := ⟨0, j, none⟩) (by have := h.size; simp; omega)).trans (h.names j v hv)
  p10 := Joins.tab_stays (g := 2) (by kernel_rfl) h.p10 hb (Nat.le_refl _)

theorem tz_any (x : Nat) (hx : x < 18446744073709551616) (w : World) (h : Gl w) :
    Calls Tryd.prog 49 #[.int .u64 x] w fun e w' => e = .returned (.int .i64 (Lib.ctz 64 x : Nat)) ∧ w = w' :=
  (Any7.bits_TrailingZeros64 Tryd.lays29 x hx w (fun _ => h.tz)).mono fun _ _ ⟨a, b⟩ => ⟨a, b.symm⟩

set_option maxHeartbeats 400000 in
theorem least_low (lo hi : Nat) (hl : lo < 18446744073709551616) (h0 : lo ≠ 0) (w : World) (G : Gl w) :
    Calls Tryd.prog 25 #[.agg #[.int .u64 lo, .int .u64 hi]] w fun e w' => e = .returned (.tuple #[.int .i64 (Ns.least lo hi : Nat), .bool true]) ∧ Below w.heap.size w w' := by
  have e1 : Ns.least lo hi = Lib.ctz 64 lo := by unfold Ns.least; rw [if_neg h0]
  rw [e1]
  clear e1
  have c := fun o => tz_any lo hl (w.alloc o) (G.below ((Below.refl _ _).alloc (Nat.le_refl _) o))
  have C := Lib.hid c
  clear c
  have hne : ((lo : Int) != 0) = true := by simp; omega
  go_enter Tryd.func25, Tryd.ntmps25
  go_wp2_with (go_at_call 49; refine (C.out _).mono ?_; rintro e w' ⟨rfl, rfl⟩)
  go_ret2
  exact ⟨rfl, (Below.refl _ _).alloc (Nat.le_refl _) _⟩

set_option maxHeartbeats 400000 in
theorem least_high (hi : Nat) (hh : hi < 18446744073709551616) (h0 : hi ≠ 0) (w : World) (G : Gl w) :
    Calls Tryd.prog 25 #[.agg #[.int .u64 0, .int .u64 hi]] w fun e w' => e = .returned (.tuple #[.int .i64 (Ns.least 0 hi : Nat), .bool true]) ∧ Below w.heap.size w w' := by
  have e1 : (Ns.least 0 hi : Int) = 64 + (Lib.ctz 64 hi : Nat) := by unfold Ns.least; rw [if_pos rfl]; simp
  rw [e1]
  clear e1
  have c := fun o => tz_any hi hh (w.alloc o) (G.below ((Below.refl _ _).alloc (Nat.le_refl _) o))
  have C := Lib.hid c
  clear c
  have hne : ((hi : Int) != 0) = true := by simp; omega
  have hk : Lib.ctz 64 hi < 64 := (Ns.ctz_spec hi h0 hh).1
  have hw : IntKind.i64.wrap (64 + (Lib.ctz 64 hi : Nat)) = 64 + (Lib.ctz 64 hi : Nat) := by rw [IntKind.wrap_i64]; omega
  go_enter Tryd.func25, Tryd.ntmps25
  go_wp2_with (go_at_call 49; refine (C.out _).mono ?_; rintro e w' ⟨rfl, rfl⟩)
  go_ret2
  exact ⟨rfl, (Below.refl _ _).alloc (Nat.le_refl _) _⟩

set_option maxHeartbeats 400000 in
theorem least_none (w : World) :
    Calls Tryd.prog 25 #[.agg #[.int .u64 0, .int .u64 0]] w fun e w' => e = .returned (.tuple #[.int .i64 0, .bool false]) ∧ Below w.heap.size w w' := by
  go_enter Tryd.func25, Tryd.ntmps25
  go_wp2
  go_ret2
  exact ⟨rfl, (Below.refl _ _).alloc (Nat.le_refl _) _⟩

theorem least_some (lo hi : Nat) (hl : lo < 18446744073709551616) (hh : hi < 18446744073709551616) (h0 : ¬ (lo = 0 ∧ hi = 0)) (w : World) (G : Gl w) :
    Calls Tryd.prog 25 #[.agg #[.int .u64 lo, .int .u64 hi]] w fun e w' => e = .returned (.tuple #[.int .i64 (Ns.least lo hi : Nat), .bool true]) ∧ Below w.heap.size w w' := by
  by_cases h : lo = 0
  · subst h
    exact least_high hi hh (fun e => h0 ⟨rfl, e⟩) w G
  · exact least_low lo hi hl h w G
end Go.Proofs.YtibdnfcbgcbdeaaDoor
