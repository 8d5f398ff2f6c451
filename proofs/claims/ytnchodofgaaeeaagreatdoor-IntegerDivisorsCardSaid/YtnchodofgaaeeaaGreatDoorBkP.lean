/- slices.Backward over a slice of which the loop's body writes what has come already. -/
import Derived.Test.YtnchodofgaaeeaaGreatDoorBk
import Derived.Test.YtnchodofgaaeeaaGreatDoorRgP
namespace Go.Proofs.YtnchodofgaaeeaaGreatDoor
open Go Go.RowKit Go.Shelf
attribute [local go_sem] Oper.semAt_some wide_fn wide_depth

/-- What the iterator reads between two rounds, s having come. -/
def BkP (Bs : Nat) (sa : Option Addr) (B off n cap : Nat) (X : Nat → Int) (s : List (Nat × Int)) (A : World) : Prop :=
  A.cell? ⟨Bs, 0, none⟩ = some (.slice sa n cap) ∧ (0 < n → sa = some ⟨B, off, none⟩) ∧ ∀ k, k + s.length < n → A.cell? ⟨B, off + k, none⟩ = some (.int .u64 (X k))

set_option maxRecDepth 100000 in
set_option maxHeartbeats 2000000 in
theorem backward_givesP (Bs : Nat) (sa : Option Addr) (B off n cap : Nat) (X : Nat → Int) (hn : n ≤ 1099511627776) (d : Nat) (w : World) :
    Rg.GivesP Fence.wide d Tryz.prog 127 #[.pointer (some ⟨Bs, 0, none⟩)] (fun x : Nat × Int => #[.int .i64 (x.1 : Nat), .int .u64 x.2]) (downL X n n) w (BkP Bs sa B off n cap X) := by
  intro l J Jx W hbW hJ hJx hK hY h0
  show CallsIn Fence.wide d Tryz.prog 127 #[.func (.yield l) #[] #[], .pointer (some ⟨Bs, 0, none⟩)] W _
  have c0 := (hK _ _ h0).1
  have hnw : IntKind.i64.wrap ((n : Int) - 1) = (n : Int) - 1 := by rw [IntKind.wrap_i64]; omega
  have hnn : (n : Int) ≤ 1099511627776 := by omega
  refine callsIn_of_wp Tryz.func127 rfl trivial ?_ rfl
  simp only [Tryz.ntmps127, List.size_toArray, List.length_cons, List.length_nil, Nat.reduceAdd, Nat.reduceSub, Array.replicate_succ, Array.replicate_zero, List.push_toArray, List.append_toArray, List.nil_append, List.cons_append]
  gi_wp2
  gi_loopw [3] (fun i wr => ∃ r : Nat, r ≤ n ∧ i = .int .i64 ((n : Int) - 1 - (r : Int)) ∧ J (downL X n r) wr) (fun i _ => ((intOf i) + 1).toNat)
  case atStart => exact ⟨0, Nat.zero_le _, by simp, h0⟩
  case round =>
    obtain ⟨r, hr, rfl, hJs⟩ := hrel
    clear c0 hnw
    by_cases h1 : r < n
    · obtain ⟨k, hk⟩ : ∃ k : Nat, n - 1 - r = k := ⟨_, rfl⟩
      have hki : (n : Int) - 1 - (r : Int) = (k : Int) := by omega
      obtain ⟨c0, c1, c2⟩ := hK _ _ hJs
      obtain rfl := c1 (by omega)
      have hx := c2 k (by rw [downL_length]; omega)
      have hkn : (k : Int) < (n : Int) := by omega
      obtain ⟨fn, tmps, assign, body, hy, hR⟩ := hY (downL X n r) (n - 1 - r, X (n - 1 - r)) wr hJs (downL_split X n r h1)
      have hS := Lib.hid (downL_succ X n r)
      rw [hk] at hy hR hS
      dsimp only at hy
      rw [hki]
      have HKI := Lib.hid hki
      generalize X k = x at *
      clear c1 c2 hk hki
      gi_wp2_with fail
      refine hR.mono ?_
      rintro e W3 (⟨rfl, hJ3⟩ | ⟨rfl, hJx3⟩)
      · gi_wp2
        go_roundw
        case rel => exact ⟨r + 1, by omega, by rw [← HKI.out]; congr 1; omega, by rw [hS.out]; exact hJ3⟩
        case measure => simp [intOf]
      · gi_wp2
        refine bodyPost_ret (results_none rfl _ _ _) rfl ?_
        obtain ⟨post, hp⟩ := downL_split X n r h1
        exact ⟨⟨_, rfl⟩, .inr ⟨_, ⟨post, by rw [hp, ← hS.out, downL_succ]; simp⟩, hJx3⟩⟩
    · obtain rfl : r = n := by omega
      have hm : ¬ (0 : Int) ≤ (r : Int) - 1 - (r : Int) := by omega
      gi_wp2
      go_end0
      exact ⟨⟨_, rfl⟩, .inl hJs⟩
end Go.Proofs.YtnchodofgaaeeaaGreatDoor
