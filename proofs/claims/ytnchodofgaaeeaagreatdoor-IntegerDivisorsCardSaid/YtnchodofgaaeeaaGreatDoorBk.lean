/- slices.Backward over a slice that nothing writes meanwhile: its elements come from the last to the first, to any loop. -/
import Derived.Test.YtnchodofgaaeeaaGreatDoorRg
import Derived.Lib.Hide
namespace Go.Proofs.YtnchodofgaaeeaaGreatDoor
open Go Go.RowKit Go.Shelf
attribute [local go_sem] Oper.semAt_some

/-- A call in the wide fence. -/
theorem wide_call {P : Program} {n : Nat} {f : FuncId} {args : Array Value} {w : World} {R : Ending → World → Prop} (h : Calls P f args w R) :
    Fence.wide.fn f ∧ (Fence.wide.depth.isSome = true → 1 ≤ n) ∧ CallsIn Fence.wide (n - 1) P f args w R :=
  ⟨trivial, (fun h => by simp [Fence.wide] at h), callsIn_wide.2 h⟩
theorem wide_fn (f : FuncId) : Fence.wide.fn f = True := by simp [Fence.wide]
theorem wide_depth : Fence.wide.depth = none := rfl
attribute [local go_sem] wide_fn wide_depth

/-- The last r of n elements, from the last on. -/
def downL (X : Nat → Int) (n r : Nat) : List (Nat × Int) := (List.range r).map fun j => (n - 1 - j, X (n - 1 - j))
theorem downL_succ (X : Nat → Int) (n r : Nat) : downL X n (r + 1) = downL X n r ++ [(n - 1 - r, X (n - 1 - r))] := by simp [downL, List.range_succ]
theorem downL_length (X : Nat → Int) (n r : Nat) : (downL X n r).length = r := by simp [downL]
theorem downL_split (X : Nat → Int) (n r : Nat) (h : r < n) : ∃ post, downL X n n = downL X n r ++ (n - 1 - r, X (n - 1 - r)) :: post := by
  obtain ⟨k, hk⟩ : ∃ k, n = r + 1 + k := ⟨n - r - 1, by omega⟩
  refine ⟨(List.range k).map fun j => (n - 1 - (r + 1 + j), X (n - 1 - (r + 1 + j))), ?_⟩
  have : List.range n = List.range r ++ r :: (List.range k).map (fun j => r + 1 + j) := by
    rw [hk, List.range_add, List.range_succ, List.append_assoc, List.singleton_append]
  unfold downL
  rw [this]
  simp
/-- What comes at the place of a prefix. -/
theorem downL_at (X : Nat → Int) (n : Nat) {pre : List (Nat × Int)} {x : Nat × Int} (h : ∃ post, downL X n n = pre ++ x :: post) : pre.length < n ∧ pre = downL X n pre.length ∧ x = (n - 1 - pre.length, X (n - 1 - pre.length)) := by
  obtain ⟨post, h⟩ := h
  have hl := congrArg List.length h
  rw [downL_length] at hl
  simp at hl
  obtain ⟨post2, h2⟩ := downL_split X n pre.length (by omega)
  rw [h] at h2
  have := List.append_inj h2 (by rw [downL_length])
  obtain ⟨h3, h4⟩ := this
  cases h4
  exact ⟨by omega, h3, rfl⟩
theorem downL_pre (X : Nat → Int) (n : Nat) {pre : List (Nat × Int)} (h : ∃ post, downL X n n = pre ++ post) : pre.length ≤ n ∧ pre = downL X n pre.length := by
  obtain ⟨post, h⟩ := h
  have hl := congrArg List.length h
  rw [downL_length, List.length_append] at hl
  rcases post with _ | ⟨x, post⟩
  · rw [List.append_nil] at h
    simp at hl
    exact ⟨by omega, by rw [← hl]; exact h.symm⟩
  · have := downL_at X n ⟨post, h⟩
    exact ⟨by omega, this.2.1⟩

/-- What the iterator reads between two rounds. -/
def BkK (Bs : Nat) (sa : Option Addr) (B off n cap : Nat) (X : Nat → Int) (A : World) : Prop :=
  A.cell? ⟨Bs, 0, none⟩ = some (.slice sa n cap) ∧ (0 < n → sa = some ⟨B, off, none⟩) ∧ ∀ k, k < n → A.cell? ⟨B, off + k, none⟩ = some (.int .u64 (X k))

theorem backward_any (sa : Option Addr) (n cap : Nat) (w : World) :
    Calls Tryz.prog 103 #[.slice sa n cap] w fun e w' => e = .returned (.func (.func 127) #[] #[.pointer (some ⟨w.heap.size, 0, none⟩)]) ∧ w' = w.alloc (.cells #[.slice sa n cap] 78) := by
  go_enter Tryz.func103, Tryz.ntmps103
  go_wp2
  go_ret
  exact ⟨rfl, rfl⟩

set_option maxRecDepth 100000 in
set_option maxHeartbeats 2000000 in
theorem backward_gives (Bs : Nat) (sa : Option Addr) (B off n cap : Nat) (X : Nat → Int) (hn : n ≤ 1099511627776) (d : Nat) (w : World) :
    Rg.Gives Fence.wide d Tryz.prog 127 #[.pointer (some ⟨Bs, 0, none⟩)] (fun x : Nat × Int => #[.int .i64 (x.1 : Nat), .int .u64 x.2]) (downL X n n) w (BkK Bs sa B off n cap X) := by
  intro l J Jx W hbW hJ hJx hK hY h0
  show CallsIn Fence.wide d Tryz.prog 127 #[.func (.yield l) #[] #[], .pointer (some ⟨Bs, 0, none⟩)] W _
  have c0 := (hK _ _ h0).1
  have hnw : IntKind.i64.wrap ((n : Int) - 1) = (n : Int) - 1 := by rw [IntKind.wrap_i64]; omega
  have hnn : (n : Int) ≤ 1099511627776 := by omega
  refine callsIn_of_wp Tryz.func127 rfl trivial ?_ rfl
  simp only [Tryz.ntmps127, List.size_toArray, List.length_cons, List.length_nil, Nat.reduceAdd, Nat.reduceSub, Array.replicate_succ, Array.replicate_zero, List.push_toArray, List.append_toArray, List.nil_append, List.cons_append]
  gi_wp2
  gi_loopw [3] (fun i wr => ∃ r : Nat, r ≤ n ∧ i = .int .i64 ((n : Int) - 1 - (r : Int)) ∧ J (downL X n r) wr) (fun i _ => ((intOf i) + 1).toNat)
  case atStart => exact ⟨0, Nat.zero_le _, by simp, h0⟩
  case round =>
    obtain ⟨r, hr, rfl, hJs⟩ := hrel
    clear c0 hnw
    by_cases h1 : r < n
    · obtain ⟨k, hk⟩ : ∃ k : Nat, n - 1 - r = k := ⟨_, rfl⟩
      have hki : (n : Int) - 1 - (r : Int) = (k : Int) := by omega
      obtain ⟨c0, c1, c2⟩ := hK _ _ hJs
      obtain rfl := c1 (by omega)
      have hx := c2 k (by omega)
      have hkn : (k : Int) < (n : Int) := by omega
      obtain ⟨fn, tmps, assign, body, hy, hR⟩ := hY (downL X n r) (n - 1 - r, X (n - 1 - r)) wr hJs (downL_split X n r h1)
      have hS := Lib.hid (downL_succ X n r)
      rw [hk] at hy hR hS
      dsimp only at hy
      rw [hki]
      have HKI := Lib.hid hki
      generalize X k = x at *
      clear c1 c2 hk hki
      gi_wp2_with fail
      refine hR.mono ?_
      rintro e W3 (⟨rfl, hJ3⟩ | ⟨rfl, hJx3⟩)
      · gi_wp2
        go_roundw
        case rel => exact ⟨r + 1, by omega, by rw [← HKI.out]; congr 1; omega, by rw [hS.out]; exact hJ3⟩
        case measure => simp [intOf]
      · gi_wp2
        refine bodyPost_ret (results_none rfl _ _ _) rfl ?_
        obtain ⟨post, hp⟩ := downL_split X n r h1
        exact ⟨⟨_, rfl⟩, .inr ⟨_, ⟨post, by rw [hp, ← hS.out, downL_succ]; simp⟩, hJx3⟩⟩
    · obtain rfl : r = n := by omega
      have hm : ¬ (0 : Int) ≤ (r : Int) - 1 - (r : Int) := by omega
      gi_wp2
      go_end0
      exact ⟨⟨_, rfl⟩, .inl hJs⟩
end Go.Proofs.YtnchodofgaaeeaaGreatDoor
