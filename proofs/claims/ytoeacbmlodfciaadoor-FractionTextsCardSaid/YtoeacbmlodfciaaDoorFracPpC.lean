/- The reference's Parse, path by path (PpC). -/
import Derived.Test.YtoeacbmlodfciaaDoorFracPr
namespace Go.Proofs.YtoeacbmlodfciaaDoor
open Go Go.RowKit Go.Shelf

set_option maxRecDepth 100000 in
set_option maxHeartbeats 800000 in
theorem rp_mixed_bad1_neg (s M : ByteArray) (h0 : 0 < s.size) (h40 : s.size ≤ 40) (b0 : (((s[0]'h0).toNat : Int) == 45) = true) (hM : s.extract 1 s.size = M) (hM40 : M.size ≤ 40) (R T U : ByteArray) (n x m y : Nat) (hn : 0 < n) (hnM : n ≤ M.size) (N1 : Hid (∀ q : World, Calls Tryd.prog 50 #[.string M] q fun e w' => e = .returned (.tuple #[.int .i64 (n : Nat), .int .i64 (x : Nat)]) ∧ ∃ n, w' = q.drewN n)) (hR : M.extract n M.size = R) (hRs : 0 < R.size) (hR40 : R.size ≤ 40) (bR : (((R[0]'hRs).toNat : Int) == 32) = true) (hT : R.extract 1 R.size = T) (N2 : Hid (∀ q : World, Calls Tryd.prog 50 #[.string T] q fun e w' => e = .returned (.tuple #[.int .i64 (m : Nat), .int .i64 (y : Nat)]) ∧ ∃ n, w' = q.drewN n)) (hU : R.extract (1 + m) R.size = U) (hm : 0 < m) (hmR : m + 1 ≤ R.size) (hUs : 0 < U.size) (hU40 : U.size ≤ 40) (V : ByteArray) (k z : Nat) (bU : (((U[0]'hUs).toNat : Int) == 47) = false) (hV : U.extract 1 U.size = V) (N3 : Hid (∀ q : World, Calls Tryd.prog 50 #[.string V] q fun e w' => e = .returned (.tuple #[.int .i64 (k : Nat), .int .i64 (z : Nat)]) ∧ ∃ n, w' = q.drewN n)) (hk40 : k ≤ 40)  (w : World) :
    Calls Tryd.prog 29 #[.string s] w fun e w' => e = .returned (.tuple #[.agg #[.int .i64 0, .int .i64 0], .int .i64 15]) ∧ Below w.heap.size w w' := by
  obtain ⟨n1, n2, n3⟩ := nonempty_facts (show s.size ≠ 0 by omega)
  have h41 : ¬ (40 : Int) < (s.size : Int) := by omega
  have h01 : (0 : Int) < (s.size : Int) := by omega
  have h11 : (1 : Int) ≤ (s.size : Int) := by omega
  have hni : (0 : Int) < (n : Int) := by omega
  have hnMi : (n : Int) ≤ (M.size : Int) := by omega
  have hM41 : (M.size : Int) ≤ 40 := by omega
  obtain ⟨R1, R2, R3⟩ := nonempty_facts (show R.size ≠ 0 by omega)
  have Ri : (0 : Int) < (R.size : Int) := by omega
  have Rj : (1 : Int) ≤ (R.size : Int) := by omega
  have hR40i : (R.size : Int) ≤ 40 := by omega
  have hmi : (0 : Int) < (m : Int) := by omega
  have hmRi : (1 : Int) + (m : Int) ≤ (R.size : Int) := by omega
  obtain ⟨U1, U2, U3⟩ := nonempty_facts (show U.size ≠ 0 by omega)
  have Ui : (0 : Int) < (U.size : Int) := by omega
  have Uj : (1 : Int) ≤ (U.size : Int) := by omega
  have hk40i : (k : Int) ≤ 40 := by omega
  go_enter Tryd.func29, Tryd.ntmps29
  go_wp2_with (first | (go_at_call_of 50 (Value.string M); refine (N1.out _).mono ?_; rintro e w1 ⟨rfl, j1, rfl⟩) | (go_at_call_of 50 (Value.string T); refine (N2.out _).mono ?_; rintro e w1 ⟨rfl, j2, rfl⟩) | (go_at_call_of 50 (Value.string V); refine (N3.out _).mono ?_; rintro e w1 ⟨rfl, j3, rfl⟩) | go_quiet (fail))
  all_goals exact bodyPost_ret (v := .tuple #[.agg #[.int .i64 0, .int .i64 0], .int .i64 15]) (by simp [results, Tryd.results29, go_sem]) rfl ⟨rfl, ((below_drewN ((Below.refl _ _).alloc (Nat.le_refl _) _) _).setCell (by simp) _).setCell (by simp) _⟩

set_option maxRecDepth 100000 in
set_option maxHeartbeats 800000 in
theorem rp_mixed_bad2_neg (s M : ByteArray) (h0 : 0 < s.size) (h40 : s.size ≤ 40) (b0 : (((s[0]'h0).toNat : Int) == 45) = true) (hM : s.extract 1 s.size = M) (hM40 : M.size ≤ 40) (R T U : ByteArray) (n x m y : Nat) (hn : 0 < n) (hnM : n ≤ M.size) (N1 : Hid (∀ q : World, Calls Tryd.prog 50 #[.string M] q fun e w' => e = .returned (.tuple #[.int .i64 (n : Nat), .int .i64 (x : Nat)]) ∧ ∃ n, w' = q.drewN n)) (hR : M.extract n M.size = R) (hRs : 0 < R.size) (hR40 : R.size ≤ 40) (bR : (((R[0]'hRs).toNat : Int) == 32) = true) (hT : R.extract 1 R.size = T) (N2 : Hid (∀ q : World, Calls Tryd.prog 50 #[.string T] q fun e w' => e = .returned (.tuple #[.int .i64 (m : Nat), .int .i64 (y : Nat)]) ∧ ∃ n, w' = q.drewN n)) (hU : R.extract (1 + m) R.size = U) (hm : 0 < m) (hmR : m + 1 ≤ R.size) (hUs : 0 < U.size) (hU40 : U.size ≤ 40) (V : ByteArray) (k z : Nat) (bU : (((U[0]'hUs).toNat : Int) == 47) = true) (hV : U.extract 1 U.size = V) (N3 : Hid (∀ q : World, Calls Tryd.prog 50 #[.string V] q fun e w' => e = .returned (.tuple #[.int .i64 (k : Nat), .int .i64 (z : Nat)]) ∧ ∃ n, w' = q.drewN n)) (hk40 : k ≤ 40) (hk : k = 0) (w : World) :
    Calls Tryd.prog 29 #[.string s] w fun e w' => e = .returned (.tuple #[.agg #[.int .i64 0, .int .i64 0], .int .i64 15]) ∧ Below w.heap.size w w' := by
  obtain ⟨n1, n2, n3⟩ := nonempty_facts (show s.size ≠ 0 by omega)
  have h41 : ¬ (40 : Int) < (s.size : Int) := by omega
  have h01 : (0 : Int) < (s.size : Int) := by omega
  have h11 : (1 : Int) ≤ (s.size : Int) := by omega
  have hni : (0 : Int) < (n : Int) := by omega
  have hnMi : (n : Int) ≤ (M.size : Int) := by omega
  have hM41 : (M.size : Int) ≤ 40 := by omega
  obtain ⟨R1, R2, R3⟩ := nonempty_facts (show R.size ≠ 0 by omega)
  have Ri : (0 : Int) < (R.size : Int) := by omega
  have Rj : (1 : Int) ≤ (R.size : Int) := by omega
  have hR40i : (R.size : Int) ≤ 40 := by omega
  have hmi : (0 : Int) < (m : Int) := by omega
  have hmRi : (1 : Int) + (m : Int) ≤ (R.size : Int) := by omega
  obtain ⟨U1, U2, U3⟩ := nonempty_facts (show U.size ≠ 0 by omega)
  have Ui : (0 : Int) < (U.size : Int) := by omega
  have Uj : (1 : Int) ≤ (U.size : Int) := by omega
  have hk40i : (k : Int) ≤ 40 := by omega
  subst hk
  go_enter Tryd.func29, Tryd.ntmps29
  go_wp2_with (first | (go_at_call_of 50 (Value.string M); refine (N1.out _).mono ?_; rintro e w1 ⟨rfl, j1, rfl⟩) | (go_at_call_of 50 (Value.string T); refine (N2.out _).mono ?_; rintro e w1 ⟨rfl, j2, rfl⟩) | (go_at_call_of 50 (Value.string V); refine (N3.out _).mono ?_; rintro e w1 ⟨rfl, j3, rfl⟩) | go_quiet (fail))
  all_goals exact bodyPost_ret (v := .tuple #[.agg #[.int .i64 0, .int .i64 0], .int .i64 15]) (by simp [results, Tryd.results29, go_sem]) rfl ⟨rfl, ((below_drewN ((Below.refl _ _).alloc (Nat.le_refl _) _) _).setCell (by simp) _).setCell (by simp) _⟩

set_option maxRecDepth 100000 in
set_option maxHeartbeats 800000 in
theorem rp_mixed_bad3_neg (s M : ByteArray) (h0 : 0 < s.size) (h40 : s.size ≤ 40) (b0 : (((s[0]'h0).toNat : Int) == 45) = true) (hM : s.extract 1 s.size = M) (hM40 : M.size ≤ 40) (R T U : ByteArray) (n x m y : Nat) (hn : 0 < n) (hnM : n ≤ M.size) (N1 : Hid (∀ q : World, Calls Tryd.prog 50 #[.string M] q fun e w' => e = .returned (.tuple #[.int .i64 (n : Nat), .int .i64 (x : Nat)]) ∧ ∃ n, w' = q.drewN n)) (hR : M.extract n M.size = R) (hRs : 0 < R.size) (hR40 : R.size ≤ 40) (bR : (((R[0]'hRs).toNat : Int) == 32) = true) (hT : R.extract 1 R.size = T) (N2 : Hid (∀ q : World, Calls Tryd.prog 50 #[.string T] q fun e w' => e = .returned (.tuple #[.int .i64 (m : Nat), .int .i64 (y : Nat)]) ∧ ∃ n, w' = q.drewN n)) (hU : R.extract (1 + m) R.size = U) (hm : 0 < m) (hmR : m + 1 ≤ R.size) (hUs : 0 < U.size) (hU40 : U.size ≤ 40) (V : ByteArray) (k z : Nat) (bU : (((U[0]'hUs).toNat : Int) == 47) = true) (hV : U.extract 1 U.size = V) (N3 : Hid (∀ q : World, Calls Tryd.prog 50 #[.string V] q fun e w' => e = .returned (.tuple #[.int .i64 (k : Nat), .int .i64 (z : Nat)]) ∧ ∃ n, w' = q.drewN n)) (hk40 : k ≤ 40) (hk : 0 < k) (hkU : k + 1 ≠ U.size) (w : World) :
    Calls Tryd.prog 29 #[.string s] w fun e w' => e = .returned (.tuple #[.agg #[.int .i64 0, .int .i64 0], .int .i64 15]) ∧ Below w.heap.size w w' := by
  obtain ⟨n1, n2, n3⟩ := nonempty_facts (show s.size ≠ 0 by omega)
  have h41 : ¬ (40 : Int) < (s.size : Int) := by omega
  have h01 : (0 : Int) < (s.size : Int) := by omega
  have h11 : (1 : Int) ≤ (s.size : Int) := by omega
  have hni : (0 : Int) < (n : Int) := by omega
  have hnMi : (n : Int) ≤ (M.size : Int) := by omega
  have hM41 : (M.size : Int) ≤ 40 := by omega
  obtain ⟨R1, R2, R3⟩ := nonempty_facts (show R.size ≠ 0 by omega)
  have Ri : (0 : Int) < (R.size : Int) := by omega
  have Rj : (1 : Int) ≤ (R.size : Int) := by omega
  have hR40i : (R.size : Int) ≤ 40 := by omega
  have hmi : (0 : Int) < (m : Int) := by omega
  have hmRi : (1 : Int) + (m : Int) ≤ (R.size : Int) := by omega
  obtain ⟨U1, U2, U3⟩ := nonempty_facts (show U.size ≠ 0 by omega)
  have Ui : (0 : Int) < (U.size : Int) := by omega
  have Uj : (1 : Int) ≤ (U.size : Int) := by omega
  have hk40i : (k : Int) ≤ 40 := by omega
  have hki : (0 : Int) < (k : Int) := by omega
  have hkUi : (((1 : Int) + (k : Int)) == (U.size : Int)) = false := by simp; omega
  clear hkU
  go_enter Tryd.func29, Tryd.ntmps29
  go_wp2_with (first | (go_at_call_of 50 (Value.string M); refine (N1.out _).mono ?_; rintro e w1 ⟨rfl, j1, rfl⟩) | (go_at_call_of 50 (Value.string T); refine (N2.out _).mono ?_; rintro e w1 ⟨rfl, j2, rfl⟩) | (go_at_call_of 50 (Value.string V); refine (N3.out _).mono ?_; rintro e w1 ⟨rfl, j3, rfl⟩) | go_quiet (fail))
  all_goals exact bodyPost_ret (v := .tuple #[.agg #[.int .i64 0, .int .i64 0], .int .i64 15]) (by simp [results, Tryd.results29, go_sem]) rfl ⟨rfl, ((below_drewN ((Below.refl _ _).alloc (Nat.le_refl _) _) _).setCell (by simp) _).setCell (by simp) _⟩


set_option maxRecDepth 100000 in
set_option maxHeartbeats 800000 in
theorem rp_mixed_bad1_pos (M : ByteArray) (h0 : 0 < M.size) (h40 : M.size ≤ 40) (b0 : (((M[0]'h0).toNat : Int) == 45) = false) (R T U : ByteArray) (n x m y : Nat) (hn : 0 < n) (hnM : n ≤ M.size) (N1 : Hid (∀ q : World, Calls Tryd.prog 50 #[.string M] q fun e w' => e = .returned (.tuple #[.int .i64 (n : Nat), .int .i64 (x : Nat)]) ∧ ∃ n, w' = q.drewN n)) (hR : M.extract n M.size = R) (hRs : 0 < R.size) (hR40 : R.size ≤ 40) (bR : (((R[0]'hRs).toNat : Int) == 32) = true) (hT : R.extract 1 R.size = T) (N2 : Hid (∀ q : World, Calls Tryd.prog 50 #[.string T] q fun e w' => e = .returned (.tuple #[.int .i64 (m : Nat), .int .i64 (y : Nat)]) ∧ ∃ n, w' = q.drewN n)) (hU : R.extract (1 + m) R.size = U) (hm : 0 < m) (hmR : m + 1 ≤ R.size) (hUs : 0 < U.size) (hU40 : U.size ≤ 40) (V : ByteArray) (k z : Nat) (bU : (((U[0]'hUs).toNat : Int) == 47) = false) (hV : U.extract 1 U.size = V) (N3 : Hid (∀ q : World, Calls Tryd.prog 50 #[.string V] q fun e w' => e = .returned (.tuple #[.int .i64 (k : Nat), .int .i64 (z : Nat)]) ∧ ∃ n, w' = q.drewN n)) (hk40 : k ≤ 40)  (w : World) :
    Calls Tryd.prog 29 #[.string M] w fun e w' => e = .returned (.tuple #[.agg #[.int .i64 0, .int .i64 0], .int .i64 15]) ∧ Below w.heap.size w w' := by
  obtain ⟨n1, n2, n3⟩ := nonempty_facts (show M.size ≠ 0 by omega)
  have h41 : ¬ (40 : Int) < (M.size : Int) := by omega
  have h01 : (0 : Int) < (M.size : Int) := by omega
  have h11 : (1 : Int) ≤ (M.size : Int) := by omega
  have hni : (0 : Int) < (n : Int) := by omega
  have hnMi : (n : Int) ≤ (M.size : Int) := by omega
  have hM41 : (M.size : Int) ≤ 40 := by omega
  obtain ⟨R1, R2, R3⟩ := nonempty_facts (show R.size ≠ 0 by omega)
  have Ri : (0 : Int) < (R.size : Int) := by omega
  have Rj : (1 : Int) ≤ (R.size : Int) := by omega
  have hR40i : (R.size : Int) ≤ 40 := by omega
  have hmi : (0 : Int) < (m : Int) := by omega
  have hmRi : (1 : Int) + (m : Int) ≤ (R.size : Int) := by omega
  obtain ⟨U1, U2, U3⟩ := nonempty_facts (show U.size ≠ 0 by omega)
  have Ui : (0 : Int) < (U.size : Int) := by omega
  have Uj : (1 : Int) ≤ (U.size : Int) := by omega
  have hk40i : (k : Int) ≤ 40 := by omega
  go_enter Tryd.func29, Tryd.ntmps29
  go_wp2_with (first | (go_at_call_of 50 (Value.string M); refine (N1.out _).mono ?_; rintro e w1 ⟨rfl, j1, rfl⟩) | (go_at_call_of 50 (Value.string T); refine (N2.out _).mono ?_; rintro e w1 ⟨rfl, j2, rfl⟩) | (go_at_call_of 50 (Value.string V); refine (N3.out _).mono ?_; rintro e w1 ⟨rfl, j3, rfl⟩) | go_quiet (fail))
  all_goals exact bodyPost_ret (v := .tuple #[.agg #[.int .i64 0, .int .i64 0], .int .i64 15]) (by simp [results, Tryd.results29, go_sem]) rfl ⟨rfl, ((below_drewN ((Below.refl _ _).alloc (Nat.le_refl _) _) _).setCell (by simp) _).setCell (by simp) _⟩

set_option maxRecDepth 100000 in
set_option maxHeartbeats 800000 in
theorem rp_mixed_bad2_pos (M : ByteArray) (h0 : 0 < M.size) (h40 : M.size ≤ 40) (b0 : (((M[0]'h0).toNat : Int) == 45) = false) (R T U : ByteArray) (n x m y : Nat) (hn : 0 < n) (hnM : n ≤ M.size) (N1 : Hid (∀ q : World, Calls Tryd.prog 50 #[.string M] q fun e w' => e = .returned (.tuple #[.int .i64 (n : Nat), .int .i64 (x : Nat)]) ∧ ∃ n, w' = q.drewN n)) (hR : M.extract n M.size = R) (hRs : 0 < R.size) (hR40 : R.size ≤ 40) (bR : (((R[0]'hRs).toNat : Int) == 32) = true) (hT : R.extract 1 R.size = T) (N2 : Hid (∀ q : World, Calls Tryd.prog 50 #[.string T] q fun e w' => e = .returned (.tuple #[.int .i64 (m : Nat), .int .i64 (y : Nat)]) ∧ ∃ n, w' = q.drewN n)) (hU : R.extract (1 + m) R.size = U) (hm : 0 < m) (hmR : m + 1 ≤ R.size) (hUs : 0 < U.size) (hU40 : U.size ≤ 40) (V : ByteArray) (k z : Nat) (bU : (((U[0]'hUs).toNat : Int) == 47) = true) (hV : U.extract 1 U.size = V) (N3 : Hid (∀ q : World, Calls Tryd.prog 50 #[.string V] q fun e w' => e = .returned (.tuple #[.int .i64 (k : Nat), .int .i64 (z : Nat)]) ∧ ∃ n, w' = q.drewN n)) (hk40 : k ≤ 40) (hk : k = 0) (w : World) :
    Calls Tryd.prog 29 #[.string M] w fun e w' => e = .returned (.tuple #[.agg #[.int .i64 0, .int .i64 0], .int .i64 15]) ∧ Below w.heap.size w w' := by
  obtain ⟨n1, n2, n3⟩ := nonempty_facts (show M.size ≠ 0 by omega)
  have h41 : ¬ (40 : Int) < (M.size : Int) := by omega
  have h01 : (0 : Int) < (M.size : Int) := by omega
  have h11 : (1 : Int) ≤ (M.size : Int) := by omega
  have hni : (0 : Int) < (n : Int) := by omega
  have hnMi : (n : Int) ≤ (M.size : Int) := by omega
  have hM41 : (M.size : Int) ≤ 40 := by omega
  obtain ⟨R1, R2, R3⟩ := nonempty_facts (show R.size ≠ 0 by omega)
  have Ri : (0 : Int) < (R.size : Int) := by omega
  have Rj : (1 : Int) ≤ (R.size : Int) := by omega
  have hR40i : (R.size : Int) ≤ 40 := by omega
  have hmi : (0 : Int) < (m : Int) := by omega
  have hmRi : (1 : Int) + (m : Int) ≤ (R.size : Int) := by omega
  obtain ⟨U1, U2, U3⟩ := nonempty_facts (show U.size ≠ 0 by omega)
  have Ui : (0 : Int) < (U.size : Int) := by omega
  have Uj : (1 : Int) ≤ (U.size : Int) := by omega
  have hk40i : (k : Int) ≤ 40 := by omega
  subst hk
  go_enter Tryd.func29, Tryd.ntmps29
  go_wp2_with (first | (go_at_call_of 50 (Value.string M); refine (N1.out _).mono ?_; rintro e w1 ⟨rfl, j1, rfl⟩) | (go_at_call_of 50 (Value.string T); refine (N2.out _).mono ?_; rintro e w1 ⟨rfl, j2, rfl⟩) | (go_at_call_of 50 (Value.string V); refine (N3.out _).mono ?_; rintro e w1 ⟨rfl, j3, rfl⟩) | go_quiet (fail))
  all_goals exact bodyPost_ret (v := .tuple #[.agg #[.int .i64 0, .int .i64 0], .int .i64 15]) (by simp [results, Tryd.results29, go_sem]) rfl ⟨rfl, ((below_drewN ((Below.refl _ _).alloc (Nat.le_refl _) _) _).setCell (by simp) _).setCell (by simp) _⟩

set_option maxRecDepth 100000 in
set_option maxHeartbeats 800000 in
theorem rp_mixed_bad3_pos (M : ByteArray) (h0 : 0 < M.size) (h40 : M.size ≤ 40) (b0 : (((M[0]'h0).toNat : Int) == 45) = false) (R T U : ByteArray) (n x m y : Nat) (hn : 0 < n) (hnM : n ≤ M.size) (N1 : Hid (∀ q : World, Calls Tryd.prog 50 #[.string M] q fun e w' => e = .returned (.tuple #[.int .i64 (n : Nat), .int .i64 (x : Nat)]) ∧ ∃ n, w' = q.drewN n)) (hR : M.extract n M.size = R) (hRs : 0 < R.size) (hR40 : R.size ≤ 40) (bR : (((R[0]'hRs).toNat : Int) == 32) = true) (hT : R.extract 1 R.size = T) (N2 : Hid (∀ q : World, Calls Tryd.prog 50 #[.string T] q fun e w' => e = .returned (.tuple #[.int .i64 (m : Nat), .int .i64 (y : Nat)]) ∧ ∃ n, w' = q.drewN n)) (hU : R.extract (1 + m) R.size = U) (hm : 0 < m) (hmR : m + 1 ≤ R.size) (hUs : 0 < U.size) (hU40 : U.size ≤ 40) (V : ByteArray) (k z : Nat) (bU : (((U[0]'hUs).toNat : Int) == 47) = true) (hV : U.extract 1 U.size = V) (N3 : Hid (∀ q : World, Calls Tryd.prog 50 #[.string V] q fun e w' => e = .returned (.tuple #[.int .i64 (k : Nat), .int .i64 (z : Nat)]) ∧ ∃ n, w' = q.drewN n)) (hk40 : k ≤ 40) (hk : 0 < k) (hkU : k + 1 ≠ U.size) (w : World) :
    Calls Tryd.prog 29 #[.string M] w fun e w' => e = .returned (.tuple #[.agg #[.int .i64 0, .int .i64 0], .int .i64 15]) ∧ Below w.heap.size w w' := by
  obtain ⟨n1, n2, n3⟩ := nonempty_facts (show M.size ≠ 0 by omega)
  have h41 : ¬ (40 : Int) < (M.size : Int) := by omega
  have h01 : (0 : Int) < (M.size : Int) := by omega
  have h11 : (1 : Int) ≤ (M.size : Int) := by omega
  have hni : (0 : Int) < (n : Int) := by omega
  have hnMi : (n : Int) ≤ (M.size : Int) := by omega
  have hM41 : (M.size : Int) ≤ 40 := by omega
  obtain ⟨R1, R2, R3⟩ := nonempty_facts (show R.size ≠ 0 by omega)
  have Ri : (0 : Int) < (R.size : Int) := by omega
  have Rj : (1 : Int) ≤ (R.size : Int) := by omega
  have hR40i : (R.size : Int) ≤ 40 := by omega
  have hmi : (0 : Int) < (m : Int) := by omega
  have hmRi : (1 : Int) + (m : Int) ≤ (R.size : Int) := by omega
  obtain ⟨U1, U2, U3⟩ := nonempty_facts (show U.size ≠ 0 by omega)
  have Ui : (0 : Int) < (U.size : Int) := by omega
  have Uj : (1 : Int) ≤ (U.size : Int) := by omega
  have hk40i : (k : Int) ≤ 40 := by omega
  have hki : (0 : Int) < (k : Int) := by omega
  have hkUi : (((1 : Int) + (k : Int)) == (U.size : Int)) = false := by simp; omega
  clear hkU
  go_enter Tryd.func29, Tryd.ntmps29
  go_wp2_with (first | (go_at_call_of 50 (Value.string M); refine (N1.out _).mono ?_; rintro e w1 ⟨rfl, j1, rfl⟩) | (go_at_call_of 50 (Value.string T); refine (N2.out _).mono ?_; rintro e w1 ⟨rfl, j2, rfl⟩) | (go_at_call_of 50 (Value.string V); refine (N3.out _).mono ?_; rintro e w1 ⟨rfl, j3, rfl⟩) | go_quiet (fail))
  all_goals exact bodyPost_ret (v := .tuple #[.agg #[.int .i64 0, .int .i64 0], .int .i64 15]) (by simp [results, Tryd.results29, go_sem]) rfl ⟨rfl, ((below_drewN ((Below.refl _ _).alloc (Nat.le_refl _) _) _).setCell (by simp) _).setCell (by simp) _⟩


end Go.Proofs.YtoeacbmlodfciaaDoor
