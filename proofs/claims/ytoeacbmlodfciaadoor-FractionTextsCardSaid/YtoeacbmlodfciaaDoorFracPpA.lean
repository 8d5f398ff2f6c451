/- The reference's Parse, path by path (PpA). -/
import Derived.Test.YtoeacbmlodfciaaDoorFracPr
namespace Go.Proofs.YtoeacbmlodfciaaDoor
open Go Go.RowKit Go.Shelf

set_option maxRecDepth 100000 in
set_option maxHeartbeats 800000 in
theorem rp_none_neg (s M : ByteArray) (h0 : 0 < s.size) (h40 : s.size ≤ 40) (b0 : (((s[0]'h0).toNat : Int) == 45) = true) (hM : s.extract 1 s.size = M) (R : ByteArray) (N1 : Hid (∀ q : World, Calls Tryd.prog 50 #[.string M] q fun e w' => e = .returned (.tuple #[.int .i64 (0 : Nat), .int .i64 (0 : Nat)]) ∧ ∃ n, w' = q.drewN n)) (hR : M.extract 0 M.size = R) (hRs : 0 < R.size) (w : World) :
    Calls Tryd.prog 29 #[.string s] w fun e w' => e = .returned (.tuple #[.agg #[.int .i64 0, .int .i64 0], .int .i64 15]) ∧ Below w.heap.size w w' := by
  obtain ⟨n1, n2, n3⟩ := nonempty_facts (show s.size ≠ 0 by omega)
  have h41 : ¬ (40 : Int) < (s.size : Int) := by omega
  have h01 : (0 : Int) < (s.size : Int) := by omega
  have h11 : (1 : Int) ≤ (s.size : Int) := by omega
  obtain ⟨R1, R2, R3⟩ := nonempty_facts (show R.size ≠ 0 by omega)
  have Ri : (0 : Int) < (R.size : Int) := by omega
  have Rj : (1 : Int) ≤ (R.size : Int) := by omega
  go_enter Tryd.func29, Tryd.ntmps29
  go_wp2_with (first | (go_at_call_of 50 (Value.string M); refine (N1.out _).mono ?_; rintro e w1 ⟨rfl, j1, rfl⟩) | go_quiet (fail))
  all_goals exact bodyPost_ret (v := .tuple #[.agg #[.int .i64 0, .int .i64 0], .int .i64 15]) (by simp [results, Tryd.results29, go_sem]) rfl ⟨rfl, ((below_drewN ((Below.refl _ _).alloc (Nat.le_refl _) _) _).setCell (by simp) _).setCell (by simp) _⟩


set_option maxRecDepth 100000 in
set_option maxHeartbeats 800000 in
theorem rp_none_pos (M : ByteArray) (h0 : 0 < M.size) (h40 : M.size ≤ 40) (b0 : (((M[0]'h0).toNat : Int) == 45) = false) (R : ByteArray) (N1 : Hid (∀ q : World, Calls Tryd.prog 50 #[.string M] q fun e w' => e = .returned (.tuple #[.int .i64 (0 : Nat), .int .i64 (0 : Nat)]) ∧ ∃ n, w' = q.drewN n)) (hR : M.extract 0 M.size = R) (hRs : 0 < R.size) (w : World) :
    Calls Tryd.prog 29 #[.string M] w fun e w' => e = .returned (.tuple #[.agg #[.int .i64 0, .int .i64 0], .int .i64 15]) ∧ Below w.heap.size w w' := by
  obtain ⟨n1, n2, n3⟩ := nonempty_facts (show M.size ≠ 0 by omega)
  have h41 : ¬ (40 : Int) < (M.size : Int) := by omega
  have h01 : (0 : Int) < (M.size : Int) := by omega
  have h11 : (1 : Int) ≤ (M.size : Int) := by omega
  obtain ⟨R1, R2, R3⟩ := nonempty_facts (show R.size ≠ 0 by omega)
  have Ri : (0 : Int) < (R.size : Int) := by omega
  have Rj : (1 : Int) ≤ (R.size : Int) := by omega
  go_enter Tryd.func29, Tryd.ntmps29
  go_wp2_with (first | (go_at_call_of 50 (Value.string M); refine (N1.out _).mono ?_; rintro e w1 ⟨rfl, j1, rfl⟩) | go_quiet (fail))
  all_goals exact bodyPost_ret (v := .tuple #[.agg #[.int .i64 0, .int .i64 0], .int .i64 15]) (by simp [results, Tryd.results29, go_sem]) rfl ⟨rfl, ((below_drewN ((Below.refl _ _).alloc (Nat.le_refl _) _) _).setCell (by simp) _).setCell (by simp) _⟩


set_option maxRecDepth 100000 in
set_option maxHeartbeats 800000 in
theorem rp_empty_neg (s M : ByteArray) (h0 : 0 < s.size) (h40 : s.size ≤ 40) (b0 : (((s[0]'h0).toNat : Int) == 45) = true) (hM : s.extract 1 s.size = M) (hMs : M = ⟨#[]⟩) (N1 : Hid (∀ q : World, Calls Tryd.prog 50 #[.string M] q fun e w' => e = .returned (.tuple #[.int .i64 (0 : Nat), .int .i64 (0 : Nat)]) ∧ ∃ n, w' = q.drewN n)) (w : World) :
    Calls Tryd.prog 29 #[.string s] w fun e w' => e = .returned (.tuple #[.agg #[.int .i64 0, .int .i64 0], .int .i64 15]) ∧ Below w.heap.size w w' := by
  obtain ⟨n1, n2, n3⟩ := nonempty_facts (show s.size ≠ 0 by omega)
  have h41 : ¬ (40 : Int) < (s.size : Int) := by omega
  have h01 : (0 : Int) < (s.size : Int) := by omega
  have h11 : (1 : Int) ≤ (s.size : Int) := by omega
  subst hMs
  go_enter Tryd.func29, Tryd.ntmps29
  go_wp2_with (first | (go_at_call_of 50 (Value.string ⟨#[]⟩); refine (N1.out _).mono ?_; rintro e w1 ⟨rfl, j1, rfl⟩) | go_quiet (fail))
  all_goals exact bodyPost_ret (v := .tuple #[.agg #[.int .i64 0, .int .i64 0], .int .i64 15]) (by simp [results, Tryd.results29, go_sem]) rfl ⟨rfl, ((below_drewN ((Below.refl _ _).alloc (Nat.le_refl _) _) _).setCell (by simp) _).setCell (by simp) _⟩


set_option maxRecDepth 100000 in
set_option maxHeartbeats 800000 in
theorem rp_whole_over_neg (s M : ByteArray) (h0 : 0 < s.size) (h40 : s.size ≤ 40) (b0 : (((s[0]'h0).toNat : Int) == 45) = true) (hM : s.extract 1 s.size = M) (hM40 : M.size ≤ 40) (n x : Nat) (hn : 0 < n) (hnM : n ≤ M.size) (N1 : Hid (∀ q : World, Calls Tryd.prog 50 #[.string M] q fun e w' => e = .returned (.tuple #[.int .i64 (n : Nat), .int .i64 (x : Nat)]) ∧ ∃ n, w' = q.drewN n)) (hR : M.extract n M.size = ⟨#[]⟩) (hm : 1000000 < x) (w : World) :
    Calls Tryd.prog 29 #[.string s] w fun e w' => e = .returned (.tuple #[.agg #[.int .i64 0, .int .i64 0], .int .i64 4]) ∧ Below w.heap.size w w' := by
  obtain ⟨n1, n2, n3⟩ := nonempty_facts (show s.size ≠ 0 by omega)
  have h41 : ¬ (40 : Int) < (s.size : Int) := by omega
  have h01 : (0 : Int) < (s.size : Int) := by omega
  have h11 : (1 : Int) ≤ (s.size : Int) := by omega
  have hni : (0 : Int) < (n : Int) := by omega
  have hnMi : (n : Int) ≤ (M.size : Int) := by omega
  have hM41 : (M.size : Int) ≤ 40 := by omega
  go_enter Tryd.func29, Tryd.ntmps29
  go_wp2_with (first | (go_at_call_of 50 (Value.string M); refine (N1.out _).mono ?_; rintro e w1 ⟨rfl, j1, rfl⟩) | go_quiet (fail))
  all_goals (first | (exfalso; omega) | exact bodyPost_ret (v := .tuple #[.agg #[.int .i64 0, .int .i64 0], .int .i64 4]) (by simp [results, Tryd.results29, go_sem]) rfl ⟨rfl, ((below_drewN ((Below.refl _ _).alloc (Nat.le_refl _) _) _).setCell (by simp) _).setCell (by simp) _⟩)

set_option maxRecDepth 100000 in
set_option maxHeartbeats 800000 in
theorem rp_whole_fine_neg (s M : ByteArray) (h0 : 0 < s.size) (h40 : s.size ≤ 40) (b0 : (((s[0]'h0).toNat : Int) == 45) = true) (hM : s.extract 1 s.size = M) (hM40 : M.size ≤ 40) (n x : Nat) (hn : 0 < n) (hnM : n ≤ M.size) (N1 : Hid (∀ q : World, Calls Tryd.prog 50 #[.string M] q fun e w' => e = .returned (.tuple #[.int .i64 (n : Nat), .int .i64 (x : Nat)]) ∧ ∃ n, w' = q.drewN n)) (hR : M.extract n M.size = ⟨#[]⟩) (hm : ¬ 1000000 < x) (r1 r2 r3 : Int) (hr : FracMath.mk (-((x : Nat) : Int)) 1 = (r1, r2, r3)) (w : World) :
    Calls Tryd.prog 29 #[.string s] w fun e w' => e = .returned (.tuple #[.agg #[.int .i64 r1, .int .i64 r2], .int .i64 r3]) ∧ Below w.heap.size w w' := by
  obtain ⟨n1, n2, n3⟩ := nonempty_facts (show s.size ≠ 0 by omega)
  have h41 : ¬ (40 : Int) < (s.size : Int) := by omega
  have h01 : (0 : Int) < (s.size : Int) := by omega
  have h11 : (1 : Int) ≤ (s.size : Int) := by omega
  have hni : (0 : Int) < (n : Int) := by omega
  have hnMi : (n : Int) ≤ (M.size : Int) := by omega
  have hM41 : (M.size : Int) ≤ 40 := by omega
  have MK := Lib.hid (fun q => ref_make_any (-((x : Nat) : Int)) 1 q (by omega) (by omega) (by omega) (by omega))
  rw [hr] at MK
  clear hr
  go_enter Tryd.func29, Tryd.ntmps29
  go_wp2_with (first | (go_at_call_of 50 (Value.string M); refine (N1.out _).mono ?_; rintro e w1 ⟨rfl, j1, rfl⟩) | (go_at_call 31; refine (MK.out _).mono ?_; rintro e w4 ⟨rfl, hb4⟩; obtain ⟨r0, r1', rl, rf⟩ := (Two.new w (.int .i64 0) (.int .i64 0) 27).below (below_drewN (Below.refl _ _) _ |>.trans hb4)) | go_quiet (fail))
  all_goals first
    | (exfalso; omega)
    | (refine bodyPost_ret (v := .tuple #[.agg #[.int .i64 r1, .int .i64 r2], .int .i64 r3]) (by simp [results, Tryd.results29, go_sem, r0, r1']) rfl ⟨rfl, ?_⟩
       exact ((below_drewN ((Below.refl _ _).alloc (Nat.le_refl _) _) _).trans (hb4.mono (by go_size))).setCell (by simp) _ |>.setCell (by simp) _)


set_option maxRecDepth 100000 in
set_option maxHeartbeats 800000 in
theorem rp_whole_over_pos (M : ByteArray) (h0 : 0 < M.size) (h40 : M.size ≤ 40) (b0 : (((M[0]'h0).toNat : Int) == 45) = false) (n x : Nat) (hn : 0 < n) (hnM : n ≤ M.size) (N1 : Hid (∀ q : World, Calls Tryd.prog 50 #[.string M] q fun e w' => e = .returned (.tuple #[.int .i64 (n : Nat), .int .i64 (x : Nat)]) ∧ ∃ n, w' = q.drewN n)) (hR : M.extract n M.size = ⟨#[]⟩) (hm : 1000000 < x) (w : World) :
    Calls Tryd.prog 29 #[.string M] w fun e w' => e = .returned (.tuple #[.agg #[.int .i64 0, .int .i64 0], .int .i64 4]) ∧ Below w.heap.size w w' := by
  obtain ⟨n1, n2, n3⟩ := nonempty_facts (show M.size ≠ 0 by omega)
  have h41 : ¬ (40 : Int) < (M.size : Int) := by omega
  have h01 : (0 : Int) < (M.size : Int) := by omega
  have h11 : (1 : Int) ≤ (M.size : Int) := by omega
  have hni : (0 : Int) < (n : Int) := by omega
  have hnMi : (n : Int) ≤ (M.size : Int) := by omega
  have hM41 : (M.size : Int) ≤ 40 := by omega
  go_enter Tryd.func29, Tryd.ntmps29
  go_wp2_with (first | (go_at_call_of 50 (Value.string M); refine (N1.out _).mono ?_; rintro e w1 ⟨rfl, j1, rfl⟩) | go_quiet (fail))
  all_goals (first | (exfalso; omega) | exact bodyPost_ret (v := .tuple #[.agg #[.int .i64 0, .int .i64 0], .int .i64 4]) (by simp [results, Tryd.results29, go_sem]) rfl ⟨rfl, ((below_drewN ((Below.refl _ _).alloc (Nat.le_refl _) _) _).setCell (by simp) _).setCell (by simp) _⟩)

set_option maxRecDepth 100000 in
set_option maxHeartbeats 800000 in
theorem rp_whole_fine_pos (M : ByteArray) (h0 : 0 < M.size) (h40 : M.size ≤ 40) (b0 : (((M[0]'h0).toNat : Int) == 45) = false) (n x : Nat) (hn : 0 < n) (hnM : n ≤ M.size) (N1 : Hid (∀ q : World, Calls Tryd.prog 50 #[.string M] q fun e w' => e = .returned (.tuple #[.int .i64 (n : Nat), .int .i64 (x : Nat)]) ∧ ∃ n, w' = q.drewN n)) (hR : M.extract n M.size = ⟨#[]⟩) (hm : ¬ 1000000 < x) (r1 r2 r3 : Int) (hr : FracMath.mk (((x : Nat) : Int)) 1 = (r1, r2, r3)) (w : World) :
    Calls Tryd.prog 29 #[.string M] w fun e w' => e = .returned (.tuple #[.agg #[.int .i64 r1, .int .i64 r2], .int .i64 r3]) ∧ Below w.heap.size w w' := by
  obtain ⟨n1, n2, n3⟩ := nonempty_facts (show M.size ≠ 0 by omega)
  have h41 : ¬ (40 : Int) < (M.size : Int) := by omega
  have h01 : (0 : Int) < (M.size : Int) := by omega
  have h11 : (1 : Int) ≤ (M.size : Int) := by omega
  have hni : (0 : Int) < (n : Int) := by omega
  have hnMi : (n : Int) ≤ (M.size : Int) := by omega
  have hM41 : (M.size : Int) ≤ 40 := by omega
  have MK := Lib.hid (fun q => ref_make_any (((x : Nat) : Int)) 1 q (by omega) (by omega) (by omega) (by omega))
  rw [hr] at MK
  clear hr
  go_enter Tryd.func29, Tryd.ntmps29
  go_wp2_with (first | (go_at_call_of 50 (Value.string M); refine (N1.out _).mono ?_; rintro e w1 ⟨rfl, j1, rfl⟩) | (go_at_call 31; refine (MK.out _).mono ?_; rintro e w4 ⟨rfl, hb4⟩; obtain ⟨r0, r1', rl, rf⟩ := (Two.new w (.int .i64 0) (.int .i64 0) 27).below (below_drewN (Below.refl _ _) _ |>.trans hb4)) | go_quiet (fail))
  all_goals first
    | (exfalso; omega)
    | (refine bodyPost_ret (v := .tuple #[.agg #[.int .i64 r1, .int .i64 r2], .int .i64 r3]) (by simp [results, Tryd.results29, go_sem, r0, r1']) rfl ⟨rfl, ?_⟩
       exact ((below_drewN ((Below.refl _ _).alloc (Nat.le_refl _) _) _).trans (hb4.mono (by go_size))).setCell (by simp) _ |>.setCell (by simp) _)


end Go.Proofs.YtoeacbmlodfciaaDoor
