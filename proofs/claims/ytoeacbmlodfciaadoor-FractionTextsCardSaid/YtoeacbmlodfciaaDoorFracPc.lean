/- Contract of Parse over texts: the number that parseE reckons, or its error. -/
import Derived.Test.YtoeacbmlodfciaaDoorFracPb
namespace Go.Proofs.YtoeacbmlodfciaaDoor
open Go Go.RowKit Go.Shelf

set_option maxHeartbeats 1000000 in
theorem parse_nil (w : World) :
    Calls Tryd.prog 27 #[.string ⟨#[]⟩] w fun e w' => e = .returned (.tuple #[.agg #[.int .i64 0, .int .i64 0], .int .i64 13]) ∧ Below w.heap.size w w' := by
  go_enter Tryd.func27, Tryd.ntmps27
  go_wp2_with fail
  exact bodyPost_ret (v := .tuple #[.agg #[.int .i64 0, .int .i64 0], .int .i64 13]) (by simp [results, Tryd.results27, go_sem]) rfl ⟨rfl, by go_grown⟩

theorem nonempty_facts {s : ByteArray} (h0 : s.size ≠ 0) : (s.toList == []) = false ∧ s.toList.isEmpty = false ∧ (s.toList = []) = False := by
  have h : s.toList ≠ [] := fun e => by
    rw [Lib.toList_data] at e
    have := size_list s
    rw [e] at this
    exact h0 this.symm
  cases hl : s.toList with
  | nil => exact absurd hl h
  | cons x r => exact ⟨by simp, rfl, by simp⟩

set_option maxHeartbeats 1000000 in
theorem parse_long (s : ByteArray) (hs : s.size ≤ 1048576) (h : 40 < s.size) (w : World) :
    Calls Tryd.prog 27 #[.string s] w fun e w' => e = .returned (.tuple #[.agg #[.int .i64 0, .int .i64 0], .int .i64 16]) ∧ Below w.heap.size w w' := by
  obtain ⟨n1, n2, n3⟩ := nonempty_facts (show s.size ≠ 0 by omega)
  have h1 : (40 : Int) < (s.size : Int) := by omega
  go_enter Tryd.func27, Tryd.ntmps27
  go_wp2_with fail
  exact bodyPost_ret (v := .tuple #[.agg #[.int .i64 0, .int .i64 0], .int .i64 16]) (by simp [results, Tryd.results27, go_sem]) rfl ⟨rfl, by go_grown⟩

set_option maxHeartbeats 2000000 in
theorem parse_syntax (s M W N D : ByteArray) (neg b1 b2 b3 : Bool) (h0 : s.size ≠ 0) (h40 : s.size ≤ 40)
    (c1 : ∀ V : World, Calls Tryd.prog 45 #[.string s, .string ⟨#[45]⟩] V fun e w' => e = .returned (.tuple #[.string M, .bool neg]) ∧ V = w')
    (c2 : ∀ V : World, Calls Tryd.prog 46 #[.string M] V fun e w' => e = .returned (.tuple #[.string W, .string N, .string D]) ∧ ∃ n, w' = V.drewN n)
    (d1 : ∀ V : World, Calls Tryd.prog 47 #[.string W] V fun e w' => e = .returned (.bool b1) ∧ V = w')
    (d2 : ∀ V : World, Calls Tryd.prog 47 #[.string N] V fun e w' => e = .returned (.bool b2) ∧ V = w')
    (d3 : ∀ V : World, Calls Tryd.prog 47 #[.string D] V fun e w' => e = .returned (.bool b3) ∧ V = w')
    (h : (b1 && b2 && b3) = false) (w : World) :
    Calls Tryd.prog 27 #[.string s] w fun e w' => e = .returned (.tuple #[.agg #[.int .i64 0, .int .i64 0], .int .i64 15]) ∧ Below w.heap.size w w' := by
  obtain ⟨n1, n2, n3⟩ := nonempty_facts h0
  have h1 : ¬ (40 : Int) < (s.size : Int) := by omega
  have C1 := Lib.hid c1
  have C2 := Lib.hid c2
  have D1 := Lib.hid d1
  have D2 := Lib.hid d2
  have D3 := Lib.hid d3
  clear c1 c2 d1 d2 d3 h0
  cases b1
  all_goals try cases b2
  all_goals try cases b3
  all_goals try (exact absurd h (by decide))
  all_goals
    clear h
    go_enter Tryd.func27, Tryd.ntmps27
    go_wp2_with fail
    refine (C1.out _).mono ?_
    rintro e w1 ⟨rfl, rfl⟩
    go_wp2_with fail
    refine (C2.out _).mono ?_
    rintro e w1 ⟨rfl, n, rfl⟩
    go_wp2_with (first | (go_at_call_of 47 (Value.string W); refine (D1.out _).mono ?_; rintro e w1 ⟨rfl, rfl⟩) | (go_at_call_of 47 (Value.string N); refine (D2.out _).mono ?_; rintro e w1 ⟨rfl, rfl⟩) | (go_at_call_of 47 (Value.string D); refine (D3.out _).mono ?_; rintro e w1 ⟨rfl, rfl⟩))
    exact bodyPost_ret (v := .tuple #[.agg #[.int .i64 0, .int .i64 0], .int .i64 15]) (by simp [results, Tryd.results27, go_sem]) rfl ⟨rfl, ((below_drewN ((Below.refl _ _).alloc (Nat.le_refl _) _) _).setCell (by simp) _).setCell (by simp) _⟩

set_option maxHeartbeats 2000000 in
theorem parse_over (s M W N D : ByteArray) (neg : Bool) (x y z : Nat) (h0 : s.size ≠ 0) (h40 : s.size ≤ 40)
    (c1 : ∀ V : World, Calls Tryd.prog 45 #[.string s, .string ⟨#[45]⟩] V fun e w' => e = .returned (.tuple #[.string M, .bool neg]) ∧ V = w')
    (c2 : ∀ V : World, Calls Tryd.prog 46 #[.string M] V fun e w' => e = .returned (.tuple #[.string W, .string N, .string D]) ∧ ∃ n, w' = V.drewN n)
    (d1 : ∀ V : World, Calls Tryd.prog 47 #[.string W] V fun e w' => e = .returned (.bool true) ∧ V = w')
    (d2 : ∀ V : World, Calls Tryd.prog 47 #[.string N] V fun e w' => e = .returned (.bool true) ∧ V = w')
    (d3 : ∀ V : World, Calls Tryd.prog 47 #[.string D] V fun e w' => e = .returned (.bool true) ∧ V = w')
    (v1 : ∀ V : World, Calls Tryd.prog 48 #[.string W] V fun e w' => e = .returned (.int .i64 (x : Nat)) ∧ V = w')
    (v2 : ∀ V : World, Calls Tryd.prog 48 #[.string N] V fun e w' => e = .returned (.int .i64 (y : Nat)) ∧ V = w')
    (v3 : ∀ V : World, Calls Tryd.prog 48 #[.string D] V fun e w' => e = .returned (.int .i64 (z : Nat)) ∧ V = w')
    (hm : 1000000 < max x (max y z)) (w : World) :
    Calls Tryd.prog 27 #[.string s] w fun e w' => e = .returned (.tuple #[.agg #[.int .i64 0, .int .i64 0], .int .i64 4]) ∧ Below w.heap.size w w' := by
  obtain ⟨n1, n2, n3⟩ := nonempty_facts h0
  have h1 : ¬ (40 : Int) < (s.size : Int) := by omega
  have C1 := Lib.hid c1
  have C2 := Lib.hid c2
  have D1 := Lib.hid d1
  have D2 := Lib.hid d2
  have D3 := Lib.hid d3
  have V1 := Lib.hid v1
  have V2 := Lib.hid v2
  have V3 := Lib.hid v3
  clear c1 c2 d1 d2 d3 h0 v1 v2 v3
  have hmm : (1000000 : Int) < (if (if x < y then (y : Int) else (x : Int)) < (z : Int) then (z : Int) else if x < y then (y : Int) else (x : Int)) := by
    split
    · split at * <;> omega
    · split at * <;> omega
  clear hm
  go_enter Tryd.func27, Tryd.ntmps27
  go_wp2_with fail
  refine (C1.out _).mono ?_
  rintro e w1 ⟨rfl, rfl⟩
  go_wp2_with fail
  refine (C2.out _).mono ?_
  rintro e w1 ⟨rfl, n, rfl⟩
  go_wp2_with (first | (go_at_call_of 47 (Value.string W); refine (D1.out _).mono ?_; rintro e w1 ⟨rfl, rfl⟩) | (go_at_call_of 47 (Value.string N); refine (D2.out _).mono ?_; rintro e w1 ⟨rfl, rfl⟩) | (go_at_call_of 47 (Value.string D); refine (D3.out _).mono ?_; rintro e w1 ⟨rfl, rfl⟩) | (go_at_call_of 48 (Value.string W); refine (V1.out _).mono ?_; rintro e w1 ⟨rfl, rfl⟩) | (go_at_call_of 48 (Value.string N); refine (V2.out _).mono ?_; rintro e w1 ⟨rfl, rfl⟩) | (go_at_call_of 48 (Value.string D); refine (V3.out _).mono ?_; rintro e w1 ⟨rfl, rfl⟩))
  all_goals exact bodyPost_ret (v := .tuple #[.agg #[.int .i64 0, .int .i64 0], .int .i64 4]) (by simp [results, Tryd.results27, go_sem]) rfl ⟨rfl, ((below_drewN ((Below.refl _ _).alloc (Nat.le_refl _) _) _).setCell (by simp) _).setCell (by simp) _⟩
set_option maxHeartbeats 2000000 in
theorem parse_fine (s M W N D : ByteArray) (neg : Bool) (x y z : Nat) (h0 : s.size ≠ 0) (h40 : s.size ≤ 40)
    (c1 : ∀ V : World, Calls Tryd.prog 45 #[.string s, .string ⟨#[45]⟩] V fun e w' => e = .returned (.tuple #[.string M, .bool neg]) ∧ V = w')
    (c2 : ∀ V : World, Calls Tryd.prog 46 #[.string M] V fun e w' => e = .returned (.tuple #[.string W, .string N, .string D]) ∧ ∃ n, w' = V.drewN n)
    (d1 : ∀ V : World, Calls Tryd.prog 47 #[.string W] V fun e w' => e = .returned (.bool true) ∧ V = w')
    (d2 : ∀ V : World, Calls Tryd.prog 47 #[.string N] V fun e w' => e = .returned (.bool true) ∧ V = w')
    (d3 : ∀ V : World, Calls Tryd.prog 47 #[.string D] V fun e w' => e = .returned (.bool true) ∧ V = w')
    (v1 : ∀ V : World, Calls Tryd.prog 48 #[.string W] V fun e w' => e = .returned (.int .i64 (x : Nat)) ∧ V = w')
    (v2 : ∀ V : World, Calls Tryd.prog 48 #[.string N] V fun e w' => e = .returned (.int .i64 (y : Nat)) ∧ V = w')
    (v3 : ∀ V : World, Calls Tryd.prog 48 #[.string D] V fun e w' => e = .returned (.int .i64 (z : Nat)) ∧ V = w')
    (hx : x ≤ 1000000) (hy : y ≤ 1000000) (hz : z ≤ 1000000) (r1 r2 r3 : Int) (hr : FracMath.mk (if neg then -((y + x * z : Nat) : Int) else ((y + x * z : Nat) : Int)) (z : Nat) = (r1, r2, r3)) (w : World) :
    Calls Tryd.prog 27 #[.string s] w fun e w' => e = .returned (.tuple #[.agg #[.int .i64 r1, .int .i64 r2], .int .i64 r3]) ∧ Below w.heap.size w w' := by
  obtain ⟨n1, n2, n3⟩ := nonempty_facts h0
  have h1 : ¬ (40 : Int) < (s.size : Int) := by omega
  have C1 := Lib.hid c1
  have C2 := Lib.hid c2
  have D1 := Lib.hid d1
  have D2 := Lib.hid d2
  have D3 := Lib.hid d3
  have V1 := Lib.hid v1
  have V2 := Lib.hid v2
  have V3 := Lib.hid v3
  clear c1 c2 d1 d2 d3 h0 v1 v2 v3
  have hmm : ¬ (1000000 : Int) < (if (if x < y then (y : Int) else (x : Int)) < (z : Int) then (z : Int) else if x < y then (y : Int) else (x : Int)) := by
    split
    · omega
    · split <;> omega
  have hp : x * z ≤ 1000000 * 1000000 := Nat.mul_le_mul hx hz
  have MK := Lib.hid (fun V => make_any (if neg then -((y + x * z : Nat) : Int) else ((y + x * z : Nat) : Int)) (z : Nat) V (by split <;> omega) (by split <;> omega) (by omega) (by omega))
  rw [hr] at MK
  have hp1 : (x : Int) * (z : Int) ≤ 1000000000000 := by rw [← Int.natCast_mul]; omega
  have hp0 : 0 ≤ (x : Int) * (z : Int) := by rw [← Int.natCast_mul]; omega
  rw [Int.natCast_add, Int.natCast_mul] at MK
  clear hr hp
  cases neg
  all_goals simp only [if_true, if_false, Bool.false_eq_true] at MK
  all_goals
    go_enter Tryd.func27, Tryd.ntmps27
    go_wp2_with fail
    refine (C1.out _).mono ?_
    rintro e w1 ⟨rfl, rfl⟩
    go_wp2_with fail
    refine (C2.out _).mono ?_
    rintro e w1 ⟨rfl, n, rfl⟩
    go_wp2_with (first | (go_at_call_of 47 (Value.string W); refine (D1.out _).mono ?_; rintro e w1 ⟨rfl, rfl⟩) | (go_at_call_of 47 (Value.string N); refine (D2.out _).mono ?_; rintro e w1 ⟨rfl, rfl⟩) | (go_at_call_of 47 (Value.string D); refine (D3.out _).mono ?_; rintro e w1 ⟨rfl, rfl⟩) | (go_at_call_of 48 (Value.string W); refine (V1.out _).mono ?_; rintro e w1 ⟨rfl, rfl⟩) | (go_at_call_of 48 (Value.string N); refine (V2.out _).mono ?_; rintro e w1 ⟨rfl, rfl⟩) | (go_at_call_of 48 (Value.string D); refine (V3.out _).mono ?_; rintro e w1 ⟨rfl, rfl⟩) | (go_at_call 30; refine (MK.out _).mono ?_; rintro e w4 ⟨rfl, hb4⟩; obtain ⟨r0, r1', rl, rf⟩ := (Two.new w (.int .i64 0) (.int .i64 0) 27).below (below_drewN (Below.refl _ _) n |>.trans hb4)))
    all_goals
      refine bodyPost_ret (v := .tuple #[.agg #[.int .i64 r1, .int .i64 r2], .int .i64 r3]) (by simp [results, Tryd.results27, go_sem, r0, r1']) rfl ⟨rfl, ?_⟩
      exact ((below_drewN ((Below.refl _ _).alloc (Nat.le_refl _) _) _).trans (hb4.mono (by go_size))).setCell (by simp) _ |>.setCell (by simp) _

theorem prefix_minus (l : List UInt8) : Lib.hasPrefix l [45] = decide (l.head? = some 45) ∧ Lib.trimPrefix l [45] = if l.head? = some 45 then l.tail else l := by
  cases l with
  | nil => exact ⟨rfl, rfl⟩
  | cons x r =>
    by_cases hx : x = 45
    · subst hx; simp [Lib.hasPrefix, Lib.trimPrefix]
    · have hb : ((45 : UInt8) == x) = false := by simpa using Ne.symm hx
      have hp : Lib.hasPrefix (x :: r) [45] = false := by simp [Lib.hasPrefix, List.isPrefixOf, hb]
      unfold Lib.trimPrefix
      rw [hp]
      simp [hx]

theorem cutPrefix_any (s : ByteArray) (w : World) :
    Calls Tryd.prog 45 #[.string s, .string ⟨#[45]⟩] w fun e w' => e = .returned (.tuple #[.string ⟨(if s.data.toList.head? = some 45 then s.data.toList.tail else s.data.toList).toArray⟩, .bool (decide (s.data.toList.head? = some 45))]) ∧ w = w' := by
  obtain ⟨h1, h2⟩ := prefix_minus s.data.toList
  rw [← h1, ← h2]
  exact (Tryd.strings_CutPrefix s ⟨#[45]⟩ w).mono fun e w' ⟨a, b⟩ => ⟨a, b.symm⟩

theorem parse_any (s : ByteArray) (hs : s.size ≤ 1048576) (r1 r2 r3 : Int) (hr : FracMath.parseE s.data.toList = (r1, r2, r3)) (w : World) :
    Calls Tryd.prog 27 #[.string s] w fun e w' => e = .returned (.tuple #[.agg #[.int .i64 r1, .int .i64 r2], .int .i64 r3]) ∧ Below w.heap.size w w' := by
  have hsl := size_list s
  unfold FracMath.parseE at hr
  by_cases h0 : s.data.toList = []
  · rw [if_pos h0] at hr
    cases hr
    rw [bytes_ext h0]
    exact parse_nil w
  · rw [if_neg h0] at hr
    by_cases h40 : 40 < s.data.toList.length
    · rw [if_pos h40] at hr
      cases hr
      exact parse_long s hs (by omega) w
    · rw [if_neg h40] at hr
      have hsz : s.size ≠ 0 := fun e => h0 (List.eq_nil_of_length_eq_zero (by omega))
      have c1 := fun V => cutPrefix_any s V
      generalize decide (s.data.toList.head? = some 45) = neg at *
      have hml : (if s.data.toList.head? = some 45 then s.data.toList.tail else s.data.toList).length ≤ s.size := by
        split
        · rw [List.length_tail]; omega
        · omega
      generalize (if s.data.toList.head? = some 45 then s.data.toList.tail else s.data.toList) = m at *
      have c2 := fun V => parts_any ⟨m.toArray⟩ (show m.toArray.size ≤ _ by rw [List.size_toArray]; omega) V
      have em : ((⟨m.toArray⟩ : ByteArray).data.toList) = m := by simp
      rw [em] at c2
      have hpl : (FracMath.partsL m).1.length ≤ 1048576 ∧ (FracMath.partsL m).2.1.length ≤ 1048576 ∧ (FracMath.partsL m).2.2.length ≤ 1048576 := by
        have := FracMath.parts_len m
        omega
      generalize FracMath.partsL m = P at *
      obtain ⟨W, N, D⟩ := P
      simp only at hpl c2 hr
      obtain ⟨l1, l2, l3⟩ := hpl
      have d1 := fun V => decimal_any ⟨W.toArray⟩ (show W.toArray.size ≤ _ by rw [List.size_toArray]; exact l1) V
      have d2 := fun V => decimal_any ⟨N.toArray⟩ (show N.toArray.size ≤ _ by rw [List.size_toArray]; exact l2) V
      have d3 := fun V => decimal_any ⟨D.toArray⟩ (show D.toArray.size ≤ _ by rw [List.size_toArray]; exact l3) V
      unfold FracMath.parseM at hr
      by_cases hd : (FracMath.allD W && FracMath.allD N && FracMath.allD D) = false
      · rw [if_pos hd] at hr
        cases hr
        exact parse_syntax s _ _ _ _ neg _ _ _ hsz (by omega) c1 c2 d1 d2 d3 (by simpa using hd) w
      · rw [if_neg hd] at hr
        simp only [Bool.not_eq_false, Bool.and_eq_true] at hd
        obtain ⟨⟨a1, a2⟩, a3⟩ := hd
        have b1 : W.all FracMath.isD = true := by unfold FracMath.allD at a1; simp only [Bool.and_eq_true] at a1; exact a1.2
        have b2 : N.all FracMath.isD = true := by unfold FracMath.allD at a2; simp only [Bool.and_eq_true] at a2; exact a2.2
        have b3 : D.all FracMath.isD = true := by unfold FracMath.allD at a3; simp only [Bool.and_eq_true] at a3; exact a3.2
        have v1 := fun V => value_any ⟨W.toArray⟩ (show W.toArray.size ≤ _ by rw [List.size_toArray]; exact l1) b1 V
        have v2 := fun V => value_any ⟨N.toArray⟩ (show N.toArray.size ≤ _ by rw [List.size_toArray]; exact l2) b2 V
        have v3 := fun V => value_any ⟨D.toArray⟩ (show D.toArray.size ≤ _ by rw [List.size_toArray]; exact l3) b3 V
        rw [show FracMath.allD ((⟨W.toArray⟩ : ByteArray).data.toList) = true from a1] at d1
        rw [show FracMath.allD ((⟨N.toArray⟩ : ByteArray).data.toList) = true from a2] at d2
        rw [show FracMath.allD ((⟨D.toArray⟩ : ByteArray).data.toList) = true from a3] at d3
        by_cases hm : 1000000 < max (FracMath.valD W) (max (FracMath.valD N) (FracMath.valD D))
        · rw [if_pos hm] at hr
          cases hr
          exact parse_over s _ _ _ _ neg _ _ _ hsz (by omega) c1 c2 d1 d2 d3 v1 v2 v3 hm w
        · rw [if_neg hm] at hr
          exact parse_fine s _ _ _ _ neg _ _ _ hsz (by omega) c1 c2 d1 d2 d3 v1 v2 v3 (by simp only; omega) (by simp only; omega) (by simp only; omega) r1 r2 r3 hr w
end Go.Proofs.YtoeacbmlodfciaaDoor
