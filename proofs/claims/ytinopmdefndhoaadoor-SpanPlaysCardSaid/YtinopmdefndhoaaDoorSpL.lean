/- The walk of SpanLeast, over what the package's functions answer. -/
import Derived.Test.YtinopmdefndhoaaDoorSpH
namespace Go.Proofs.YtinopmdefndhoaaDoor
open Go Go.RowKit Go.Shelf

theorem set4_0 {W : World} {b : Nat} {c0 c1 c2 c3 x : Value} {T : TypeId} (h : W.heap[b]? = some (.cells #[c0, c1, c2, c3] T)) : (W.setCell ⟨b, 0, none⟩ x).heap[b]? = some (.cells #[x, c1, c2, c3] T) := by
  simp [World.setCell, Array.getElem?_modify, h]
theorem free4_0 {W : World} {b : Nat} {c0 c1 c2 c3 : Value} {T : TypeId} (h : W.heap[b]? = some (.cells #[c0, c1, c2, c3] T)) : W.frozen? ⟨b, 0, none⟩ = false := by simp [World.frozen?, h]
theorem set4_1 {W : World} {b : Nat} {c0 c1 c2 c3 x : Value} {T : TypeId} (h : W.heap[b]? = some (.cells #[c0, c1, c2, c3] T)) : (W.setCell ⟨b, 1, none⟩ x).heap[b]? = some (.cells #[c0, x, c2, c3] T) := by
  simp [World.setCell, Array.getElem?_modify, h]
theorem free4_1 {W : World} {b : Nat} {c0 c1 c2 c3 : Value} {T : TypeId} (h : W.heap[b]? = some (.cells #[c0, c1, c2, c3] T)) : W.frozen? ⟨b, 1, none⟩ = false := by simp [World.frozen?, h]
theorem set4_2 {W : World} {b : Nat} {c0 c1 c2 c3 x : Value} {T : TypeId} (h : W.heap[b]? = some (.cells #[c0, c1, c2, c3] T)) : (W.setCell ⟨b, 2, none⟩ x).heap[b]? = some (.cells #[c0, c1, x, c3] T) := by
  simp [World.setCell, Array.getElem?_modify, h]
theorem free4_2 {W : World} {b : Nat} {c0 c1 c2 c3 : Value} {T : TypeId} (h : W.heap[b]? = some (.cells #[c0, c1, c2, c3] T)) : W.frozen? ⟨b, 2, none⟩ = false := by simp [World.frozen?, h]
theorem set4_3 {W : World} {b : Nat} {c0 c1 c2 c3 x : Value} {T : TypeId} (h : W.heap[b]? = some (.cells #[c0, c1, c2, c3] T)) : (W.setCell ⟨b, 3, none⟩ x).heap[b]? = some (.cells #[c0, c1, c2, x] T) := by
  simp [World.setCell, Array.getElem?_modify, h]
theorem free4_3 {W : World} {b : Nat} {c0 c1 c2 c3 : Value} {T : TypeId} (h : W.heap[b]? = some (.cells #[c0, c1, c2, c3] T)) : W.frozen? ⟨b, 3, none⟩ = false := by simp [World.frozen?, h]
/-- The least span, and whether there is one. -/
structure LeastIs (X : Nat → Int) (n : Nat) (a : Int) (m : Nat) (fnd : Bool) : Prop where
  yes : fnd = true → m ≤ 127 ∧ heldX X n a m = true ∧ ∀ t : Nat, t < m → heldX X n a t = false
  no : fnd = false → m = 0 ∧ ∀ t : Nat, t ≤ 127 → heldX X n a t = false
theorem LeastIs.at {X : Nat → Int} {n : Nat} {a : Int} {m : Nat} {fnd : Bool} (h : LeastIs X n a m fnd) {t : Nat} (ht : t ≤ 127) (h1 : ∀ k : Nat, k < t → heldX X n a k = false) (h2 : heldX X n a t = true) : fnd = true ∧ m = t := by
  cases fnd with
  | false => have := (h.no rfl).2 t ht; rw [h2] at this; cases this
  | true =>
    obtain ⟨k1, k2, k3⟩ := h.yes rfl
    refine ⟨rfl, ?_⟩
    rcases Nat.lt_trichotomy m t with k | k | k
    · have := h1 m k; rw [k2] at this; cases this
    · exact k
    · have := k3 t k; rw [h2] at this; cases this
theorem LeastIs.none {X : Nat → Int} {n : Nat} {a : Int} {m : Nat} {fnd : Bool} (h : LeastIs X n a m fnd) (h1 : ∀ k : Nat, k < 128 → heldX X n a k = false) : fnd = false ∧ m = 0 := by
  cases fnd with
  | false => exact ⟨rfl, (h.no rfl).1⟩
  | true => have := (h.yes rfl); have k := h1 m (by omega); rw [this.2.1] at k; cases k
set_option maxRecDepth 100000 in
set_option maxHeartbeats 8000000 in
theorem least_walk (a b c d : Int) (lo hi : Nat) (hl : lo < 18446744073709551616) (hh : hi < 18446744073709551616) (w : World) (G : Gl w) (kn : KnB Tryd.prog 12) (m : Nat) (fnd : Bool)
    (lea : chk a b c d = 0 → LeastIs (nth (Ns.notes lo hi)) (Ns.notes lo hi).length a m fnd ∧ ∀ W, Gl W → Calls Tryd.prog 19 #[.agg #[.int .i64 a, .int .i64 b, .int .i64 c, .int .i64 d], .agg #[.int .u64 lo, .int .u64 hi]] W fun e w' => e = .returned (.tuple #[.int .i64 (m : Int), .bool fnd, .int .i64 0]) ∧ Below W.heap.size W w') :
    Calls Tryd.prog 8 #[.agg #[.int .i64 a, .int .i64 b, .int .i64 c, .int .i64 d], .agg #[.int .u64 lo, .int .u64 hi]] w fun e w' => e = .returned (.bool true) ∧ Below w.heap.size w w' := by
  have KN := Lib.hid kn
  have CH := Lib.hid (fun W => chkp_any a b c d W)
  have HE := Lib.hid (fun (t : Nat) W => held_any a (t : Int) c d lo hi hl hh W)
  generalize nth (Ns.notes lo hi) = X at *
  generalize (Ns.notes lo hi).length = n at *
  obtain ⟨D, hD⟩ : ∃ D, w.heap.size = D := ⟨_, rfl⟩
  clear kn hl hh
  by_cases hx : chk a b c d = 0
  · obtain ⟨li, lc⟩ := lea hx
    have LI := Lib.hid li
    have LC := Lib.hid lc
    rw [hx] at CH
    clear hx lea li lc
    go_enter Tryd.func8, Tryd.ntmps8
    have G1 : Gl ((w.alloc (.cells #[.int .i64 a, .int .i64 b, .int .i64 c, .int .i64 d] 23)).alloc (.cells #[.int .u64 lo, .int .u64 hi] 26)) := G.below (by rw [hD]; exact (((Below.refl _ w).alloc (by first | omega | (simp; omega)) (.cells #[.int .i64 a, .int .i64 b, .int .i64 c, .int .i64 d] 23)).alloc (by first | omega | (simp; omega)) (.cells #[.int .u64 lo, .int .u64 hi] 26)))
    go_wp2_with fail
    refine (KN.out _ G1).mono ?_
    rintro e v1 ⟨rfl, hb_v1⟩
    have cP_v1 : v1.heap[D]? = some (.cells #[.int .i64 a, .int .i64 b, .int .i64 c, .int .i64 d] 23) := (hb_v1.block (D) (Array.getElem?_eq_some_iff.1 (show ((w.alloc (.cells #[.int .i64 a, .int .i64 b, .int .i64 c, .int .i64 d] 23)).alloc (.cells #[.int .u64 lo, .int .u64 hi] 26)).heap[D]? = some (.cells #[.int .i64 a, .int .i64 b, .int .i64 c, .int .i64 d] 23) from (heap_old (o := .cells #[.int .u64 lo, .int .u64 hi] 26) (heap_new (by first | omega | (simp; omega)))))).1).trans (heap_old (o := .cells #[.int .u64 lo, .int .u64 hi] 26) (heap_new (by first | omega | (simp; omega))))
    have cS_v1 : v1.heap[D + 1]? = some (.cells #[.int .u64 lo, .int .u64 hi] 26) := (hb_v1.block (D + 1) (Array.getElem?_eq_some_iff.1 (show ((w.alloc (.cells #[.int .i64 a, .int .i64 b, .int .i64 c, .int .i64 d] 23)).alloc (.cells #[.int .u64 lo, .int .u64 hi] 26)).heap[D + 1]? = some (.cells #[.int .u64 lo, .int .u64 hi] 26) from (heap_new (by first | omega | (simp; omega))))).1).trans (heap_new (by first | omega | (simp; omega)))
    have hw_v1 : Below D w v1 := ((((Below.refl _ w).alloc (by first | omega | (simp; omega)) (.cells #[.int .i64 a, .int .i64 b, .int .i64 c, .int .i64 d] 23)).alloc (by first | omega | (simp; omega)) (.cells #[.int .u64 lo, .int .u64 hi] 26))).trans (hb_v1.mono (by first | omega | (simp; omega)))
    clear hb_v1
    have ld2 : v1.heap[D]? = some (.cells #[.int .i64 a, .int .i64 b, .int .i64 c, .int .i64 d] 23) := cP_v1
    have y2_0 := cell4_0 ld2
    have y2_1 := cell4_1 ld2
    have y2_2 := cell4_2 ld2
    have y2_3 := cell4_3 ld2
    clear ld2
    go_wp2_with fail
    refine (CH.out _).mono ?_
    rintro e v3 ⟨rfl, hb_v3⟩
    have hs_v3 := hw_v1.size
    have cP_v3 : v3.heap[D]? = some (.cells #[.int .i64 a, .int .i64 b, .int .i64 c, .int .i64 d] 23) := (hb_v3.block (D) (Array.getElem?_eq_some_iff.1 (show v1.heap[D]? = some (.cells #[.int .i64 a, .int .i64 b, .int .i64 c, .int .i64 d] 23) from cP_v1)).1).trans cP_v1
    have cS_v3 : v3.heap[D + 1]? = some (.cells #[.int .u64 lo, .int .u64 hi] 26) := (hb_v3.block (D + 1) (Array.getElem?_eq_some_iff.1 (show v1.heap[D + 1]? = some (.cells #[.int .u64 lo, .int .u64 hi] 26) from cS_v1)).1).trans cS_v1
    have hw_v3 : Below D w v3 := (hw_v1).trans (hb_v3.mono (by first | omega | (simp; omega)))
    clear cP_v1 cS_v1 hb_v3 y2_0 y2_1 y2_2 y2_3 hw_v1 hs_v3
    have G2 : Gl v3 := G.below (by rw [hD]; exact hw_v3)
    have ld4 : v3.heap[D]? = some (.cells #[.int .i64 a, .int .i64 b, .int .i64 c, .int .i64 d] 23) := cP_v3
    have y4_0 := cell4_0 ld4
    have y4_1 := cell4_1 ld4
    have y4_2 := cell4_2 ld4
    have y4_3 := cell4_3 ld4
    clear ld4
    have ld5 : v3.heap[D + 1]? = some (.cells #[.int .u64 lo, .int .u64 hi] 26) := cS_v3
    have y5_0 := cell2_0 ld5
    have y5_1 := cell2_1 ld5
    clear ld5
    go_wp2_with fail
    refine (LC.out _ G2).mono ?_
    rintro e v6 ⟨rfl, hb_v6⟩
    have hs_v6 := hw_v3.size
    have cP_v6 : v6.heap[D]? = some (.cells #[.int .i64 a, .int .i64 b, .int .i64 c, .int .i64 d] 23) := (hb_v6.block (D) (Array.getElem?_eq_some_iff.1 (show v3.heap[D]? = some (.cells #[.int .i64 a, .int .i64 b, .int .i64 c, .int .i64 d] 23) from cP_v3)).1).trans cP_v3
    have cS_v6 : v6.heap[D + 1]? = some (.cells #[.int .u64 lo, .int .u64 hi] 26) := (hb_v6.block (D + 1) (Array.getElem?_eq_some_iff.1 (show v3.heap[D + 1]? = some (.cells #[.int .u64 lo, .int .u64 hi] 26) from cS_v3)).1).trans cS_v3
    have hw_v6 : Below D w v6 := (hw_v3).trans (hb_v6.mono (by first | omega | (simp; omega)))
    clear cP_v3 cS_v3 hb_v6 y4_0 y4_1 y4_2 y4_3 y5_0 y5_1 hw_v3 hs_v6
    have ld7 : v6.heap[D]? = some (.cells #[.int .i64 a, .int .i64 b, .int .i64 c, .int .i64 d] 23) := cP_v6
    have y7_0 := cell4_0 ld7
    have y7_1 := cell4_1 ld7
    have y7_2 := cell4_2 ld7
    have y7_3 := cell4_3 ld7
    clear ld7
    obtain ⟨Q, hQ⟩ : ∃ Q, v6.heap.size = Q := ⟨_, rfl⟩
    obtain ⟨V, hV⟩ : ∃ V : World, v6.alloc (.cells #[.int .i64 a, .int .i64 b, .int .i64 c, .int .i64 d] 23) = V := ⟨_, rfl⟩
    have hwV : Below D w V := by rw [← hV]; exact hw_v6.alloc (by have := hw_v6.size; omega) _
    have hqV : V.heap[Q]? = some (.cells #[.int .i64 a, .int .i64 b, .int .i64 c, .int .i64 d] 23) := by rw [← hV]; exact heap_new hQ.symm
    have hsV : V.heap[D + 1]? = some (.cells #[.int .u64 lo, .int .u64 hi] 26) := by rw [← hV]; exact heap_old cS_v6
    have hQD : D + 1 < Q := by have := (Array.getElem?_eq_some_iff.1 cS_v6).1; omega
    clear hw_v6 cP_v6 cS_v6
    go_upto_region 5 with fail
    try rw [hV]
    clear hV y7_0 y7_1 y7_2 y7_3
    have f1 := free4_1 hqV
    obtain ⟨U, hU⟩ : ∃ U : World, V.setCell ⟨Q, 1, none⟩ (.int .i64 0) = U := ⟨_, rfl⟩
    have hwU : Below D w U := by rw [← hU]; exact hwV.setCell (p := ⟨Q, 1, none⟩) (show D ≤ Q by omega) _
    have hqU : U.heap[Q]? = some (.cells #[.int .i64 a, .int .i64 0, .int .i64 c, .int .i64 d] 23) := by rw [← hU]; exact set4_1 hqV
    have hsU : U.heap[D + 1]? = some (.cells #[.int .u64 lo, .int .u64 hi] 26) := by rw [← hU]; exact (set_other (by omega)).trans hsV
    have q1 := cell4_1 hqV
    go_wp2_with fail
    try rw [hU]
    clear hU f1 q1 hwV hqV hsV
    go_loopw [27] (fun _ wr => ∃ t : Nat, t ≤ 128 ∧ wr.heap[Q]? = some (.cells #[.int .i64 a, .int .i64 (t : Int), .int .i64 c, .int .i64 d] 23) ∧ wr.heap[D + 1]? = some (.cells #[.int .u64 lo, .int .u64 hi] 26) ∧ Below D w wr ∧ ∀ k : Nat, k < t → heldX X n a k = false) (fun _ wr => 128 - natAt wr Q 1)
    case atStart => exact ⟨0, by omega, hqU, hsU, hwU, fun k hk => by omega⟩
    case round =>
      clear hwU hqU hsU
      obtain ⟨t, ht, hq, hs, hw, hall⟩ := hrel
      have q0 := cell4_0 hq
      have q1 := cell4_1 hq
      have q2 := cell4_2 hq
      have q3 := cell4_3 hq
      have z0 := cell2_0 hs
      have z1 := cell2_1 hs
      have hnat : natAt wr Q 1 = t := by simp [natAt, q1]
      by_cases h1 : t ≤ 127
      · have h1i : (t : Int) ≤ 127 := by omega
        have HC := Lib.hid (HE.out t)
        have hwt : IntKind.i64.wrap ((t : Int) + 1) = ((t + 1 : Nat) : Int) := by rw [IntKind.wrap_i64]; omega
        have hwt2 : wrap64 ((t : Int) + 1) = ((t + 1 : Nat) : Int) := by unfold wrap64; omega
        have HALL := Lib.hid hall
        have HQ := Lib.hid hq
        have HS := Lib.hid hs
        clear hall hq hs
        cases hb : heldX X n a (t : Int) with
        | true =>
          obtain ⟨e1, e2⟩ := LI.out.at h1 HALL.out hb
          subst e1 e2
          rw [hb] at HC
          clear HALL hb
          go_wp2_with fail
          refine (HC.out _).mono ?_
          rintro e w5 ⟨rfl, hb5⟩
          have y1 := cell4_1 (heap_kept hb5 HQ.out)
          have HW := Lib.hid (hw.trans (hb5.mono (by have := hw.size; omega)))
          clear hb5 hw q0 q1 q2 q3 z0 z1
          go_wp2
          go_ret
          exact ⟨rfl, by first | exact HW.out | (rw [hD]; exact HW.out)⟩
        | false =>
          rw [hb] at HC
          have hall' : ∀ k : Nat, k < t + 1 → heldX X n a k = false := fun k hk => by
            rcases Nat.lt_or_ge k t with h | h
            · exact HALL.out k h
            · obtain rfl : k = t := by omega
              exact hb
          have HALL2 := Lib.hid hall'
          clear hall' HALL hb
          go_wp2_with fail
          refine (HC.out _).mono ?_
          rintro e w5 ⟨rfl, hb5⟩
          have hq5 := heap_kept hb5 HQ.out
          have hs5 := heap_kept hb5 HS.out
          have hw5 := hw.trans (hb5.mono (by have := hw.size; omega))
          have y1 := cell4_1 hq5
          have y2 := free4_1 hq5
          have HQ5 := Lib.hid hq5
          have HS5 := Lib.hid hs5
          have HW5 := Lib.hid hw5
          clear hb5 hw q0 q1 q2 q3 z0 z1 hq5 hs5 hw5 HQ HS
          go_wp2_with fail
          go_roundw
          case rel => exact ⟨t + 1, by omega, set4_1 HQ5.out, (set_other (by omega)).trans HS5.out, HW5.out.setCell (p := ⟨Q, 1, none⟩) (show D ≤ Q by omega) _, HALL2.out⟩
          case measure =>
            have k2 : natAt (w5.setCell ⟨Q, 1, none⟩ (.int .i64 ((t : Int) + 1))) Q 1 = t + 1 := by
              unfold natAt
              rw [cell4_1 (set4_1 (x := .int .i64 ((t : Int) + 1)) HQ5.out)]
              show ((t : Int) + 1).toNat = t + 1
              omega
            rw [k2, hnat]
            omega
      · obtain rfl : t = 128 := by omega
        obtain ⟨e1, e2⟩ := LI.out.none hall
        subst e1 e2
        have h1i : ¬ ((128 : Nat) : Int) ≤ 127 := by omega
        have HW := Lib.hid hw
        clear hall hw
        go_wp2
        go_ret
        exact ⟨rfl, by first | exact HW.out | (rw [hD]; exact HW.out)⟩
  · rw [chk_ne a b c d hx] at CH
    clear hx lea HE
    go_enter Tryd.func8, Tryd.ntmps8
    have G1 : Gl ((w.alloc (.cells #[.int .i64 a, .int .i64 b, .int .i64 c, .int .i64 d] 23)).alloc (.cells #[.int .u64 lo, .int .u64 hi] 26)) := G.below (by rw [hD]; exact (((Below.refl _ w).alloc (by first | omega | (simp; omega)) (.cells #[.int .i64 a, .int .i64 b, .int .i64 c, .int .i64 d] 23)).alloc (by first | omega | (simp; omega)) (.cells #[.int .u64 lo, .int .u64 hi] 26)))
    go_wp2_with fail
    refine (KN.out _ G1).mono ?_
    rintro e v1 ⟨rfl, hb_v1⟩
    have cP_v1 : v1.heap[D]? = some (.cells #[.int .i64 a, .int .i64 b, .int .i64 c, .int .i64 d] 23) := (hb_v1.block (D) (Array.getElem?_eq_some_iff.1 (show ((w.alloc (.cells #[.int .i64 a, .int .i64 b, .int .i64 c, .int .i64 d] 23)).alloc (.cells #[.int .u64 lo, .int .u64 hi] 26)).heap[D]? = some (.cells #[.int .i64 a, .int .i64 b, .int .i64 c, .int .i64 d] 23) from (heap_old (o := .cells #[.int .u64 lo, .int .u64 hi] 26) (heap_new (by first | omega | (simp; omega)))))).1).trans (heap_old (o := .cells #[.int .u64 lo, .int .u64 hi] 26) (heap_new (by first | omega | (simp; omega))))
    have cS_v1 : v1.heap[D + 1]? = some (.cells #[.int .u64 lo, .int .u64 hi] 26) := (hb_v1.block (D + 1) (Array.getElem?_eq_some_iff.1 (show ((w.alloc (.cells #[.int .i64 a, .int .i64 b, .int .i64 c, .int .i64 d] 23)).alloc (.cells #[.int .u64 lo, .int .u64 hi] 26)).heap[D + 1]? = some (.cells #[.int .u64 lo, .int .u64 hi] 26) from (heap_new (by first | omega | (simp; omega))))).1).trans (heap_new (by first | omega | (simp; omega)))
    have hw_v1 : Below D w v1 := ((((Below.refl _ w).alloc (by first | omega | (simp; omega)) (.cells #[.int .i64 a, .int .i64 b, .int .i64 c, .int .i64 d] 23)).alloc (by first | omega | (simp; omega)) (.cells #[.int .u64 lo, .int .u64 hi] 26))).trans (hb_v1.mono (by first | omega | (simp; omega)))
    clear hb_v1
    have ld2 : v1.heap[D]? = some (.cells #[.int .i64 a, .int .i64 b, .int .i64 c, .int .i64 d] 23) := cP_v1
    have y2_0 := cell4_0 ld2
    have y2_1 := cell4_1 ld2
    have y2_2 := cell4_2 ld2
    have y2_3 := cell4_3 ld2
    clear ld2
    go_wp2_with fail
    refine (CH.out _).mono ?_
    rintro e v3 ⟨rfl, hb_v3⟩
    have hs_v3 := hw_v1.size
    have cP_v3 : v3.heap[D]? = some (.cells #[.int .i64 a, .int .i64 b, .int .i64 c, .int .i64 d] 23) := (hb_v3.block (D) (Array.getElem?_eq_some_iff.1 (show v1.heap[D]? = some (.cells #[.int .i64 a, .int .i64 b, .int .i64 c, .int .i64 d] 23) from cP_v1)).1).trans cP_v1
    have cS_v3 : v3.heap[D + 1]? = some (.cells #[.int .u64 lo, .int .u64 hi] 26) := (hb_v3.block (D + 1) (Array.getElem?_eq_some_iff.1 (show v1.heap[D + 1]? = some (.cells #[.int .u64 lo, .int .u64 hi] 26) from cS_v1)).1).trans cS_v1
    have hw_v3 : Below D w v3 := (hw_v1).trans (hb_v3.mono (by first | omega | (simp; omega)))
    clear cP_v1 cS_v1 hb_v3 y2_0 y2_1 y2_2 y2_3 hw_v1 hs_v3
    have G2 : Gl v3 := G.below (by rw [hD]; exact hw_v3)
    go_wp2_with fail
    refine (KN.out _ G2).mono ?_
    rintro e v4 ⟨rfl, hb_v4⟩
    have hs_v4 := hw_v3.size
    have cP_v4 : v4.heap[D]? = some (.cells #[.int .i64 a, .int .i64 b, .int .i64 c, .int .i64 d] 23) := (hb_v4.block (D) (Array.getElem?_eq_some_iff.1 (show v3.heap[D]? = some (.cells #[.int .i64 a, .int .i64 b, .int .i64 c, .int .i64 d] 23) from cP_v3)).1).trans cP_v3
    have cS_v4 : v4.heap[D + 1]? = some (.cells #[.int .u64 lo, .int .u64 hi] 26) := (hb_v4.block (D + 1) (Array.getElem?_eq_some_iff.1 (show v3.heap[D + 1]? = some (.cells #[.int .u64 lo, .int .u64 hi] 26) from cS_v3)).1).trans cS_v3
    have hw_v4 : Below D w v4 := (hw_v3).trans (hb_v4.mono (by first | omega | (simp; omega)))
    clear cP_v3 cS_v3 hb_v4 hw_v3 hs_v4
    have HW := Lib.hid (hw_v4)
    clear KN CH
    go_wp2
    go_ret
    exact ⟨rfl, by first | exact HW.out | (rw [hD]; exact HW.out)⟩
end Go.Proofs.YtinopmdefndhoaaDoor
