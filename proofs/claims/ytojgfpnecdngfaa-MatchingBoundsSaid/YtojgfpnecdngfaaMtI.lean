/- The error of costs: within, ContainsFunc, checkTable, Check, checkPartial; the law's small; the reference's Check. -/
import Derived.Test.YtojgfpnecdngfaaMtH
namespace Go.Proofs.Ytojgfpnecdngfaa
open Go Go.RowKit Go.Shelf

/-- A cost in range. -/
def inR (x : Int) : Bool := decide (-1000000000 ≤ x ∧ x ≤ 1000000000)
/-- The error of costs; enough: there must not be less columns than rows. -/
def chT (enough : Bool) (m : Nat) (L : Nat → Nat) (f : Nat → Nat → Int) : Int :=
  if 60 < m ∨ 120 < wid m L then 4 else if ¬ (∀ i, i < m → L i = wid m L) then 5 else if enough = true ∧ wid m L < m then 6
  else if ¬ (∀ i, i < m → ∀ k, k < L i → inR (f i k) = true) then 3 else 0
section
variable {enough : Bool} {m : Nat} {L : Nat → Nat} {f : Nat → Nat → Int}
theorem chT_4 (h : 60 < m ∨ 120 < wid m L) : chT enough m L f = 4 := if_pos h
theorem chT_5 (h : ¬ (60 < m ∨ 120 < wid m L)) {i : Nat} (hi : i < m) (h5 : L i ≠ wid m L) : chT enough m L f = 5 := by
  unfold chT; rw [if_neg h, if_pos (fun h' => h5 (h' i hi))]
theorem chT_6 (h : ¬ (60 < m ∨ 120 < wid m L)) (h5 : ∀ i, i < m → L i = wid m L) (h6 : enough = true ∧ wid m L < m) : chT enough m L f = 6 := by
  unfold chT; rw [if_neg h, if_neg (fun h' => h' h5), if_pos h6]
theorem chT_3 (h : ¬ (60 < m ∨ 120 < wid m L)) (h5 : ∀ i, i < m → L i = wid m L) (h6 : ¬ (enough = true ∧ wid m L < m)) {i k : Nat} (hi : i < m) (hk : k < L i) (h3 : inR (f i k) = false) : chT enough m L f = 3 := by
  unfold chT; rw [if_neg h, if_neg (fun h' => h' h5), if_neg h6, if_pos (fun h' => by rw [h' i hi k hk] at h3; cases h3)]
theorem chT_0 (h : ¬ (60 < m ∨ 120 < wid m L)) (h5 : ∀ i, i < m → L i = wid m L) (h6 : ¬ (enough = true ∧ wid m L < m)) (h3 : ∀ i, i < m → ∀ k, k < L i → inR (f i k) = true) : chT enough m L f = 0 := by
  unfold chT; rw [if_neg h, if_neg (fun h' => h' h5), if_neg h6, if_neg (fun h' => h' h3)]
theorem chT_ok (h : chT enough m L f = 0) : m ≤ 60 ∧ wid m L ≤ 120 ∧ (∀ i, i < m → L i = wid m L) ∧ (enough = true → m ≤ wid m L) ∧ ∀ i, i < m → ∀ k, k < wid m L → -1000000000 ≤ f i k ∧ f i k ≤ 1000000000 := by
  unfold chT at h
  by_cases h1 : 60 < m ∨ 120 < wid m L
  · rw [if_pos h1] at h; cases h
  rw [if_neg h1] at h
  by_cases h5 : ∀ i, i < m → L i = wid m L
  · rw [if_neg (fun h' => h' h5)] at h
    by_cases h6 : enough = true ∧ wid m L < m
    · rw [if_pos h6] at h; cases h
    rw [if_neg h6] at h
    by_cases h3 : ∀ i, i < m → ∀ k, k < L i → inR (f i k) = true
    · refine ⟨by omega, by omega, h5, fun he => ?_, fun i hi k hk => ?_⟩
      · have : ¬ wid m L < m := fun h => h6 ⟨he, h⟩
        omega
      · have := h3 i hi k (by rw [h5 i hi]; exact hk)
        exact of_decide_eq_true this
    · rw [if_pos h3] at h; cases h
  · rw [if_pos h5] at h; cases h
end

theorem within_c (x t : Int) (ht : 0 ≤ t ∧ t ≤ 4000000000000) (w : World) :
    Calls Try.prog 47 #[.int .i64 x, .int .i64 t] w fun e w' => e = .returned (.bool (decide (-t ≤ x ∧ x ≤ t))) ∧ w = w' := by
  have q := wrap_in (q := -t) (by omega) (by omega)
  by_cases h1 : -t ≤ x
  · by_cases h2 : x ≤ t
    · go_enter Try.func47, Try.ntmps47
      go_wp2
      go_ret
      exact ⟨ret_bool (by simp [h1, h2]), rfl⟩
    · go_enter Try.func47, Try.ntmps47
      go_wp2
      go_ret
      exact ⟨ret_bool (by simp; omega), rfl⟩
  · go_enter Try.func47, Try.ntmps47
    go_wp2
    go_ret
    exact ⟨ret_bool (by simp; omega), rfl⟩
theorem chk1_c (x : Int) (w : World) : Calls Try.prog 50 #[.int .i64 x] w fun e w' => e = .returned (.bool (!inR x)) ∧ w = w' := by
  have W := Lib.hid (fun W => within_c x 1000000000 (by omega) W)
  obtain ⟨b, hb⟩ : ∃ b, decide (-1000000000 ≤ x ∧ x ≤ 1000000000) = b := ⟨_, rfl⟩
  unfold inR
  rw [hb] at W ⊢
  clear hb
  go_enter Try.func50, Try.ntmps50
  go_wp2_with (first | (go_at_call 47; refine (W.out _).mono ?_; rintro e w' ⟨rfl, rfl⟩))
  go_ret
  exact ⟨rfl, rfl⟩

abbrev ckV : Value := .func (.func 50) #[] #[]
set_option maxHeartbeats 1000000 in
theorem idx_c (B n : Nat) (A : Option Addr) (cn : Nat) (f : Nat → Int) (w : World) (hn : n ≤ 9223372036854775807) (hR : Rd w B A n f) :
    Calls Try.prog 57 #[.slice A n cn, ckV] w fun e w' => (∃ i : Int, e = .returned (.int .i64 i) ∧ ((0 ≤ i ∧ ∃ k, k < n ∧ inR (f k) = false) ∨ (i < 0 ∧ ∀ k, k < n → inR (f k) = true))) ∧ w = w' := by
  have HR := Lib.hid hR
  clear hR
  go_enter Try.func57, Try.ntmps57
  go_wp2_with fail
  go_loop [8] (fun i => ∃ k : Nat, k ≤ n ∧ i = .int .i64 (k : Int) ∧ ∀ j, j < k → inR (f j) = true) (fun i => n - (intOf i).toNat)
  case atStart => exact ⟨0, Nat.zero_le _, rfl, fun j hj => by omega⟩
  case round =>
    obtain ⟨k, hk, rfl, hall⟩ := hrel
    have HA := Lib.hid hall
    clear hall
    by_cases hkn : k < n
    · have hki : (k : Int) < (n : Int) := by omega
      have q := wrap_in (q := (k : Int) + 1) (by omega) (by omega)
      obtain ⟨a, rfl, _, c0⟩ := HR.out k hkn
      cases hb : inR (f k)
      · have CK := Lib.hid (fun W => by have := chk1_c (f k) W; rw [hb] at this; exact this)
        have HB := Lib.hid hb
        clear hb
        go_wp2_with (first | (go_at_call 50; refine (CK.out _).mono ?_; rintro e w' ⟨rfl, rfl⟩))
        go_ret
        exact ⟨⟨_, rfl, .inl ⟨by omega, k, hkn, HB.out⟩⟩, rfl⟩
      · have CK := Lib.hid (fun W => by have := chk1_c (f k) W; rw [hb] at this; exact this)
        have HB := Lib.hid hb
        clear hb
        go_wp2_with (first | (go_at_call 50; refine (CK.out _).mono ?_; rintro e w' ⟨rfl, rfl⟩))
        go_round
        case rel => exact ⟨k + 1, hkn, by go_num, fun j hj => by
          by_cases e : j = k
          · subst e; exact HB.out
          · exact HA.out j (by omega)⟩
        case measure => simp [intOf]; omega
    · obtain rfl : k = n := by omega
      have hki : ¬ (k : Int) < (k : Int) := by omega
      go_wp2_with fail
      go_ret
      exact ⟨⟨_, rfl, .inr ⟨by omega, HA.out⟩⟩, rfl⟩
theorem cf_c (B n : Nat) (A : Option Addr) (cn : Nat) (f : Nat → Int) (w : World) (hn : n ≤ 9223372036854775807) (hR : Rd w B A n f) :
    Calls Try.prog 49 #[.slice A n cn, ckV] w fun e w' => (∃ b : Bool, e = .returned (.bool b) ∧ ((b = true ∧ ∃ k, k < n ∧ inR (f k) = false) ∨ (b = false ∧ ∀ k, k < n → inR (f k) = true))) ∧ w = w' := by
  have ID := Lib.hid (idx_c B n A cn f w hn hR)
  clear hR
  go_enter Try.func49, Try.ntmps49
  go_wp2_with fail
  refine ID.out.mono ?_
  rintro e w' ⟨⟨i, rfl, hi⟩, rfl⟩
  have HI := Lib.hid hi
  clear hi
  by_cases h0 : 0 ≤ i
  · go_wp2_with fail
    go_ret
    refine ⟨⟨_, rfl, ?_⟩, rfl⟩
    rcases HI.out with h | h
    · exact .inl ⟨by simp [h0], h.2⟩
    · omega
  · go_wp2_with fail
    go_ret
    refine ⟨⟨_, rfl, ?_⟩, rfl⟩
    rcases HI.out with h | h
    · omega
    · exact .inr ⟨by simp; omega, h.2⟩

set_option maxRecDepth 100000 in
set_option maxHeartbeats 4000000 in
theorem checkTable_c (partial_ : Bool) (B m : Nat) (A : Option Addr) (cm : Nat) (L : Nat → Nat) (f : Nat → Nat → Int) (w : World) (hm : m ≤ 9223372036854775807) (hL : ∀ i, i < m → L i ≤ 9223372036854775807) (hT : Tb w B A m L f) :
    Calls Try.prog 37 #[.slice A m cm, .bool partial_] w fun e w' => e = .returned (.int .i64 (chT (!partial_) m L f)) ∧ w = w' := by
  have WI := Lib.hid (width_c m B A cm L f w hm hT)
  have HT := Lib.hid hT
  have HL := Lib.hid hL
  clear hT hL
  obtain ⟨R, hRR⟩ : ∃ R, chT (!partial_) m L f = R := ⟨_, rfl⟩
  obtain ⟨W, hW⟩ : ∃ W, wid m L = W := ⟨_, rfl⟩
  have h4 := Lib.hid (fun h => (hRR.symm.trans (chT_4 (enough := !partial_) (f := f) (L := L) (m := m) h)))
  have h5 := Lib.hid (fun h (i : Nat) (hi : i < m) h' => (hRR.symm.trans (chT_5 (enough := !partial_) (f := f) (L := L) (m := m) h hi h')))
  have h6 := Lib.hid (fun h h' h'' => (hRR.symm.trans (chT_6 (enough := !partial_) (f := f) (L := L) (m := m) h h' h'')))
  have h3 := Lib.hid (fun h h' h'' (i k : Nat) (hi : i < m) (hk : k < L i) h''' => (hRR.symm.trans (chT_3 (enough := !partial_) (f := f) (L := L) (m := m) h h' h'' hi hk h''')))
  have h0 := Lib.hid (fun h h' h'' h''' => (hRR.symm.trans (chT_0 (enough := !partial_) (f := f) (L := L) (m := m) h h' h'' h''')))
  rw [hRR]
  rw [hW] at WI h4 h5 h6 h3 h0
  clear hRR hW
  have hWle : W ≤ W := Nat.le_refl _
  by_cases c1 : 60 < m
  · have c1i : (60 : Int) < (m : Int) := by omega
    obtain rfl := h4.out (.inl c1)
    go_enter Try.func37, Try.ntmps37
    go_wp2
    go_ret
    exact ⟨rfl, rfl⟩
  have c1i : ¬ (60 : Int) < (m : Int) := by omega
  by_cases c2 : 120 < W
  · have c2i : (120 : Int) < (W : Int) := by omega
    obtain rfl := h4.out (.inr c2)
    go_enter Try.func37, Try.ntmps37
    go_wp2_with (first | (go_at_call 42; refine (WI.out).mono ?_; rintro e w' ⟨rfl, rfl⟩))
    go_ret
    exact ⟨rfl, rfl⟩
  have c2i : ¬ (120 : Int) < (W : Int) := by omega
  have C12 : ¬ (60 < m ∨ 120 < W) := by omega
  have HC := Lib.hid C12
  clear C12
  go_enter Try.func37, Try.ntmps37
  go_wp2_with (first | (go_at_call 42; refine (WI.out).mono ?_; rintro e w' ⟨rfl, rfl⟩))
  go_loop [19] (fun i => ∃ k : Nat, k ≤ m ∧ i = .int .i64 (k : Int) ∧ ∀ j, j < k → L j = W) (fun i => m - (intOf i).toNat)
  case atStart => exact ⟨0, Nat.zero_le _, rfl, fun j hj => by omega⟩
  case round =>
    obtain ⟨k, hk, rfl, hall⟩ := hrel
    have HA := Lib.hid hall
    clear hall
    by_cases hkm : k < m
    · have hki : (k : Int) < (m : Int) := by omega
      have q := wrap_in (q := (k : Int) + 1) (by omega) (by omega)
      obtain ⟨a, Ai, ci, rfl, _, c0, _⟩ := HT.out k hkm
      have hLk := HL.out k hkm
      by_cases hl : L k = W
      · have hb : (((L k : Nat) : Int) != ((W : Nat) : Int)) = false := by simp [hl]
        have HLK := Lib.hid hl
        clear hl
        go_wp2_with (first | (go_at_call 42; refine (WI.out).mono ?_; rintro e w' ⟨rfl, rfl⟩))
        go_round
        case rel => exact ⟨k + 1, hkm, by go_num, fun j hj => by
          by_cases e : j = k
          · subst e; exact HLK.out
          · exact HA.out j (by omega)⟩
        case measure => simp [intOf]; omega
      · have hb : (((L k : Nat) : Int) != ((W : Nat) : Int)) = true := by simp; omega
        obtain rfl := h5.out HC.out k hkm hl
        go_wp2_with (first | (go_at_call 42; refine (WI.out).mono ?_; rintro e w' ⟨rfl, rfl⟩))
        go_ret
        exact ⟨rfl, rfl⟩
    · obtain rfl : k = m := by omega
      have hki : ¬ (k : Int) < (k : Int) := by omega
      by_cases c6 : (!partial_) = true ∧ W < k
      · obtain ⟨hp, hw⟩ := c6
        obtain rfl : partial_ = false := by cases partial_ <;> simp_all
        have hwi : (W : Int) < (k : Int) := by omega
        obtain rfl := h6.out HC.out HA.out ⟨rfl, hw⟩
        go_wp2_with (first | (go_at_call 42; refine (WI.out).mono ?_; rintro e w' ⟨rfl, rfl⟩))
        go_ret
        exact ⟨rfl, rfl⟩
      have H6 := Lib.hid c6
      have hcase : partial_ = true ∨ (partial_ = false ∧ ¬ (W : Int) < (k : Int) ∧ decide (W < k) = false) := by
        cases partial_
        · right; exact ⟨rfl, fun h => c6 ⟨rfl, by omega⟩, decide_eq_false fun h => c6 ⟨rfl, by omega⟩⟩
        · left; rfl
      clear c6
      rcases hcase with rfl | ⟨rfl, hwi, hwd⟩
      all_goals
        go_wp2_with (first | (go_at_call 42; refine (WI.out).mono ?_; rintro e w' ⟨rfl, rfl⟩))
        go_loop [40] (fun i => ∃ t : Nat, t ≤ k ∧ i = .int .i64 (t : Int) ∧ ∀ j, j < t → ∀ l, l < L j → inR (f j l) = true) (fun i => k - (intOf i).toNat)
        case atStart => exact ⟨0, Nat.zero_le _, rfl, fun j hj => by omega⟩
        case round =>
          obtain ⟨t, ht, rfl, hall⟩ := hrel
          have HB := Lib.hid hall
          clear hall
          by_cases htk : t < k
          · have hti : (t : Int) < (k : Int) := by omega
            have q := wrap_in (q := (t : Int) + 1) (by omega) (by omega)
            obtain ⟨a, Ai, ci, rfl, _, c0, hRd⟩ := HT.out t htk
            have hLt := HL.out t htk
            have CF := Lib.hid (cf_c B (L t) Ai ci (f t) w hLt hRd)
            clear hRd
            go_wp2_with fail
            refine CF.out.mono ?_
            rintro e w' ⟨⟨b, rfl, hb⟩, rfl⟩
            rcases hb with ⟨rfl, x, hx, hxf⟩ | ⟨rfl, hx⟩
            · obtain rfl := h3.out HC.out HA.out H6.out t x htk hx hxf
              go_wp2_with fail
              go_ret
              exact ⟨rfl, rfl⟩
            · have HX := Lib.hid hx
              clear hx
              go_wp2_with fail
              go_round
              case rel => exact ⟨t + 1, htk, by go_num, fun j hj => by
                by_cases e : j = t
                · subst e; exact HX.out
                · exact HB.out j (by omega)⟩
              case measure => simp [intOf]; omega
          · obtain rfl : t = k := by omega
            have hti : ¬ (t : Int) < (t : Int) := by omega
            obtain rfl := h0.out HC.out HA.out H6.out HB.out
            go_wp2_with fail
            go_ret
            exact ⟨rfl, rfl⟩

theorem check_c (B m : Nat) (A : Option Addr) (cm : Nat) (L : Nat → Nat) (f : Nat → Nat → Int) (w : World) (hm : m ≤ 9223372036854775807) (hL : ∀ i, i < m → L i ≤ 9223372036854775807) (hT : Tb w B A m L f) :
    Calls Try.prog 19 #[.slice A m cm] w fun e w' => e = .returned (.int .i64 (chT true m L f)) ∧ w = w' := by
  have CT := Lib.hid (checkTable_c false B m A cm L f w hm hL hT)
  clear hL hT
  obtain ⟨R, hR⟩ : ∃ R, chT true m L f = R := ⟨_, rfl⟩
  rw [show (!false) = true from rfl, hR] at CT
  rw [hR]
  clear hR
  go_enter Try.func19, Try.ntmps19
  go_wp2_with fail
  refine CT.out.mono ?_
  rintro e w' ⟨rfl, rfl⟩
  go_wp2_with fail
  go_ret
  exact ⟨rfl, rfl⟩
end Go.Proofs.Ytojgfpnecdngfaa
