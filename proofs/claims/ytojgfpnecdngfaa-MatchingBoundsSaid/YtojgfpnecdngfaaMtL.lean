/- Partial: rows can be skipped at a cost. -/
import Derived.Test.YtojgfpnecdngfaaMtK
import Derived.Test.YtojgfpnecdngfaaMtPm
namespace Go.Proofs.Ytojgfpnecdngfaa
open Go Go.RowKit Go.Shelf

theorem info_sl : (Try.prog.info? 27).map (fun i => (i.zero, i.size, i.bytes)) = some (some (.slice none 0 0), 1, 24) := by kernel_rfl
theorem own_below {W W' : World} {D n size : Nat} {e : TypeId} {v : Value} {xs : List Value} (h : W.ownsRow D e size v n xs) (hb : Below W.heap.size W W') : W'.ownsRow D e size v n xs := by
  obtain ⟨h1, h2⟩ := h
  refine ⟨h1, ?_⟩
  rcases h2 with h2 | ⟨g, cap, cur, hv, hg, hh, r⟩
  · exact .inl h2
  · exact .inr ⟨g, cap, cur, hv, hg, (hb.block g (Array.getElem?_eq_some_iff.1 hh).1).trans hh, r⟩
/-- A row with further columns at the cost to skip. -/
def wcost (n : Nat) (skip : Int) (f : Nat → Nat → Int) (i k : Nat) : Int := if k < n then f i k else skip
/-- How many columns the wide table has. -/
def wideN (m n : Nat) : Nat := if m = 0 then 0 else n + m + 1
theorem wide_tb {W : World} {D m N k : Nat} {v : Value} {xs : List Value} {g : Nat → Nat → Int} (hk : k = m) (hown : W.ownsRow D 27 1 v k xs) (hx : ∀ i, i < k → ∃ u, xs[i]? = some u ∧ RowB W D N u (g i)) :
    ∃ A c, v = .slice A m c ∧ Tb W W.heap.size A m (fun _ => N) g := by
  subst hk
  rcases hown.2 with ⟨rfl, h0⟩ | ⟨b, cap, cur, rfl, hb, hg, hc, _, hs, hxs⟩
  · exact ⟨none, 0, by rw [h0], fun i hi => by omega⟩
  · refine ⟨_, cap, rfl, fun i hi => ?_⟩
    obtain ⟨u, hu, hr⟩ := hx i hi
    obtain ⟨b', c', rfl, hrd⟩ := hr.rd
    refine ⟨_, _, c', rfl, (Array.getElem?_eq_some_iff.1 hg).1, ?_, hrd⟩
    rw [Addr.add_mid, Nat.zero_add]
    rw [← hxs, List.getElem?_take_of_lt (by omega)] at hu
    simp [World.cell?, hg]
    simpa using hu
/-- What has come up in the region that cuts the potentials. -/
def poI (D m n N q gC : Nat) (A : Option Addr) (cm : Nat) (c : Nat → Int) : Nat → Value → World → Prop
  | 0, v, _ => v = .pointer (some ⟨q, 3, none⟩)
  | 1, v, _ => v = .slice (some ⟨gC, 0, none⟩) N N
  | 2, v, _ => v = .slice A m cm
  | 3, v, _ => v = .int .i64 (n : Int)
  | 4, v, _ => v = .slice (some ⟨gC, 0, none⟩) n N
  | 5, v, W => W.ownsRow D 3 1 v n ((List.range n).map fun k => .int .i64 (c k)) ∧ ∃ a c', v = .slice a n c'
  | 6, v, _ => v = .pointer (some ⟨q, 3, none⟩)
  | _, _, _ => True
theorem poI_up (D m n N q gC : Nat) (A : Option Addr) (cm : Nat) (c : Nat → Int) : ∀ (j : Nat) (v : Value) (X Y : World), Below X.heap.size X Y → poI D m n N q gC A cm c j v X → poI D m n N q gC A cm c j v Y
  | 0, _, _, _, _, h => h
  | 1, _, _, _, _, h => h
  | 2, _, _, _, _, h => h
  | 3, _, _, _, _, h => h
  | 4, _, _, _, _, h => h
  | 5, _, _, _, hb, h => ⟨own_below h.1 hb, h.2⟩
  | 6, _, _, _, _, h => h
  | _ + 7, _, _, _, _, _ => trivial
def poFin (w : World) (n q : Nat) (c : Nat → Int) (_ys : Nat → Value) (W : World) : Prop := ∃ v W', W = W'.setCell ⟨q, 3, none⟩ v ∧ Below w.heap.size w W' ∧
  W'.ownsRow w.heap.size 3 1 v n ((List.range n).map fun k => .int .i64 (c k)) ∧ ∃ a c', v = .slice a n c'
theorem slice_ownM {W : World} {D n size : Nat} {e : TypeId} {v : Value} {xs : List Value} (h : W.ownsRow D e size v n xs) : ∃ a c', v = .slice a n c' := by
  rcases h.2 with ⟨rfl, h0⟩ | ⟨g, cap, _, rfl, _⟩
  · exact ⟨_, _, by rw [h0]⟩
  · exact ⟨_, _, rfl⟩
theorem own_mono {W : World} {D D' n size : Nat} {e : TypeId} {v : Value} {xs : List Value} (h : W.ownsRow D e size v n xs) (hD : D' ≤ D) : W.ownsRow D' e size v n xs := by
  obtain ⟨h1, h2⟩ := h
  refine ⟨h1, ?_⟩
  rcases h2 with h2 | ⟨g, cap, cur, hv, hg, r⟩
  · exact .inl h2
  · exact .inr ⟨g, cap, cur, hv, by omega, r⟩
/-- The columns, when the first t rows are seen. -/
def paX (n : Nat) (col : Nat → Int) (t : Nat) : Nat → Int := fun i => if i < t ∧ (n : Int) ≤ col i then -1 else col i
theorem paX_zero (n : Nat) (col : Nat → Int) (i : Nat) : paX n col 0 i = col i := by unfold paX; rw [if_neg (by omega)]
theorem paX_self {n : Nat} {col : Nat → Int} {t : Nat} : paX n col t t = col t := by unfold paX; rw [if_neg (by omega)]
theorem paX_all (n : Nat) (col : Nat → Int) {m i : Nat} (h : i < m) : paX n col m i = if (n : Int) ≤ col i then -1 else col i := by
  unfold paX
  by_cases e : (n : Int) ≤ col i
  · rw [if_pos ⟨h, e⟩, if_pos e]
  · rw [if_neg (fun h' => e h'.2), if_neg e]
theorem paX_yes {n : Nat} {col : Nat → Int} {t : Nat} (h : (n : Int) ≤ col t) (i : Nat) : paX n col (t + 1) i = if i = t then -1 else paX n col t i := by
  unfold paX
  by_cases e : i = t
  · subst e; rw [if_pos ⟨by omega, h⟩, if_pos rfl]
  · rw [if_neg e]
    by_cases h' : i < t ∧ (n : Int) ≤ col i
    · rw [if_pos h', if_pos ⟨by omega, h'.2⟩]
    · rw [if_neg h', if_neg (fun h'' => h' ⟨by omega, h''.2⟩)]
theorem paX_no {n : Nat} {col : Nat → Int} {t : Nat} (h : ¬ (n : Int) ≤ col t) (i : Nat) : paX n col (t + 1) i = paX n col t i := by
  unfold paX
  by_cases e : i = t
  · subst e; rw [if_neg (fun h' => h h'.2), if_neg (by omega)]
  · by_cases h' : i < t ∧ (n : Int) ≤ col i
    · rw [if_pos h', if_pos ⟨by omega, h'.2⟩]
    · rw [if_neg h', if_neg (fun h'' => h' ⟨by omega, h''.2⟩)]
theorem psol_congr {m n : Nat} {cost : Nat → Nat → Int} {skip : Int} {col col' r c : Nat → Int} {tot : Int} (h : Mt.PSol m n cost skip col r c tot) (he : ∀ i, i < m → col' i = col i) : Mt.PSol m n cost skip col' r c tot :=
  ⟨fun i hi => by rw [he i hi]; exact h.at_ i hi, fun i j hi hj => by rw [he i hi, he j hj]; exact h.inj i j hi hj, by rw [h.total]; exact Mt.sm_congr fun i hi => by rw [he i hi], h.feas, h.cneg, h.rskip, h.sum, h.rb, h.cb⟩
/-- What the result of Partial is. -/
def PSolW (w w' : World) (m n : Nat) (cost : Nat → Nat → Int) (skip : Int) (v : Value) : Prop := ∃ gX gR pa pc col r c tot, v = .agg #[.slice (some ⟨gX, 0, none⟩) m m, .int .i64 tot, .slice (some ⟨gR, 0, none⟩) m m, .slice pa n pc] ∧
  IR w' gX m col ∧ IR w' gR m r ∧ w'.ownsRow w.heap.size 3 1 (.slice pa n pc) n ((List.range n).map fun k => .int .i64 (c k)) ∧ (w.heap.size ≤ gX ∧ w.heap.size ≤ gR ∧ gX ≠ gR) ∧ Mt.PSol m n cost skip col r c tot

set_option maxRecDepth 100000 in
set_option maxHeartbeats 4000000 in
theorem partial_ok (B m : Nat) (A : Option Addr) (cm : Nat) (L : Nat → Nat) (f : Nat → Nat → Int) (skip : Int) (w : World) (hm : m ≤ 9223372036854775807) (hL : ∀ i, i < m → L i ≤ 9223372036854775807) (hT : Tb w B A m L f) (hB : B ≤ w.heap.size)
    (n : Nat) (hn : wid m L = n) (hE : chP m L f skip = 0) :
    Calls Try.prog 22 #[.slice A m cm, .int .i64 skip] w fun e w' => (∃ v, e = .returned (.tuple #[v, .int .i64 0]) ∧ PSolW w w' m n f skip v) ∧ Below w.heap.size w w' := by
  obtain ⟨w1, hw1⟩ : ∃ w1, w.alloc (.cells #[.slice none 0 0, .int .i64 0, .slice none 0 0, .slice none 0 0] 29) = w1 := ⟨_, rfl⟩
  have hb1 : Below w.heap.size w w1 := by rw [← hw1]; exact (Below.refl _ _).alloc (Nat.le_refl _) _
  have hr : w1.heap[w.heap.size]? = some (.cells #[.slice none 0 0, .int .i64 0, .slice none 0 0, .slice none 0 0] 29) := by rw [← hw1]; exact heap_newM _ _
  have zr : w.heap.size < w1.heap.size := by rw [← hw1]; simp
  have CK := Lib.hid (checkPartial_c B m A cm L f skip w1 hm hL (hT.below hb1 hB))
  rw [hE] at CK
  have hE2 : chT false m L f = 0 ∧ inR skip = true := by
    unfold chP at hE
    by_cases h : chT false m L f = 0
    · rw [if_neg (fun h' => h' h)] at hE
      by_cases h2 : inR skip = true
      · exact ⟨h, h2⟩
      · rw [if_neg h2] at hE; cases hE
    · rw [if_pos h] at hE; exact absurd hE h
  obtain ⟨o1, o2, o3, _, o5⟩ := chT_ok hE2.1
  have hsk : -1000000000 ≤ skip ∧ skip ≤ 1000000000 := of_decide_eq_true hE2.2
  have W0 := Lib.hid (fun W (hb : Below w.heap.size w W) => width_c m B A cm L f W hm (hT.below hb hB))
  rw [hn] at o2 o3 o5 W0
  have hnn := hn
  have hT1 : Tb w1 B A m (fun _ => n) f := (hT.below hb1 hB).congr o3 (fun _ _ _ _ => rfl)
  have h0n : m = 0 → n = 0 := fun h => by rw [← hnn]; exact if_pos h
  have HB := Lib.hid (And.intro hb1 hr)
  have HT1 := Lib.hid hT1
  have HO5 := Lib.hid o5
  have HSK := Lib.hid hsk
  have H0N := Lib.hid h0n
  have HO12 := Lib.hid (And.intro o1 o2)
  have hBw1 : B ≤ w1.heap.size := by have := hb1.size; omega
  obtain ⟨i0, hi0, hz0, hz1, hz2⟩ := info_parts info_sl
  clear hT hL hE hb1 hr hT1 o3 o5 hn hnn hE2 hsk h0n hm
  go_enter Try.func22, Try.ntmps22
  go_wp2_with fail
  try rw [hw1]
  refine CK.out.mono ?_
  rintro e w' ⟨rfl, rfl⟩
  obtain ⟨D, hD⟩ : ∃ D, w1.heap.size = D := ⟨_, rfl⟩
  have HD := Lib.hid hD
  clear hD
  go_wp2_with fail
  go_loopw [7, 22] (fun v i wr => ∃ (k : Nat) (xs : List Value), k ≤ m ∧ i = .int .i64 (k : Int) ∧ wr.ownsRow D 27 1 v k xs ∧ (∀ i, i < k → ∃ u, xs[i]? = some u ∧ RowB wr D (wideN m n) u (wcost n skip f i)) ∧ Below D w1 wr) (fun _ i _ => m - (intOf i).toNat)
  case atStart => exact ⟨0, [], Nat.zero_le _, rfl, ⟨rfl, .inl ⟨rfl, rfl⟩⟩, fun i hi => absurd hi (by omega), Below.refl _ _⟩
  case round =>
    obtain ⟨k, xs, hk, rfl, hown, hxs, hb⟩ := hrel
    have hzD := hb.size
    have hDw := HD.out
    have HX := Lib.hid (And.intro hown (And.intro hxs hb))
    clear hown hxs hb
    by_cases hkm : k < m
    · have hki : (k : Int) < (m : Int) := by omega
      have q1 := wrap_in (q := (k : Int) + 1) (by omega) (by omega)
      have q2 := wrap_in (q := (m : Int) + 1) (by omega) (by omega)
      obtain ⟨a, Ai, ci, rfl, hab, c0, hRd⟩ := (HT1.out.below HX.out.2.2 (by omega)) k hkm
      have HRd := Lib.hid hRd
      have hwn : wideN m n = n + (m + 1) := by unfold wideN; rw [if_neg (by omega)]; omega
      have HWN := Lib.hid hwn
      have RP := Lib.hid (repeat_c wr.heap.size (m + 1) skip (wr.alloc (.cells #[.int .i64 skip] 3)) (by omega) (by simp) (by simp))
      have RP' : Hid (Calls Try.prog 41 #[.slice (some ⟨wr.heap.size, 0, none⟩) 1 1, .int .i64 ((m : Int) + 1)] (wr.alloc (.cells #[.int .i64 skip] 3)) fun e w' => e = .returned (.slice (some ⟨wr.heap.size + 1, 0, none⟩) (m + 1) (m + 1)) ∧ IR w' (wr.heap.size + 1) (m + 1) (fun _ => skip) ∧ Below (wr.heap.size + 1) (wr.alloc (.cells #[.int .i64 skip] 3)) w') := by
        have := RP.out
        have hsz : (wr.alloc (.cells #[.int .i64 skip] 3)).heap.size = wr.heap.size + 1 := by simp
        rw [hsz] at this
        exact this
      clear hRd hwn RP
      go_wp2_with fail
      refine RP'.out.mono ?_
      rintro e w2 ⟨rfl, hr2, hb2⟩
      have z2 := hb2.size
      have z2' : wr.heap.size + 1 ≤ w2.heap.size := by simpa using z2
      have hbA : Below wr.heap.size wr w2 := ((Below.refl _ _).alloc (Nat.le_refl _) _).trans (hb2.mono (by omega))
      obtain ⟨W3, hW3⟩ : ∃ W3, w2.alloc (.cells #[.slice Ai n ci, .slice (some ⟨wr.heap.size + 1, 0, none⟩) (m + 1) (m + 1)] 27) = W3 := ⟨_, rfl⟩
      have hb3 : Below w2.heap.size w2 W3 := by rw [← hW3]; exact (Below.refl _ _).alloc (Nat.le_refl _) _
      have hx3 : W3.heap[w2.heap.size]? = some (.cells #[.slice Ai n ci, .slice (some ⟨wr.heap.size + 1, 0, none⟩) (m + 1) (m + 1)] 27) := by rw [← hW3]; exact heap_newM _ _
      have z3 : w2.heap.size < W3.heap.size := by rw [← hW3]; simp
      have k0 : W3.cell? ⟨w2.heap.size, 0, none⟩ = some (.slice Ai n ci) := by simp [World.cell?, hx3]
      have k1 : W3.cell? ⟨w2.heap.size, 1, none⟩ = some (.slice (some ⟨wr.heap.size + 1, 0, none⟩) (m + 1) (m + 1)) := by simp [World.cell?, hx3]
      have hbB : Below wr.heap.size wr W3 := hbA.trans (hb3.mono (by omega))
      have CC := Lib.hid (concat2_c w2.heap.size n (m + 1) Ai ci (wr.heap.size + 1) (m + 1) B (f k) skip W3 (by have := HO12.out.2; omega) (by omega) (by have := HO12.out.1; omega) z3 k0 k1 (HRd.out.below hbB (by omega)) (by omega) (row_below hr2 hb3))
      have HA := Lib.hid hbB
      clear hr2 hb2 hbA hb3 hx3 k0 k1 hbB
      go_wp2_with fail
      try rw [hW3]
      refine CC.out.mono ?_
      rintro e w4 ⟨⟨u, rfl, hu⟩, hb4⟩
      obtain ⟨uh, uc, hue⟩ : ∃ uh uc, u = .slice (some ⟨uh, 0, none⟩) (n + (m + 1)) uc := by obtain ⟨b, c, _, h, _⟩ := hu; exact ⟨b, c, h⟩
      subst hue
      have hbC : Below wr.heap.size wr w4 := HA.out.trans (hb4.mono (by omega))
      have hN : ∀ j u', [Value.slice (some ⟨uh, 0, none⟩) (n + (m + 1)) uc][j]? = some u' → (w4.alloc (.cells #[(.slice (some ⟨uh, 0, none⟩) (n + (m + 1)) uc)] 27)).cell? (({ block := w4.heap.size, off := 0 } : Addr).add j) = some u' := by
        intro j u' hu'
        have hj : j = 0 := by have := (List.getElem?_eq_some_iff.1 hu').1; simpa using this
        subst hj
        simp at hu'
        subst hu'
        rw [Addr.add_mid, Nat.zero_add]
        simp
      have h1 : ∀ u' ∈ [(Value.slice (some ⟨uh, 0, none⟩) (n + (m + 1)) uc)], u'.oneCell' = true := by
        intro u' hu'
        simp at hu'
        subst hu'
        rfl
      have hown4 := (own_below HX.out.1 hbC).alloc (.cells #[(.slice (some ⟨uh, 0, none⟩) (n + (m + 1)) uc)] 27)
      have hsz4 : D ≤ (w4.alloc (.cells #[(.slice (some ⟨uh, 0, none⟩) (n + (m + 1)) uc)] 27)).heap.size := by simp; have := hbC.size; omega
      have hbD : Below D w1 (w4.alloc (.cells #[(.slice (some ⟨uh, 0, none⟩) (n + (m + 1)) uc)] 27)) := (HX.out.2.2.trans (hbC.mono (by omega))).alloc (by have := hbC.size; omega) _
      have huA : RowB (w4.alloc (.cells #[(.slice (some ⟨uh, 0, none⟩) (n + (m + 1)) uc)] 27)) D (wideN m n) (.slice (some ⟨uh, 0, none⟩) (n + (m + 1)) uc) (wcost n skip f k) := by
        rw [HWN.out]
        exact (hu.mono (by have := HA.out.size; omega)).below ((Below.refl _ _).alloc (Nat.le_refl _) _)
      have hbE : Below wr.heap.size wr (w4.alloc (.cells #[(.slice (some ⟨uh, 0, none⟩) (n + (m + 1)) uc)] 27)) := hbC.alloc hbC.size _
      obtain ⟨W5, hW5⟩ : ∃ W5, w4.alloc (.cells #[(.slice (some ⟨uh, 0, none⟩) (n + (m + 1)) uc)] 27) = W5 := ⟨_, rfl⟩
      rw [hW5] at hN hown4 hsz4 hbD huA hbE
      have HC := Lib.hid (And.intro hN (And.intro h1 (And.intro hown4 (And.intro hbD (And.intro huA hbE)))))
      clear hu hb4 hbC hN h1 hown4 hbD huA hbE
      have h63 : k + 1 ≤ maxLen := by unfold maxLen; have := HO12.out.1; omega
      have h64 : (k + 1) * 24 ≤ 140737488355328 := by have := HO12.out.1; omega
      go_wp2_with (at_builtin; go_loud (refine wpList_append_own _ rfl _ _ 22 rfl D 27 i0 (.slice none 0 0) 1 24 Try.underlying22 hi0 hz0 hz1 hz2 rfl (by decide) _ _ _ rfl HC.out.2.2.1 ⟨w4.heap.size, 0, none⟩ 1 1 [(.slice (some ⟨uh, 0, none⟩) (n + (m + 1)) uc)] rfl rfl HC.out.1 HC.out.2.1 h63 h64 hsz4 ?_); intro v' w6 hown' hgrow _)
      have HO := Lib.hid (And.intro hown' hgrow)
      clear hown' hgrow
      go_wp2_with fail
      go_roundw
      case rel =>
        have hg := HO.out.2
        have ho := HC.out.2.2.1
        refine ⟨k + 1, xs ++ [(.slice (some ⟨uh, 0, none⟩) (n + (m + 1)) uc)], hkm, rfl, HO.out.1, fun i hi => ?_, HC.out.2.2.2.1.trans (grown_below0 hsz4 ho hg)⟩
        have hl : xs.length = k := by have := HX.out.1.1; simpa using this
        by_cases e : i = k
        · subst e
          exact ⟨(.slice (some ⟨uh, 0, none⟩) (n + (m + 1)) uc), by rw [← hl]; simp, HC.out.2.2.2.2.1.grown ho (by decide) hg⟩
        · obtain ⟨u', hu', hr'⟩ := HX.out.2.1 i (by omega)
          exact ⟨u', by rw [List.getElem?_append_left (by omega)]; exact hu', (hr'.below HC.out.2.2.2.2.2).grown ho (by decide) hg⟩
      case measure => simp [intOf]; omega
    · obtain rfl : k = m := by omega
      have hki : ¬ (k : Int) < (k : Int) := by omega
      obtain ⟨A', c', hv, hTw⟩ := wide_tb (N := wideN k n) rfl HX.out.1 HX.out.2.1
      subst hv
      have hNk : k ≤ wideN k n := by unfold wideN; split <;> omega
      have SO := Lib.hid (solve_c k (wideN k n) wr.heap.size A' c' (wcost n skip f) wr (by have := HO12.out.1; omega) (by have := HO12.out; unfold wideN; split <;> omega) hNk (fun h => if_pos h) hTw (Nat.le_refl _) (fun i j hi hj => by
        unfold wcost
        by_cases h : j < n
        · rw [if_pos h]; exact HO5.out i hi j h
        · rw [if_neg h]; exact HSK.out))
      have hbr := HX.out.2.2
      have HBR := Lib.hid hbr
      clear hTw hbr HX
      go_wp2_with fail
      refine SO.out.mono ?_
      rintro e w4 ⟨gX, gR, gC, col, r, c, tot, rfl, hX, hR, hC, hne, hsol, hb4⟩
      have hz4 := hb4.size
      obtain ⟨NN, hNN⟩ : ∃ NN, wideN k n = NN := ⟨_, rfl⟩
      have hNN2 := hNN
      unfold wideN at hNN2
      rw [hNN] at hC hsol
      obtain ⟨q, hq⟩ : ∃ q, w4.heap.size = q := ⟨_, rfl⟩
      obtain ⟨W5, hW5⟩ : ∃ W5, w4.alloc (.cells #[.slice (some ⟨gX, 0, none⟩) k k, .int .i64 tot, .slice (some ⟨gR, 0, none⟩) k k, .slice (some ⟨gC, 0, none⟩) NN NN] 29) = W5 := ⟨_, rfl⟩
      have hb5 : Below w4.heap.size w4 W5 := by rw [← hW5]; exact (Below.refl _ _).alloc (Nat.le_refl _) _
      have hx5 : W5.heap[q]? = some (.cells #[.slice (some ⟨gX, 0, none⟩) k k, .int .i64 tot, .slice (some ⟨gR, 0, none⟩) k k, .slice (some ⟨gC, 0, none⟩) NN NN] 29) := by rw [← hW5, ← hq]; exact heap_newM _ _
      have zX := hX.lt
      have zR := hR.lt
      have zC := hC.lt
      have X5 := row_below hX hb5
      have B5 : Below D w1 W5 := (HBR.out.trans (hb4.mono (by omega))).trans (hb5.mono (by omega))
      have H5 := Lib.hid (And.intro X5 (And.intro (row_below hR hb5) (And.intro (row_below hC hb5) (And.intro hx5 B5))))
      have HSOL := Lib.hid (And.intro hsol (And.intro hne hNN2))
      have c0 : W5.cell? ⟨q, 0, none⟩ = some (.slice (some ⟨gX, 0, none⟩) k k) := by simp [World.cell?, hx5]
      have nXq : gX ≠ q := by omega
      have nRq : gR ≠ q := by omega
      have nCq : gC ≠ q := by omega
      have kXR := hne.2.2.2.1
      have kXC := hne.2.2.2.2.1
      have hDX : D ≤ gX := by omega
      have hDR : D ≤ gR := by omega
      have hDC : D ≤ gC := by omega
      have hDq : D ≤ q := by omega
      have HNN := Lib.hid hNN
      clear hX hR hC hne hsol hb4 hb5 hx5 X5 B5 hNN hNN2
      rw [HNN.out]
      go_wp2_with fail
      try rw [hW5]
      go_loopw [44] (fun i wr => ∃ t : Nat, t ≤ k ∧ i = .int .i64 (t : Int) ∧ IR wr gX k (paX n col t) ∧ IR wr gR k r ∧ IR wr gC NN c ∧ wr.heap[q]? = some (.cells #[.slice (some ⟨gX, 0, none⟩) k k, .int .i64 tot, .slice (some ⟨gR, 0, none⟩) k k, .slice (some ⟨gC, 0, none⟩) NN NN] 29) ∧ Below D w1 wr) (fun i _ => k - (intOf i).toNat)
      case atStart => exact ⟨0, Nat.zero_le _, rfl, row_congr H5.out.1 (fun i _ => (paX_zero n col i).symm), H5.out.2⟩
      case round =>
        obtain ⟨t, ht, rfl, hX, hR, hC, hqx, hb⟩ := hrel
        clear c0
        by_cases htk : t < k
        · have hti : (t : Int) < (k : Int) := by omega
          have q1 := wrap_in (q := (t : Int) + 1) (by omega) (by omega)
          have xt := hX.cell htk
          have xf := hX.frozen t
          rw [paX_self] at xt
          have c0 : wr.cell? ⟨q, 0, none⟩ = some (.slice (some ⟨gX, 0, none⟩) k k) := by simp [World.cell?, hqx]
          have WD := Lib.hid (W0.out wr (HB.out.1.trans (hb.mono (by omega))))
          have HE := Lib.hid (And.intro hX (And.intro hR (And.intro hC (And.intro hqx hb))))
          clear hX hR hC hqx hb
          by_cases hge : (n : Int) ≤ col t
          · have U := Lib.hid (fun i => paX_yes (n := n) (col := col) hge i)
            have hgb : decide ((n : Int) ≤ col t) = true := decide_eq_true hge
            go_wp2_with fail
            refine WD.out.mono ?_
            rintro e w' ⟨rfl, rfl⟩
            go_wp2_with fail
            go_roundw
            case rel =>
              have h := HE.out
              exact ⟨t + 1, htk, rfl, row_congr (row_set h.1 (-1)) (fun i _ => (U.out i).symm), h.2.1.setOther (a := ⟨gX, t, none⟩) (Ne.symm kXR) _, h.2.2.1.setOther (a := ⟨gX, t, none⟩) (Ne.symm kXC) _, (Below.heap_setCell _ _ _ _ (show q ≠ gX from Ne.symm nXq)).trans h.2.2.2.1, h.2.2.2.2.setCell (p := ⟨gX, t, none⟩) hDX _⟩
            case measure => simp [intOf]; omega
          · have U := Lib.hid (fun i => paX_no (n := n) (col := col) hge i)
            have hgb : decide ((n : Int) ≤ col t) = false := decide_eq_false hge
            go_wp2_with fail
            refine WD.out.mono ?_
            rintro e w' ⟨rfl, rfl⟩
            go_wp2_with fail
            go_roundw
            case rel =>
              have h := HE.out
              exact ⟨t + 1, htk, rfl, row_congr h.1 (fun i _ => (U.out i).symm), h.2⟩
            case measure => simp [intOf]; omega
        · obtain rfl : t = k := by omega
          have hti : ¬ (t : Int) < (t : Int) := by omega
          have zq := (Array.getElem?_eq_some_iff.1 hqx).1
          have zC' := hC.lt
          have c3 : wr.cell? ⟨q, 3, none⟩ = some (.slice (some ⟨gC, 0, none⟩) NN NN) := by simp [World.cell?, hqx]
          have f3 : ∀ o, wr.frozen? ⟨q, o, none⟩ = false := fun o => by simp [World.frozen?, hqx]
          have hzr := hb.size
          have HE := Lib.hid (And.intro hX (And.intro hR (And.intro hC (And.intro hqx (And.intro hb (And.intro c3 f3))))))
          clear hX hR hC hqx hb c3 f3
          have hnNN : n ≤ NN := by have h1 := HSOL.out.2.2; have h2 := H0N.out; rw [← h1]; split <;> omega
          have hNNb : NN ≤ 1000 := by have h1 := HSOL.out.2.2; have h2 := HO12.out; rw [← h1]; split <;> omega
          go_wp2_with fail
          refine wp_region_slots_at rfl rfl (fun base ys => ((((((base.set 58 (ys 0)).set 59 (ys 1)).set 60 (ys 2)).set 61 (ys 3)).set 62 (ys 4)).set 63 (ys 5)).set 64 (ys 6)) (LastY _ (Below wr.heap.size wr) (poI wr.heap.size t n NN q gC A cm c) (poFin wr n q c)) (fun _ => undef) (by kernel_rfl) (y_start (by decide) (Below.refl wr.heap.size wr).drew) ?h
          case h =>
            intro F hF
            simp only [List.set_cons_succ, List.set_cons_zero] at hF
            subst hF
            refine ⟨rfl, ?_, ?_⟩
            refine ⟨?_, ?_⟩
            · refine SlotStep.yB (by kernel_rfl) rfl (by decide) (fun A B hb h => h.trans (hb.mono h.size)) (poI_up wr.heap.size t n NN q gC A cm c) ?_
              intro ys W hR hd K hK
              go_simp
              have hK2 := hK (.pointer (some ⟨q, 3, none⟩)) _ (Below.refl _ _) (rfl)
              simp (config := { decide := true }) only [upd, if_true, if_false] at hK2
              exact hK2
            refine ⟨?_, ?_⟩
            · refine SlotStep.yB (by kernel_rfl) rfl (by decide) (fun A B hb h => h.trans (hb.mono h.size)) (poI_up wr.heap.size t n NN q gC A cm c) ?_
              intro ys W hR hd K hK
              have d0 : ys 0 = .pointer (some ⟨q, 3, none⟩) := hd 0 (by kernel_rfl) (by decide)
              have x1 := (hR.cell (p := ⟨q, 3, none⟩) zq).trans HE.out.2.2.2.2.2.1
              go_simp
              have hK2 := hK (.slice (some ⟨gC, 0, none⟩) NN NN) _ (Below.refl _ _) (rfl)
              simp (config := { decide := true }) only [upd, if_true, if_false, d0] at hK2
              exact hK2
            refine ⟨?_, ?_⟩
            · refine SlotStep.yB (by kernel_rfl) rfl (by decide) (fun A B hb h => h.trans (hb.mono h.size)) (poI_up wr.heap.size t n NN q gC A cm c) ?_
              intro ys W hR hd K hK
              go_simp
              have hK2 := hK (.slice A t cm) _ (Below.refl _ _) (rfl)
              simp (config := { decide := true }) only [upd, if_true, if_false] at hK2
              exact hK2
            refine ⟨?_, ?_⟩
            · refine SlotStep.yB (by kernel_rfl) rfl (by decide) (fun A B hb h => h.trans (hb.mono h.size)) (poI_up wr.heap.size t n NN q gC A cm c) ?_
              intro ys W hR hd K hK
              have d2 : ys 2 = .slice A t cm := hd 2 (by kernel_rfl) (by decide)
              go_simp
              refine (W0.out W ((HB.out.1.trans (HE.out.2.2.2.2.1.mono (by omega))).trans (hR.mono (by omega)))).mono ?_
              rintro e w5 ⟨rfl, rfl⟩
              have hK2 := hK (.int .i64 (n : Int)) _ (Below.refl _ _) (rfl)
              simp (config := { decide := true }) only [upd, if_true, if_false, d2] at hK2
              exact hK2
            refine ⟨?_, ?_⟩
            · refine SlotStep.yB (by kernel_rfl) rfl (by decide) (fun A B hb h => h.trans (hb.mono h.size)) (poI_up wr.heap.size t n NN q gC A cm c) ?_
              intro ys W hR hd K hK
              have d1 : ys 1 = .slice (some ⟨gC, 0, none⟩) NN NN := hd 1 (by kernel_rfl) (by decide)
              have d3 : ys 3 = .int .i64 (n : Int) := hd 3 (by kernel_rfl) (by decide)
              have hb1 : (0 : Int) ≤ (n : Int) := by omega
              have hb2 : (n : Int) ≤ (NN : Int) := by omega
              go_simp
              have hK2 := hK (.slice (some ⟨gC, 0, none⟩) n NN) _ (Below.refl _ _) (rfl)
              simp (config := { decide := true }) only [upd, if_true, if_false, d1, d3] at hK2
              exact hK2
            refine ⟨?_, ?_⟩
            · refine SlotStep.yB (by kernel_rfl) rfl (by decide) (fun A B hb h => h.trans (hb.mono h.size)) (poI_up wr.heap.size t n NN q gC A cm c) ?_
              intro ys W hR hd K hK
              have d4 : ys 4 = .slice (some ⟨gC, 0, none⟩) n NN := hd 4 (by kernel_rfl) (by decide)
              have hC' := row_below HE.out.2.2.1 hR
              go_simp
              refine (Try.slices_Clone_int gC 0 n NN ((List.range NN).map c) W (by simp; exact hnNN) (by omega) (fun j hj => by simp at hj; rw [Nat.zero_add]; have := hC'.cell hj; rw [this]; simp [hj])).mono ?_
              rintro e w5 ⟨v5, rfl, ho5, hv5, hb5⟩
              have e5 : (((List.range NN).map c).take n).map (Value.int .i64) = (List.range n).map fun k => .int .i64 (c k) := by rw [← List.map_take, List.take_range, Nat.min_eq_left hnNN, List.map_map]; rfl
              rw [e5] at ho5
              have hK2 := hK (v5) _ (hb5) (⟨own_mono ho5 hR.size, slice_ownM ho5⟩)
              simp (config := { decide := true }) only [upd, if_true, if_false, d4] at hK2
              exact hK2
            refine ⟨?_, ?_⟩
            · refine SlotStep.yB (by kernel_rfl) rfl (by decide) (fun A B hb h => h.trans (hb.mono h.size)) (poI_up wr.heap.size t n NN q gC A cm c) ?_
              intro ys W hR hd K hK
              go_simp
              have hK2 := hK (.pointer (some ⟨q, 3, none⟩)) _ (Below.refl _ _) (rfl)
              simp (config := { decide := true }) only [upd, if_true, if_false] at hK2
              exact hK2
            refine ⟨?_, ?_⟩
            · refine SlotStep.yS (by kernel_rfl) rfl rfl ?_
              intro ys W hR hd K hK
              obtain ⟨h5, a5, c5, d5⟩ : poI wr.heap.size t n NN q gC A cm c 5 (ys 5) W := hd 5 (by decide)
              have d6 : ys 6 = .pointer (some ⟨q, 3, none⟩) := hd 6 (by decide)
              have x3 := (hR.cell (p := ⟨q, 3, none⟩) zq).trans HE.out.2.2.2.2.2.1
              have y3 := (hR.frozen (p := ⟨q, 3, none⟩) zq).trans (HE.out.2.2.2.2.2.2 3)
              rw [d5] at h5
              go_simp
              have hK2 := hK undef _ (fun ys' _ => ⟨.slice a5 n c5, W, rfl, hR, h5, ⟨_, _, rfl⟩⟩)
              simp (config := { decide := true }) only [upd, if_false, d5, d6] at hK2
              exact hK2
            trivial
            · intro L' ys' W7 hL hI
              obtain ⟨v8, W8, rfl, hb8, ho8, pa, pc, rfl⟩ := y_end (by decide) hL hI
              go_simp
              have h := HE.out
              have hq8 := (hb8.block q zq).trans h.2.2.2.1
              have hr0 := ((hb8.block w.heap.size (by omega)).trans (h.2.2.2.2.1.block w.heap.size (by omega))).trans HB.out.2
              have n0 : q ≠ w.heap.size := by omega
              have p0 : W8.cell? ⟨q, 0, none⟩ = some (.slice (some ⟨gX, 0, none⟩) t t) := by simp [World.cell?, hq8]
              have p1 : W8.cell? ⟨q, 1, none⟩ = some (.int .i64 tot) := by simp [World.cell?, hq8]
              have p2 : W8.cell? ⟨q, 2, none⟩ = some (.slice (some ⟨gR, 0, none⟩) t t) := by simp [World.cell?, hq8]
              have p3 : W8.cell? ⟨q, 3, none⟩ = some (.slice (some ⟨gC, 0, none⟩) NN NN) := by simp [World.cell?, hq8]
              have r0 : W8.cell? ⟨w.heap.size, 0, none⟩ = some (.slice none 0 0) := by simp [World.cell?, hr0]
              have r1 : W8.cell? ⟨w.heap.size, 1, none⟩ = some (.int .i64 0) := by simp [World.cell?, hr0]
              have r2 : W8.cell? ⟨w.heap.size, 2, none⟩ = some (.slice none 0 0) := by simp [World.cell?, hr0]
              have r3 : W8.cell? ⟨w.heap.size, 3, none⟩ = some (.slice none 0 0) := by simp [World.cell?, hr0]
              have rf : ∀ o, W8.frozen? ⟨w.heap.size, o, none⟩ = false := fun o => by simp [World.frozen?, hr0]
              have hq9 : (W8.setCell ⟨q, 3, none⟩ (.slice pa n pc)).heap[q]? = some (.cells #[.slice (some ⟨gX, 0, none⟩) t t, .int .i64 tot, .slice (some ⟨gR, 0, none⟩) t t, .slice pa n pc] 29) := by simp [World.setCell, Array.getElem?_modify, hq8]
              have o9 : (W8.setCell ⟨q, 3, none⟩ (.slice pa n pc)).ownsRow wr.heap.size 3 1 (.slice pa n pc) n ((List.range n).map fun k => .int .i64 (c k)) := ownsRow_setCell_below ho8 zq _
              have X9 := (row_below h.1 hb8).setOther (a := ⟨q, 3, none⟩) nXq (.slice pa n pc)
              have R9 := (row_below h.2.1 hb8).setOther (a := ⟨q, 3, none⟩) nRq (.slice pa n pc)
              have B9 : Below D w1 (W8.setCell ⟨q, 3, none⟩ (.slice pa n pc)) := (h.2.2.2.2.1.trans (hb8.mono (by omega))).setCell (p := ⟨q, 3, none⟩) hDq _
              obtain ⟨W9, hW9⟩ : ∃ W9, W8.setCell ⟨q, 3, none⟩ (.slice pa n pc) = W9 := ⟨_, rfl⟩
              rw [hW9] at hq9 o9 X9 R9 B9
              have s0 : W9.cell? ⟨q, 0, none⟩ = some (.slice (some ⟨gX, 0, none⟩) t t) := by simp [World.cell?, hq9]
              have s1 : W9.cell? ⟨q, 1, none⟩ = some (.int .i64 tot) := by simp [World.cell?, hq9]
              have s2 : W9.cell? ⟨q, 2, none⟩ = some (.slice (some ⟨gR, 0, none⟩) t t) := by simp [World.cell?, hq9]
              have s3 : W9.cell? ⟨q, 3, none⟩ = some (.slice pa n pc) := by simp [World.cell?, hq9]
              have t0 : W9.heap[w.heap.size]? = some (.cells #[.slice none 0 0, .int .i64 0, .slice none 0 0, .slice none 0 0] 29) := by rw [← hW9]; exact (Below.heap_setCell _ _ _ _ (Ne.symm n0)).trans hr0
              have u0 : W9.cell? ⟨w.heap.size, 0, none⟩ = some (.slice none 0 0) := by simp [World.cell?, t0]
              have u1 : W9.cell? ⟨w.heap.size, 1, none⟩ = some (.int .i64 0) := by simp [World.cell?, t0]
              have u2 : W9.cell? ⟨w.heap.size, 2, none⟩ = some (.slice none 0 0) := by simp [World.cell?, t0]
              have u3 : W9.cell? ⟨w.heap.size, 3, none⟩ = some (.slice none 0 0) := by simp [World.cell?, t0]
              have uf : ∀ o, W9.frozen? ⟨w.heap.size, o, none⟩ = false := fun o => by simp [World.frozen?, t0]
              have HF := Lib.hid (And.intro o9 (And.intro X9 (And.intro R9 B9)))
              have hX9 : gX ≠ w.heap.size := by omega
              have hR9 : gR ≠ w.heap.size := by omega
              clear h hq8 hr0 p0 p1 p2 p3 r0 r1 r2 r3 rf hq9 o9 X9 R9 B9 t0 ho8 hb8 hI
              go_wp2_with fail
              have hw9 : Below w.heap.size w W9 := HB.out.1.trans (HF.out.2.2.2.mono (by omega))
              refine bodyPost_ret (v := .tuple #[.agg #[.slice (some ⟨gX, 0, none⟩) t t, .int .i64 tot, .slice (some ⟨gR, 0, none⟩) t t, .slice pa n pc], .int .i64 0]) (by simp [results, Try.results22, go_sem, u0, u1, u2, u3]) rfl ⟨⟨_, rfl, gX, gR, pa, pc, paX n col t, r, c, tot, rfl, ?_, ?_, ?_, ⟨by omega, by omega, kXR⟩, ?_⟩, ?_⟩
              · exact (((HF.out.2.1.setOther (a := ⟨w.heap.size, 0, none⟩) hX9 _).setOther (a := ⟨w.heap.size, 1, none⟩) hX9 _).setOther (a := ⟨w.heap.size, 2, none⟩) hX9 _).setOther (a := ⟨w.heap.size, 3, none⟩) hX9 _
              · exact (((HF.out.2.2.1.setOther (a := ⟨w.heap.size, 0, none⟩) hR9 _).setOther (a := ⟨w.heap.size, 1, none⟩) hR9 _).setOther (a := ⟨w.heap.size, 2, none⟩) hR9 _).setOther (a := ⟨w.heap.size, 3, none⟩) hR9 _
              · exact own_mono (ownsRow_setCell_below (ownsRow_setCell_below (ownsRow_setCell_below (ownsRow_setCell_below HF.out.1 (show w.heap.size < wr.heap.size by omega) _) (show w.heap.size < wr.heap.size by omega) _) (show w.heap.size < wr.heap.size by omega) _) (show w.heap.size < wr.heap.size by omega) _) (by omega)
              · have hp := Mt.psol (cost := f) (skip := skip) HSOL.out.2.2.symm H0N.out HSOL.out.1 (fun i hi l hl => rfl)
                exact psol_congr hp (fun i hi => by rw [paX_all n col hi])
              · exact (((hw9.setCell (p := ⟨w.heap.size, 0, none⟩) (Nat.le_refl _) _).setCell (p := ⟨w.heap.size, 1, none⟩) (Nat.le_refl _) _).setCell (p := ⟨w.heap.size, 2, none⟩) (Nat.le_refl _) _).setCell (p := ⟨w.heap.size, 3, none⟩) (Nat.le_refl _) _
end Go.Proofs.Ytojgfpnecdngfaa
