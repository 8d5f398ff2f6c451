/- Plain arithmetic of written integers: what a text with a sign and blanks writes; no program is named here. -/
import Derived.Test.YtnchodofgaaeeaaGreatDoorImB
namespace Go.Proofs.YtnchodofgaaeeaaGreatDoor.Im
open Go

/-- Digits, with at most one blank between each two; b: a digit stands before. -/
def gr : Bool → List UInt8 → Bool
  | b, [] => b
  | b, c :: r => if isD c = true then gr true r else if c = 32 ∧ b = true then gr false r else false
/-- The text without its sign. -/
def uns (l : List UInt8) : List UInt8 := if l.head? = some 45 ∨ l.head? = some 43 then l.tail else l
def noB (l : List UInt8) : List UInt8 := l.filter (fun c => c != 32)
def noZ (l : List UInt8) : List UInt8 := l.dropWhile (fun c => c == 48)
def prsL (l : List UInt8) : List UInt8 :=
  if l = [] then [] else if gr false (uns l) = false then [] else
  if 400 < (noZ (noB (uns l))).length then [] else
  if noZ (noB (uns l)) = [] then [48] else
  if l.head? = some 45 then 45 :: noZ (noB (uns l)) else noZ (noB (uns l))
def prsE (l : List UInt8) : Int :=
  if l = [] then 13 else if gr false (uns l) = false then 15 else
  if 400 < (noZ (noB (uns l))).length then 16 else 0

/-- The other way to read: a blank is passed over where its neighbours are there and no blanks. -/
def sk (p : Option UInt8) (c : UInt8) (r : List UInt8) : Bool := c == 32 && p.isSome && p != some 32 && !r.isEmpty && r.head? != some 32
def rf : Option UInt8 → List UInt8 → Bool
  | _, [] => true
  | p, c :: r => if sk p c r = true then rf (some c) r else if isD c = true then rf (some c) r else false
theorem not_blank {c : UInt8} (h : isD c = true) : c ≠ 32 := fun e => by subst e; exact absurd h (by decide)
theorem rf_yes {p : Option UInt8} {c : UInt8} {r : List UInt8} (h : sk p c r = true) : rf p (c :: r) = rf (some c) r := by
  show (if sk p c r = true then rf (some c) r else if isD c = true then rf (some c) r else false) = _
  rw [if_pos h]
theorem rf_no {p : Option UInt8} {c : UInt8} {r : List UInt8} (h : sk p c r = false) : rf p (c :: r) = if isD c = true then rf (some c) r else false := by
  show (if sk p c r = true then rf (some c) r else if isD c = true then rf (some c) r else false) = _
  rw [if_neg (by rw [h]; simp)]
theorem gr_d {b : Bool} {c : UInt8} {r : List UInt8} (h : isD c = true) : gr b (c :: r) = gr true r := by
  show (if isD c = true then gr true r else if c = 32 ∧ b = true then gr false r else false) = _
  rw [if_pos h]
theorem gr_o {b : Bool} {c : UInt8} {r : List UInt8} (h : ¬ isD c = true) : gr b (c :: r) = if c = 32 ∧ b = true then gr false r else false := by
  show (if isD c = true then gr true r else if c = 32 ∧ b = true then gr false r else false) = _
  rw [if_neg h]
theorem sk_no {p : Option UInt8} {c : UInt8} {r : List UInt8} (h : c ≠ 32) : sk p c r = false := by simp [sk, h]
theorem rf_gr : ∀ (l : List UInt8),
    (∀ d, isD d = true → rf (some d) l = gr true l) ∧ (l ≠ [] → l.head? ≠ some 32 → rf (some 32) l = gr false l)
  | [] => ⟨fun _ _ => rfl, fun h => absurd rfl h⟩
  | c :: r => by
    obtain ⟨ih1, ih2⟩ := rf_gr r
    refine ⟨fun d hd => ?_, fun _ hh => ?_⟩
    · by_cases hc : isD c = true
      · rw [rf_no (sk_no (not_blank hc)), if_pos hc, gr_d hc, ih1 c hc]
      · rw [gr_o hc]
        by_cases h32 : c = 32
        · subst h32
          rw [if_pos (And.intro rfl rfl)]
          have hd2 := not_blank hd
          cases r with
          | nil => rw [rf_no (by simp [sk]), if_neg hc]; rfl
          | cons x t =>
            by_cases hx : x = 32
            · subst hx
              rw [rf_no (by simp [sk]), if_neg hc, gr_o hc, if_neg (by simp)]
            · rw [rf_yes (by simp [sk, hd2, hx]), ih2 (by simp) (by simpa using hx)]
        · rw [rf_no (sk_no h32), if_neg hc, if_neg (by simp [h32])]
    · have h32 : c ≠ 32 := by simpa using hh
      rw [rf_no (sk_no h32)]
      by_cases hc : isD c = true
      · rw [if_pos hc, gr_d hc, ih1 c hc]
      · rw [if_neg hc, gr_o hc, if_neg (by simp [h32])]
theorem rf_none (l : List UInt8) : (rf none l && !(noB l).isEmpty) = gr false l := by
  cases l with
  | nil => rfl
  | cons c r =>
    rw [rf_no (by simp [sk])]
    by_cases hc : isD c = true
    · rw [if_pos hc, gr_d hc, (rf_gr r).1 c hc]
      have := not_blank hc
      simp [noB, this]
    · rw [if_neg hc, gr_o hc, if_neg (by simp), Bool.false_and]
theorem gr_digits : ∀ (l : List UInt8) (b : Bool), gr b l = true → (noB l).all isD = true
  | [], _, _ => rfl
  | c :: r, b, h => by
    unfold gr at h
    by_cases hc : isD c = true
    · rw [if_pos hc] at h
      have := gr_digits r true h
      have h2 := not_blank hc
      simp only [noB, List.filter_cons, bne_iff_ne, ne_eq, h2, not_false_eq_true, if_true, List.all_cons, hc, Bool.true_and]
      exact this
    · rw [if_neg hc] at h
      by_cases h3 : c = 32 ∧ b = true
      · rw [if_pos h3] at h
        have := gr_digits r false h
        obtain ⟨rfl, _⟩ := h3
        simpa [noB] using this
      · rw [if_neg h3] at h; cases h
/-- A canonical integer is read as it is. -/
theorem all_gr : ∀ (l : List UInt8) (b : Bool), l.all isD = true → gr b l = (b || !l.isEmpty)
  | [], b, _ => by simp [gr]
  | c :: r, b, h => by
    obtain ⟨h1, h2⟩ : isD c = true ∧ r.all isD = true := by simpa using h
    unfold gr
    rw [if_pos h1, all_gr r true h2]
    simp
theorem all_noB {l : List UInt8} (h : l.all isD = true) : noB l = l := by
  unfold noB
  rw [List.filter_eq_self]
  intro c hc
  have := not_blank (List.all_eq_true.1 h c hc)
  simpa using this
theorem prs_canon {l : List UInt8} (h : canonI l = true) (hl : (dgs l).length ≤ 400) : prsL l = l ∧ prsE l = 0 := by
  obtain ⟨h1, h2⟩ := canonI_canon h
  obtain ⟨h3, h4, h5⟩ := canonL_iff.1 h1
  have hne : l ≠ [] := fun e => by subst e; exact absurd h (by decide)
  have hu : uns l = dgs l := by
    unfold uns dgs
    by_cases hm : l.head? = some 45
    · rw [if_pos (.inl hm), if_pos hm]
    · rw [if_neg hm]
      by_cases hp : l.head? = some 43
      · exfalso
        have e : dgs l = l := by unfold dgs; rw [if_neg hm]
        rw [e] at h4
        cases l with
        | nil => exact hne rfl
        | cons c r =>
          simp at hp
          subst hp
          simp [isD] at h4
      · rw [if_neg (by simp [hm, hp])]
  have hg : gr false (uns l) = true := by
    rw [hu, all_gr _ _ h4]
    cases hd : dgs l with
    | nil => exact absurd hd h3
    | cons _ _ => rfl
  have hn : noZ (noB (uns l)) = if dgs l = [48] then [] else dgs l := by
    rw [hu, all_noB h4]
    unfold noZ
    by_cases e : dgs l = [48]
    · rw [if_pos e, e]; rfl
    · rw [if_neg e]
      cases hd : dgs l with
      | nil => exact absurd hd h3
      | cons c r =>
        have hc : c ≠ 48 := by
          rcases h5 with h5 | h5
          · rw [hd] at h5; simpa using h5
          · exact absurd h5 e
        rw [List.dropWhile_cons, if_neg (by simpa using hc)]
  have hl2 : ¬ 400 < (noZ (noB (uns l))).length := by
    rw [hn]
    split
    · simp
    · omega
  refine ⟨?_, by unfold prsE; rw [if_neg hne, if_neg (by rw [hg]; simp), if_neg hl2]⟩
  unfold prsL
  rw [if_neg hne, if_neg (by rw [hg]; simp), if_neg hl2, hn]
  by_cases e : dgs l = [48]
  · rw [if_pos e, if_pos rfl]
    unfold dgs at e
    by_cases hm : l.head? = some 45
    · rw [if_pos hm] at e
      exact absurd (by rw [e]; rfl) (h2 hm)
    · rw [if_neg hm] at e
      exact e.symm
  · rw [if_neg e, if_neg h3]
    unfold dgs
    by_cases hm : l.head? = some 45
    · rw [if_pos hm, if_pos hm]
      cases l with
      | nil => exact absurd rfl hne
      | cons c r => simp at hm; subst hm; rfl
    · rw [if_neg hm, if_neg hm]
end Go.Proofs.YtnchodofgaaeeaaGreatDoor.Im
