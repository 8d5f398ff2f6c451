/- Note: every text. -/
import Derived.Test.YtibdnfcbgcbdeaaDoorNsW
namespace Go.Proofs.YtibdnfcbgcbdeaaDoor
open Go Go.RowKit Go.Shelf

def llen (s : ByteArray) : Nat := if s.size < 2 then s.size else if s.data[1]? = some 35 then 2 else 1
theorem llen_le (s : ByteArray) : llen s ≤ s.size := by unfold llen; split; omega; split <;> omega

theorem bytes_nil {s : ByteArray} (h : s.size = 0) : s = ⟨#[]⟩ := by
  cases s with | mk a => exact congrArg ByteArray.mk (Array.eq_empty_of_size_eq_zero h)
theorem bytes_one {s : ByteArray} (h : s.size = 1) : ∃ a, s = ⟨#[a]⟩ := by
  cases s with | mk d =>
    obtain ⟨a, ha⟩ := Array.size_eq_one_iff.1 (show d.size = 1 from h)
    exact ⟨a, congrArg ByteArray.mk ha⟩

theorem letterLength_any (s : ByteArray) (hmax : s.size ≤ 9223372036854775807) (w : World) : Calls Tryd.prog 45 #[.string s] w fun e w' => e = .returned (.int .i64 (llen s)) ∧ w = w' := by
  by_cases h0 : s.size = 0
  · obtain rfl := bytes_nil h0
    exact letterLength_nil w
  · by_cases h1 : s.size = 1
    · obtain ⟨a, rfl⟩ := bytes_one h1
      exact letterLength_one a w
    · have h2 : 2 ≤ s.size := by omega
      have h := letterLength_two s (s[1]'(by omega)) h2 hmax rfl w
      have e : (llen s : Int) = (if s[1]'(by omega) = 35 then 2 else 1) := by
        unfold llen
        rw [if_neg (by omega)]
        have : s.data[1]? = some (s[1]'(by omega)) := Array.getElem?_eq_getElem _
        rw [this]
        by_cases hb : s[1]'(by omega) = 35
        · rw [if_pos hb, if_pos (by rw [hb])]; rfl
        · rw [if_neg hb, if_neg (by simpa using hb)]; rfl
      rw [e]
      exact h

theorem octaveOf_any (r : ByteArray) (hmax : r.size ≤ 9223372036854775807) : (∃ q, q ≤ 10 ∧ r = ⟨(octave q).toArray⟩) ∨
    ((∀ q, q ≤ 10 → r ≠ ⟨(octave q).toArray⟩) ∧ ∀ w : World, Calls Tryd.prog 46 #[.string r] w fun e w' => e = .returned (.tuple #[.int .i64 0, .bool false]) ∧ w = w') := by
  have e : ∀ q, q ≤ 10 → (⟨(octave q).toArray⟩ : ByteArray) = if q = 0 then ⟨#[45, 49]⟩ else ⟨#[(47 + q).toUInt8]⟩ := by decide +kernel
  by_cases h0 : r = ⟨#[45, 49]⟩
  · exact .inl ⟨0, by omega, by rw [h0]; rfl⟩
  · by_cases h1 : r.size = 1
    · obtain ⟨c, rfl⟩ := bytes_one h1
      by_cases hc : c.toNat < 48 ∨ 57 < c.toNat
      · refine .inr ⟨fun q hq h => ?_, octaveOf_byte c hc⟩
        rw [e q hq] at h
        split at h
        · exact h0 h
        · have : c = (47 + q).toUInt8 := by injection h with h; injection h with h; injection h
          rw [this] at hc
          have : ((47 + q).toUInt8).toNat = 47 + q := by simp; omega
          omega
      · refine .inl ⟨c.toNat - 47, by omega, ?_⟩
        rw [e _ (by omega), if_neg (by omega)]
        congr 2
        rw [show 47 + (c.toNat - 47) = c.toNat by omega]
        simp
    · refine .inr ⟨fun q hq h => ?_, octaveOf_long r h0 h1 hmax⟩
      rw [e q hq] at h
      split at h
      · exact h0 h
      · exact h1 (by rw [h]; rfl)

theorem name_parts : ∀ n, n < 128 → (nameOf n).extract 0 (llen (nameOf n)) = letterOf (n % 12) ∧ (nameOf n).extract (llen (nameOf n)) (nameOf n).size = ⟨(octave (n / 12)).toArray⟩ := by decide +kernel

theorem note_any (s : ByteArray) (hmax : s.size ≤ 9223372036854775807) : (∃ n, n < 128 ∧ s = nameOf n ∧ ∀ w : World, Gl w → Calls Tryd.prog 15 #[.string s] w fun e w' => e = .returned (.tuple #[.int .i64 n, .int .i64 0]) ∧ w = w') ∨
    ((∀ n, n < 128 → nameOf n ≠ s) ∧ ∀ w : World, Gl w → Calls Tryd.prog 15 #[.string s] w fun e w' => e = .returned (.tuple #[.int .i64 0, .int .i64 8]) ∧ w = w') := by
  have hle := llen_le s
  obtain ⟨L, hL⟩ : ∃ L, s.extract 0 (llen s) = L := ⟨_, rfl⟩
  have hLs : L.size = llen s := by rw [← hL, ByteArray.size_extract]; omega
  obtain ⟨R, hR⟩ : ∃ R, s.extract (llen s) s.size = R := ⟨_, rfl⟩
  have hRs : R.size ≤ s.size := by rw [← hR, ByteArray.size_extract]; omega
  have hA : ∀ W : World, Calls Tryd.prog 45 #[.string s] W fun e w' => e = .returned (.int .i64 L.size) ∧ W = w' := fun W => by rw [hLs]; exact letterLength_any s hmax W
  rw [← hLs] at hL hR hle
  have hparts : ∀ n, n < 128 → nameOf n = s → letterOf (n % 12) = L ∧ R = ⟨(octave (n / 12)).toArray⟩ := fun n hn h => by
    obtain ⟨h1, h2⟩ := name_parts n hn
    rw [h, ← hLs] at h1 h2
    exact ⟨h1.symm.trans hL, hR.symm.trans h2⟩
  rcases octaveOf_any R (by omega) with ⟨q, hq, hRq⟩ | ⟨hno, hB⟩
  · by_cases hk : ∃ k, k < 12 ∧ letterOf k = L ∧ q * 12 + k ≤ 127
    · obtain ⟨k, hk, hkL, hqk⟩ := hk
      subst hkL
      have hs : s = nameOf (q * 12 + k) := by
        unfold nameOf
        rw [show (q * 12 + k) % 12 = k by omega, show (q * 12 + k) / 12 = q by omega, ← hRq, ← hR]
        conv => lhs; rw [← ByteArray.extract_zero_size (b := s)]
        conv => rhs; lhs; rw [← hL]
        rw [ByteArray.extract_append_extract]
        simp
      exact .inl ⟨q * 12 + k, by omega, hs, fun w G => note_hit s R q k hk hmax hle hL hR hq hqk hA (fun W => by rw [hRq]; exact octaveOf_q q hq W) w G⟩
    · refine .inr ⟨fun n hn h => hk ?_, fun w G => note_miss s L R q true hmax hle hL hR hq hA (fun W => by rw [hRq]; exact octaveOf_q q hq W) (fun k hk12 => ?_) w G⟩
      · obtain ⟨h1, h2⟩ := hparts n hn h
        have hoct : ∀ a, a ≤ 10 → ∀ b, b ≤ 10 → (⟨(octave a).toArray⟩ : ByteArray) = ⟨(octave b).toArray⟩ → a = b := by decide +kernel
        have := hoct q hq (n / 12) (by omega) (hRq.symm.trans h2)
        exact ⟨n % 12, by omega, h1, by omega⟩
      · by_cases h1 : letterOf k = L
        · by_cases h2 : q * 12 + k ≤ 127
          · exact absurd ⟨k, hk12, h1, h2⟩ hk
          · exact .inr (.inr (by omega))
        · exact .inr (.inl h1)
  · refine .inr ⟨fun n hn h => hno (n / 12) (by omega) (hparts n hn h).2, fun w G => note_miss s L R 0 false hmax hle hL hR (by omega) hA hB (fun _ _ => .inl rfl) w G⟩
end Go.Proofs.YtibdnfcbgcbdeaaDoor
