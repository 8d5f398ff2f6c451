/- Parse: plain mathematics: the words of a text between blanks, and the set that words name. -/
import Derived.Test.YtibdnfcbgcbdeaaDoorNsX
import Derived.Shelf.Strings.Split
import Derived.Lib.IndexBytes
import Derived.Lib.Join
namespace Go.Proofs.YtibdnfcbgcbdeaaDoor
open Go Go.RowKit Go.Shelf

/-- What Parse returns, word after word. -/
def parseL : Nat → Nat → List ByteArray → Nat × Nat × Int
  | lo, hi, [] => (lo, hi, 0)
  | lo, hi, s :: r => if nameIndex s = 128 then (0, 0, 8) else if Ns.has lo hi (nameIndex s) = true then (0, 0, 9) else parseL (lo ||| Ns.sLo (nameIndex s)) (hi ||| Ns.sHi (nameIndex s)) r

theorem nameIndex_yes {n : Nat} (hn : n < 128) : nameIndex (nameOf n) = n := by
  have h1 : ∀ a, a < 128 → nameIndex (nameOf a) = a := by decide +kernel
  exact h1 n hn
theorem nameIndex_no {s : ByteArray} (h : ∀ n, n < 128 → nameOf n ≠ s) : nameIndex s = 128 := by
  unfold nameIndex
  rw [List.find?_eq_none.2 fun n hn => by have := h n (List.mem_range.1 hn); simpa using this]
  rfl

/-- The words between blanks; cur is what has been read of the first one. -/
def words : List UInt8 → List UInt8 → List (List UInt8)
  | cur, [] => [cur]
  | cur, c :: r => if c = 32 then cur :: words [] r else words (cur ++ [c]) r

theorem words_none : ∀ (l cur : List UInt8), (∀ k : Nat, l[k]? ≠ some 32) → words cur l = [cur ++ l]
  | [], cur, _ => by simp [words]
  | c :: r, cur, h => by
    have hc : c ≠ 32 := fun e => h 0 (by simp [e])
    rw [words, if_neg hc, words_none r _ (fun k => by have := h (k + 1); simpa using this)]
    simp
theorem words_some : ∀ (l cur : List UInt8) (o : Nat), l[o]? = some 32 → (∀ k, k < o → l[k]? ≠ some 32) → words cur l = (cur ++ l.take o) :: words [] (l.drop (o + 1))
  | [], cur, o, h, _ => by simp at h
  | c :: r, cur, 0, h, _ => by
    have hc : c = 32 := by simpa using h
    rw [words, if_pos hc]; simp
  | c :: r, cur, o + 1, h, hk => by
    have hc : c ≠ 32 := fun e => hk 0 (by omega) (by simp [e])
    rw [words, if_neg hc, words_some r _ o (by simpa using h) (fun k hko => by have := hk (k + 1) (by omega); simpa using this)]
    simp

theorem split_words : ∀ (n : Nat) (l : List UInt8), l.length ≤ n → Lib.splitK [32] 0 (Lib.count l [32]) l = words [] l := by
  intro n
  induction n with
  | zero =>
    intro l h
    obtain rfl : l = [] := List.length_eq_zero_iff.1 (by omega)
    rfl
  | succ n ih =>
    intro l h
    by_cases hi : Lib.indexByte l 32 = -1
    · have h0 : Lib.index l [32] = -1 := by rw [Lib.index_one]; exact hi
      rw [Lib.count_miss h0, words_none l [] (Lib.indexByte_none hi)]
      rfl
    · obtain ⟨o, ho⟩ : ∃ o : Nat, Lib.indexByte l 32 = o := ⟨(Lib.indexByte l 32).toNat, by have := Lib.indexByte_ge l 32; omega⟩
      have h0 : Lib.index l [32] = o := by rw [Lib.index_one]; exact ho
      obtain ⟨h1, h2⟩ := Lib.indexByte_some ho
      have hlt : o < l.length := (List.getElem?_eq_some_iff.1 h1).1
      rw [Lib.count_hit (by decide) h0, words_some l [] o h1 h2, Nat.add_comm 1, Lib.splitK, if_neg (by rw [h0]; simp), h0]
      simp only [Int.toNat_natCast, Nat.add_zero, List.length_singleton, List.nil_append]
      rw [ih (l.drop (o + 1)) (by simp; omega)]

/-- The words of a text, as texts. -/
def wordsB (s : ByteArray) : List ByteArray := (words [] s.data.toList).map fun l => ⟨l.toArray⟩
theorem splitB_words (s : ByteArray) : Lib.splitB ⟨#[32]⟩ 0 (Lib.countB s ⟨#[32]⟩) s = wordsB s := by
  have h := Lib.splitB_data ⟨#[32]⟩ 0 (Lib.countB s ⟨#[32]⟩) s
  have h2 : Lib.splitK [32] 0 (Lib.countB s ⟨#[32]⟩) s.data.toList = words [] s.data.toList := split_words _ _ (Nat.le_refl _)
  have h3 : (Lib.splitB ⟨#[32]⟩ 0 (Lib.countB s ⟨#[32]⟩) s).map (·.data.toList) = words [] s.data.toList := h.trans h2
  unfold wordsB
  rw [← h3, List.map_map]
  conv => lhs; rw [← List.map_id (Lib.splitB ⟨#[32]⟩ 0 (Lib.countB s ⟨#[32]⟩) s)]
  apply List.map_congr_left
  intro x _
  rfl
theorem wordsB_length (s : ByteArray) : (wordsB s).length = Lib.countB s ⟨#[32]⟩ + 1 := by
  rw [← splitB_words]
  exact Lib.splitB_all ⟨#[32]⟩ (by decide) 0 _ s rfl
theorem words_length (l cur : List UInt8) : (words cur l).length ≤ l.length + 1 := by
  induction l generalizing cur with
  | nil => simp [words]
  | cons c r ih =>
    unfold words
    split
    · have := ih []; simp; omega
    · have := ih (cur ++ [c]); simp; omega
theorem words_sizes (l cur : List UInt8) : ∀ y, y ∈ words cur l → y.length ≤ cur.length + l.length := by
  induction l generalizing cur with
  | nil => intro y hy; simp [words] at hy; subst hy; simp
  | cons c r ih =>
    intro y hy
    unfold words at hy
    split at hy
    · rcases List.mem_cons.1 hy with rfl | hy
      · simp
      · have := ih [] y hy; simp at this; simp; omega
    · have := ih _ y hy; simp at this; simp; omega
theorem wordsB_sizes (s : ByteArray) : ∀ y, y ∈ wordsB s → y.size ≤ s.size := by
  intro y hy
  unfold wordsB at hy
  obtain ⟨x, hx, rfl⟩ := List.mem_map.1 hy
  have h := words_sizes _ _ x hx
  rw [List.length_nil, Nat.zero_add, Array.length_toList] at h
  show x.toArray.size ≤ s.data.size
  rw [List.size_toArray]
  exact h

/-- Words joined by blanks come back. -/
theorem words_append : ∀ (a cur l : List UInt8), (∀ c, c ∈ a → c ≠ 32) → words cur (a ++ l) = words (cur ++ a) l
  | [], cur, l, _ => by simp
  | c :: r, cur, l, h => by
    rw [List.cons_append, words, if_neg (h c (List.mem_cons_self ..)), words_append r _ l (fun x hx => h x (List.mem_cons_of_mem _ hx))]
    simp
theorem words_joinTail : ∀ (r : List (List UInt8)) (cur : List UInt8), (∀ y, y ∈ r → ∀ c, c ∈ y → c ≠ 32) → words cur (Lib.joinTail [32] r) = cur :: r
  | [], cur, _ => by simp [Lib.joinTail, words]
  | y :: r, cur, h => by
    have e : Lib.joinTail [32] (y :: r) = 32 :: (y ++ Lib.joinTail [32] r) := by simp [Lib.joinTail]
    rw [e, words, if_pos rfl, words_append y [] _ (h y (List.mem_cons_self ..)), words_joinTail r _ (fun z hz => h z (List.mem_cons_of_mem _ hz))]
    simp
theorem words_join (y : List UInt8) (r : List (List UInt8)) (h : ∀ z, z ∈ y :: r → ∀ c, c ∈ z → c ≠ 32) : words [] (Lib.join (y :: r) [32]) = y :: r := by
  rw [Lib.join_cons, words_append y [] _ (h y (List.mem_cons_self ..)), words_joinTail r _ (fun z hz => h z (List.mem_cons_of_mem _ hz))]
  simp

theorem name_no_blank : ∀ n, n < 128 → ((nameOf n).data.toList.all fun c => c != 32) = true := by decide +kernel
theorem wordsB_text (lo hi : Nat) (h : Ns.notes lo hi ≠ []) : wordsB (textOf lo hi) = (Ns.notes lo hi).map nameOf := by
  have hb : ∀ z, z ∈ (Ns.notes lo hi).map (fun n => (nameOf n).data.toList) → ∀ c, c ∈ z → c ≠ 32 := fun z hz c hc => by
    obtain ⟨n, hn, rfl⟩ := List.mem_map.1 hz
    have := List.all_eq_true.1 (name_no_blank n (Ns.notes_lt hn)) c hc
    simpa using this
  unfold wordsB textOf
  cases hl : Ns.notes lo hi with
  | nil => exact absurd hl h
  | cons n r =>
    rw [hl] at hb
    simp only [List.map_cons] at hb ⊢
    rw [words_join _ _ hb]
    simp

theorem parse_notes : ∀ (l : List Nat) (lo hi : Nat), (∀ n, n ∈ l → n < 128 ∧ Ns.has lo hi n = false) → l.Nodup →
    parseL lo hi (l.map nameOf) = ((l.foldl (fun s n => (s.1 ||| Ns.sLo n, s.2 ||| Ns.sHi n)) (lo, hi)).1, (l.foldl (fun s n => (s.1 ||| Ns.sLo n, s.2 ||| Ns.sHi n)) (lo, hi)).2, 0)
  | [], lo, hi, _, _ => rfl
  | n :: r, lo, hi, h, hd => by
    obtain ⟨h1, h2⟩ := h n (List.mem_cons_self ..)
    rw [List.map_cons, parseL, nameIndex_yes h1, if_neg (by omega), if_neg (by rw [h2]; decide)]
    refine parse_notes r _ _ (fun m hm => ?_) (List.nodup_cons.1 hd).2
    obtain ⟨h3, h4⟩ := h m (List.mem_cons_of_mem _ hm)
    refine ⟨h3, ?_⟩
    rw [Ns.has_or, h4, Ns.has_single n m h1 h3]
    have : n ≠ m := fun e => (List.nodup_cons.1 hd).1 (e ▸ hm)
    simp [this]

theorem has_fold : ∀ (l : List Nat) (lo hi m : Nat), (∀ n, n ∈ l → n < 128) → m < 128 →
    Ns.has (l.foldl (fun s n => (s.1 ||| Ns.sLo n, s.2 ||| Ns.sHi n)) (lo, hi)).1 (l.foldl (fun s n => (s.1 ||| Ns.sLo n, s.2 ||| Ns.sHi n)) (lo, hi)).2 m = (Ns.has lo hi m || l.contains m)
  | [], lo, hi, m, _, _ => by simp
  | n :: r, lo, hi, m, h, hm => by
    rw [List.foldl_cons, has_fold r _ _ m (fun x hx => h x (List.mem_cons_of_mem _ hx)) hm, Ns.has_or, Ns.has_single n m (h n (List.mem_cons_self ..)) hm, List.contains_cons]
    by_cases e : n = m
    · subst e; cases Ns.has lo hi n <;> simp
    · have e2 : (m == n) = false := by rw [beq_eq_false_iff_ne]; exact fun h => e h.symm
      rw [e2, decide_eq_false e]
      simp

theorem notes_nodup (lo hi : Nat) : (Ns.notes lo hi).Nodup := by unfold Ns.notes; exact List.Pairwise.filter _ (show (List.range' 0 128).Nodup from by decide +kernel)
theorem parse_text (lo hi : Nat) (hl : lo < 18446744073709551616) (hh : hi < 18446744073709551616) : parseL 0 0 ((Ns.notes lo hi).map nameOf) = (lo, hi, 0) := by
  have h0 : ∀ m, Ns.has 0 0 m = false := fun m => by unfold Ns.has; split <;> simp
  rw [parse_notes _ 0 0 (fun n hn => ⟨Ns.notes_lt hn, h0 n⟩) (notes_nodup lo hi)]
  have hlt := ofN_lt (Ns.notes lo hi) (fun n hn => Ns.notes_lt hn)
  unfold ofN at hlt
  obtain ⟨e1, e2⟩ := Ns.ext hlt.1 hlt.2 hl hh (fun m hm => by
    rw [has_fold _ 0 0 m (fun n hn => Ns.notes_lt hn) hm, h0, Bool.false_or]
    cases hb : Ns.has lo hi m with
    | true => exact List.contains_iff_mem.2 (Ns.mem_notes.2 ⟨hm, hb⟩)
    | false =>
      rw [← Bool.not_eq_true, List.contains_iff_mem, Ns.mem_notes]
      rintro ⟨_, h⟩
      rw [h] at hb
      cases hb)
  rw [e1, e2]
end Go.Proofs.YtibdnfcbgcbdeaaDoor
