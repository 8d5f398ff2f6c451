/- Appending a slice of ints that may be none; Below and Above for any list of winds. -/
import Derived.Test.YtbkbncapgljfaaaGreatDoorRkZi
import Derived.Test.YtbkbncapgljfaaaGreatDoorRkZf
namespace Go.Proofs.YtbkbncapgljfaaaGreatDoor
open Go Go.RowKit Go.Shelf

/-- A slice of ints: none, or one whose cells lie there. -/
def WA (W : World) (v : Value) (m : Nat) (Y : Nat → Int) : Prop :=
  (v = .slice none 0 0 ∧ m = 0) ∨ (m = 0 ∧ ∃ a c, v = .slice (some a) 0 c) ∨ ∃ g o c, v = .slice (some ⟨g, o, none⟩) m c ∧ m ≤ c ∧ g < W.heap.size ∧ ∀ k, k < m → W.cell? ⟨g, o + k, none⟩ = some (.int .i64 (Y k))
theorem WA.below {A B : World} {v : Value} {m : Nat} {Y : Nat → Int} (h : WA A v m Y) (hb : Below A.heap.size A B) : WA B v m Y := by
  rcases h with h | h | ⟨g, o, c, h1, h2, h3, h4⟩
  · exact .inl h
  · exact .inr (.inl h)
  · exact .inr (.inr ⟨g, o, c, h1, h2, Nat.lt_of_lt_of_le h3 hb.size, fun k hk => (hb.cell (p := ⟨g, o + k, none⟩) h3).trans (h4 k hk)⟩)
theorem WA.wd {W : World} {v : Value} {m : Nat} {Y : Nat → Int} (h : WA W v m Y) : Wd W v m Y := by
  rcases h with ⟨rfl, rfl⟩ | ⟨rfl, a, c, rfl⟩ | ⟨g, o, c, h1, h2, h3, h4⟩
  · exact .inl ⟨rfl, _, _, rfl⟩
  · exact .inl ⟨rfl, _, _, rfl⟩
  · exact .inr ⟨g, o, c, h1, h2, h3, h4⟩
theorem WA.empty {W : World} {v : Value} {m : Nat} {Y : Nat → Int} (h : WA W v m Y) (h0 : m = 0) : EmptyS v := by
  rcases h with ⟨h1, _⟩ | ⟨_, a, c, h1⟩ | ⟨g, o, c, h1, _⟩
  · exact .inl h1
  · exact .inr ⟨_, _, h1⟩
  · subst h0; exact .inr ⟨_, _, h1⟩
theorem WA.len {W : World} {v : Value} {m : Nat} {Y : Nat → Int} (h : WA W v m Y) : ∃ a c, v = .slice a m c := h.wd.len
theorem wa_of {W : World} {v : Value} {m : Nat} {Y : Nat → Int} (h : Wd W v m Y) (h0 : 0 < m) : WA W v m Y := by
  rcases h with ⟨h1, _⟩ | ⟨g, o, c, h1, h2, h3, h4⟩
  · omega
  · exact .inr (.inr ⟨g, o, c, h1, h2, h3, h4⟩)
theorem row_news {W : World} {g o n : Nat} {X : Nat → Int} (h : ∀ k, k < n → W.cell? ⟨g, o + k, none⟩ = some (.int .i64 (X k))) : ∀ j u, (rowL X n)[j]? = some u → W.cell? ((⟨g, o, none⟩ : Addr).add j) = some u := by
  intro j u hj
  have hl : j < n := by have := (List.getElem?_eq_some_iff.1 hj).1; rwa [rowL_len] at this
  rw [rowL_at hl] at hj
  cases hj
  rw [Go.WideShapes.add_plain]
  exact h j hl
section
variable {ops : Array Oper} {Q : Exit → Act → World → Prop}
/-- An append of such a slice to a row of one's own. -/
theorem run_append_wa {w : World} {base : Nat} {v x : Value} {n m : Nat} {xs : List Value} {Y : Nat → Int} (ty : TypeId) (hown : w.ownsRow base 3 1 v n xs) (hx : WA w x m Y) (h63 : n + m ≤ 1000000) (hbase : base ≤ w.heap.size) :
    ∃ v' w', (Builtin.append_ #[24, 24] ty #[v, x]).run Tryz.prog w = .ok v' w' ∧ w'.ownsRow base 3 1 v' (n + m) (xs ++ rowL Y m) ∧ Below base w w' := by
  obtain ⟨i0, hi0, hz0, hz1, hz2⟩ := info_parts info_int
  rcases hx with ⟨rfl, rfl⟩ | ⟨rfl, ad, c, rfl⟩ | ⟨g, o, c, rfl, hc, hg, hcell⟩
  · exact ⟨v, w, run_append_owned_none (P := Tryz.prog) (w := w) base 24 ty 3 i0 1 Tryz.underlying24 hi0 v n xs hown, by simpa [rowL] using hown, Below.refl _ _⟩
  · obtain ⟨v', w', hr, h2, h3, _, _⟩ := run_append_own_at (P := Tryz.prog) w base 24 ty 3 i0 (.int .i64 0) 1 8 Tryz.underlying24 hi0 hz0 hz1 hz2 rfl (by decide) v n xs hown ad 0 c [] rfl (by intro j u hj; simp at hj) (by intro u hu; cases hu) (by unfold maxLen; omega) (by omega) hbase
    exact ⟨v', w', hr, by simpa [rowL] using h2, grown_below0 hbase hown h3⟩
  · obtain ⟨v', w', hr, h2, h3, _, _⟩ := run_append_own_at (P := Tryz.prog) w base 24 ty 3 i0 (.int .i64 0) 1 8 Tryz.underlying24 hi0 hz0 hz1 hz2 rfl (by decide) v n xs hown ⟨g, o, none⟩ m c (rowL Y m) (by rw [rowL_len, Nat.mul_one]) (row_news hcell) row_one (by unfold maxLen; omega) (by omega) hbase
    exact ⟨v', w', hr, h2, grown_below0 hbase hown h3⟩
theorem wpList_append_wa {w : World} {rest : List Oper} {o : Oper} {a : Act} (hgd : o.guard = none) (s x : Operand) (ho : o.op = .call { callee := .builtin .append, args := #[s, x], argTypes := #[24, 24] })
    (base : Nat) (v xv : Value) (n m : Nat) (xs : List Value) (Y : Nat → Int) (hs : a.eval s = v) (hown : w.ownsRow base 3 1 v n xs) (hxe : a.eval x = xv) (hx : WA w xv m Y) (h63 : n + m ≤ 1000000) (hbase : base ≤ w.heap.size)
    (h : ∀ v' w', w'.ownsRow base 3 1 v' (n + m) (xs ++ rowL Y m) → Below base w w' → wpList Tryz.prog ops Q rest (a.put o.dst v') w') : wpList Tryz.prog ops Q (o :: rest) a w := by
  refine wpList_plain hgd fun K hK => ?_
  obtain ⟨v', w', hr, h2, h3⟩ := run_append_wa o.type hown hx h63 hbase
  unfold Oper.wp execOp
  simp only [ho, resolve, invoke, builtin, Sem.run_bind, Sem.run_pure, Result.andThen_ok, List.map_toArray, List.map_cons, List.map_nil, hs, hxe, hr]
  exact hK _ _ (h v' w' h2 h3)
theorem step_append_wa {w : World} {o : Oper} {b : Act} {K : Act → World → Prop} {E : Prop} (hgd : o.guard = none) (s x : Operand) (ho : o.op = .call { callee := .builtin .append, args := #[s, x], argTypes := #[24, 24] })
    (base : Nat) (v xv : Value) (n m : Nat) (xs : List Value) (Y : Nat → Int) (hs : b.eval s = v) (hown : w.ownsRow base 3 1 v n xs) (hxe : b.eval x = xv) (hx : WA w xv m Y) (h63 : n + m ≤ 1000000) (hbase : base ≤ w.heap.size)
    (h : ∀ v' w', w'.ownsRow base 3 1 v' (n + m) (xs ++ rowL Y m) → Below base w w' → K (b.put o.dst v') w') : if Region.wanted o (yielded ops b.tmps) = true then Oper.wp Tryz.prog o b w K Q else E := by
  have hw : Region.wanted o (yielded ops b.tmps) = true := by simp [Region.wanted, hgd]
  rw [if_pos hw]
  obtain ⟨v', w', hr, h2, h3⟩ := run_append_wa o.type hown hx h63 hbase
  unfold Oper.wp execOp
  simp only [ho, resolve, invoke, builtin, Sem.run_bind, Sem.run_pure, Result.andThen_ok, List.map_toArray, List.map_cons, List.map_nil, hs, hxe, hr]
  exact h v' w' h2 h3
end
theorem own_wd2 {W : World} {base n m : Nat} {sr : Option Addr} {mr cr : Nat} {X Y : Nat → Int} (h : W.ownsRow base 3 1 (.slice sr mr cr) (m + n) (rowL Y m ++ rowL X n)) : mr = m + n ∧ Wd W (.slice sr mr cr) (m + n) (fun k => if k < m then Y k else X (k - m)) :=
  ⟨own_len h, wd_of h (fun k hk => rowL_two X Y m n k hk)⟩
theorem below_any (nm tn : ByteArray) (a b f : Int) (n : Nat) (X : Nat → Int) (m : Nat) (Y : Nat → Int) (s1 : nm.size ≤ 1099511627776) (s2 : tn.size ≤ 1099511627776) (hn : n ≤ 1099511627776) (hm : m ≤ 130) (h1 : rkE nm tn a b f n X = 0) :
    ∃ (Nm Tn : ByteArray) (A B Fv : Int) (mm : Nat) (Z : Nat → Int) (ev : Int), (∀ (sa : Option Addr) (cp : Nat) (v : Value) (w : World), Wd w (.slice sa n cp) n X → WA w v m Y → Calls Tryz.prog 25 #[.agg #[.string nm, .string tn, .int .i64 a, .int .i64 b, .int .i64 f, .slice sa n cp], v] w fun e w' => (∃ sr cr, e = .returned (.tuple #[.agg #[.string Nm, .string Tn, .int .i64 A, .int .i64 B, .int .i64 Fv, .slice sr mm cr], .int .i64 ev]) ∧ Wd w' (.slice sr mm cr) mm Z) ∧ Below w.heap.size w w') ∧
      ((¬ wdE Y m = 0 ∧ ev = wdE Y m ∧ Nm = ⟨#[]⟩ ∧ Tn = ⟨#[]⟩ ∧ A = 0 ∧ B = 0 ∧ Fv = 0 ∧ mm = 0 ∧ X = Z) ∨ (wdE Y m = 0 ∧ 128 < n + m ∧ ev = 4 ∧ Nm = ⟨#[]⟩ ∧ Tn = ⟨#[]⟩ ∧ A = 0 ∧ B = 0 ∧ Fv = 0 ∧ mm = 0 ∧ X = Z) ∨ (wdE Y m = 0 ∧ n + m ≤ 128 ∧ f - m < -256 ∧ ev = 3 ∧ Nm = ⟨#[]⟩ ∧ Tn = ⟨#[]⟩ ∧ A = 0 ∧ B = 0 ∧ Fv = 0 ∧ mm = 0 ∧ X = Z) ∨ (wdE Y m = 0 ∧ n + m ≤ 128 ∧ -256 ≤ f - m ∧ ev = 0 ∧ nm = Nm ∧ tn = Tn ∧ a = A ∧ b = B ∧ f - m = Fv ∧ m + n = mm ∧ (fun k => if k < m then Y k else X (k - m)) = Z)) := by
  by_cases h2 : wdE Y m = 0
  · by_cases h3 : 128 < n + m
    · have hc : cfE (rkE nm tn a b f n X) (wdE Y m) n m = 4 := by unfold cfE; rw [if_pos h1, if_pos h2, if_pos h3]
      refine ⟨_, _, _, _, _, _, _, _, fun sa cp v w h hv => ?_, .inr (.inl ⟨h2, h3, rfl, rfl, rfl, rfl, rfl, rfl, rfl, rfl⟩)⟩
      obtain ⟨sb, cq, rfl⟩ := hv.len
      exact (below_bad nm tn a b f sa n cp X sb m cq Y s1 s2 hn (by omega) 4 hc (by decide) w h hv.wd).mono (fun e w' ⟨he, hb⟩ => ⟨⟨none, 0, he, wd_nil w' X⟩, hb⟩)
    · have hc : cfE (rkE nm tn a b f n X) (wdE Y m) n m = 0 := by unfold cfE; rw [if_pos h1, if_pos h2, if_neg h3]
      by_cases h4 : -256 ≤ f - m
      · refine ⟨_, _, _, _, _, _, _, _, fun sa cp v w h hv => ?_, .inr (.inr (.inr ⟨h2, by omega, h4, rfl, rfl, rfl, rfl, rfl, rfl, rfl, rfl⟩))⟩
        obtain ⟨sb, cq, rfl⟩ := hv.len
        refine (below_e nm tn a b f sa n cp X sb m cq Y s1 s2 hn (by omega) hc h4 (fun h0 => hv.empty h0) w h hv.wd).mono ?_
        rintro e w' ⟨⟨sr, mr, cr, rfl, hrow⟩, hb⟩
        obtain ⟨rfl, hw⟩ := own_wd2 hrow
        exact ⟨⟨sr, cr, rfl, hw⟩, hb⟩
      · refine ⟨_, _, _, _, _, _, _, _, fun sa cp v w h hv => ?_, .inr (.inr (.inl ⟨h2, by omega, by omega, rfl, rfl, rfl, rfl, rfl, rfl, rfl, rfl⟩))⟩
        obtain ⟨sb, cq, rfl⟩ := hv.len
        exact (below_range nm tn a b f sa n cp X sb m cq Y s1 s2 hn (by omega) hc h4 w h hv.wd).mono (fun e w' ⟨he, hb⟩ => ⟨⟨none, 0, he, wd_nil w' X⟩, hb⟩)
  · have hc : cfE (rkE nm tn a b f n X) (wdE Y m) n m = wdE Y m := by unfold cfE; rw [if_pos h1, if_neg h2]
    refine ⟨_, _, _, _, _, _, _, _, fun sa cp v w h hv => ?_, .inl ⟨h2, rfl, rfl, rfl, rfl, rfl, rfl, rfl, rfl⟩⟩
    obtain ⟨sb, cq, rfl⟩ := hv.len
    exact (below_bad nm tn a b f sa n cp X sb m cq Y s1 s2 hn (by omega) _ hc h2 w h hv.wd).mono (fun e w' ⟨he, hb⟩ => ⟨⟨none, 0, he, wd_nil w' X⟩, hb⟩)
theorem above_any (nm tn : ByteArray) (a b f : Int) (n : Nat) (X : Nat → Int) (m : Nat) (Y : Nat → Int) (s1 : nm.size ≤ 1099511627776) (s2 : tn.size ≤ 1099511627776) (hn : n ≤ 1099511627776) (hm : m ≤ 130) (h1 : rkE nm tn a b f n X = 0) :
    ∃ (Nm Tn : ByteArray) (A B Fv : Int) (mm : Nat) (Z : Nat → Int) (ev : Int), (∀ (sa : Option Addr) (cp : Nat) (v : Value) (w : World), Wd w (.slice sa n cp) n X → WA w v m Y → Calls Tryz.prog 26 #[.agg #[.string nm, .string tn, .int .i64 a, .int .i64 b, .int .i64 f, .slice sa n cp], v] w fun e w' => (∃ sr cr, e = .returned (.tuple #[.agg #[.string Nm, .string Tn, .int .i64 A, .int .i64 B, .int .i64 Fv, .slice sr mm cr], .int .i64 ev]) ∧ Wd w' (.slice sr mm cr) mm Z) ∧ Below w.heap.size w w') ∧
      ((¬ wdE Y m = 0 → ev = wdE Y m ∧ Nm = ⟨#[]⟩ ∧ Tn = ⟨#[]⟩ ∧ A = 0 ∧ B = 0 ∧ Fv = 0 ∧ mm = 0 ∧ X = Z) ∧ (wdE Y m = 0 → 128 < n + m → ev = 4 ∧ Nm = ⟨#[]⟩ ∧ Tn = ⟨#[]⟩ ∧ A = 0 ∧ B = 0 ∧ Fv = 0 ∧ mm = 0 ∧ X = Z) ∧ (wdE Y m = 0 → n + m ≤ 128 → ev = 0 ∧ nm = Nm ∧ tn = Tn ∧ a = A ∧ b = B ∧ f = Fv ∧ n + m = mm ∧ (fun k => if k < n then X k else Y (k - n)) = Z)) := by
  by_cases h2 : wdE Y m = 0
  · by_cases h3 : 128 < n + m
    · have hc : cfE (rkE nm tn a b f n X) (wdE Y m) n m = 4 := by unfold cfE; rw [if_pos h1, if_pos h2, if_pos h3]
      refine ⟨_, _, _, _, _, _, _, _, fun sa cp v w h hv => ?_, fun h => absurd h2 h, fun _ _ => ⟨rfl, rfl, rfl, rfl, rfl, rfl, rfl, rfl⟩, fun _ h => absurd h3 (by omega)⟩
      obtain ⟨sb, cq, rfl⟩ := hv.len
      exact (above_bad nm tn a b f sa n cp X sb m cq Y s1 s2 hn (by omega) 4 hc (by decide) w h hv.wd).mono (fun e w' ⟨he, hb⟩ => ⟨⟨none, 0, he, wd_nil w' X⟩, hb⟩)
    · have hc : cfE (rkE nm tn a b f n X) (wdE Y m) n m = 0 := by unfold cfE; rw [if_pos h1, if_pos h2, if_neg h3]
      refine ⟨_, _, _, _, _, _, _, _, fun sa cp v w h hv => ?_, fun h => absurd h2 h, fun _ h => absurd h h3, fun _ _ => ⟨rfl, rfl, rfl, rfl, rfl, rfl, rfl, rfl⟩⟩
      obtain ⟨sb, cq, rfl⟩ := hv.len
      refine (above_e nm tn a b f sa n cp X sb m cq Y s1 s2 hn (by omega) hc (fun h0 => hv.empty h0) w h hv.wd).mono ?_
      rintro e w' ⟨⟨sr, mr, cr, rfl, hrow⟩, hb⟩
      obtain ⟨rfl, hw⟩ := own_wd2 hrow
      exact ⟨⟨sr, cr, rfl, hw⟩, hb⟩
  · have hc : cfE (rkE nm tn a b f n X) (wdE Y m) n m = wdE Y m := by unfold cfE; rw [if_pos h1, if_neg h2]
    refine ⟨_, _, _, _, _, _, _, _, fun sa cp v w h hv => ?_, fun _ => ⟨rfl, rfl, rfl, rfl, rfl, rfl, rfl, rfl⟩, fun h => absurd h h2, fun h => absurd h h2⟩
    obtain ⟨sb, cq, rfl⟩ := hv.len
    exact (above_bad nm tn a b f sa n cp X sb m cq Y s1 s2 hn (by omega) _ hc h2 w h hv.wd).mono (fun e w' ⟨he, hb⟩ => ⟨⟨none, 0, he, wd_nil w' X⟩, hb⟩)
end Go.Proofs.YtbkbncapgljfaaaGreatDoor
