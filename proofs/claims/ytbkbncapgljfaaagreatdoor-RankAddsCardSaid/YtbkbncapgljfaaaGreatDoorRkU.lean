/- Regions with an append and a store behind it; the plan of a rank; Make. -/
import Derived.Test.YtbkbncapgljfaaaGreatDoorRkT
import Derived.Laws.IdiomStrings
namespace Go.Proofs.YtbkbncapgljfaaaGreatDoor
open Go Go.RowKit Go.Shelf

section
variable {P : Program} {ops : Array Oper} {Q : Exit → Act → World → Prop} {F : (Nat → Value) → Act}
/-- Number a appends, the last one stores. -/
def ApI (ops : Array Oper) (a : Nat) (R : World → Prop) (Inv : Nat → Value → World → Prop) (Jnv : Nat → Value → Prop) (Mid : Value → World → Prop) (Fin : World → Prop) : (Nat → Bool) → (Nat → Value) → World → Prop :=
  fun L ys w => CloI ops L ∧ ((L a = false ∧ L (ops.size - 1) = false ∧ R w ∧ ∀ j, j < ops.size → L j = true → Inv j (ys j) w) ∨ (L a = true ∧ L (ops.size - 1) = false ∧ Mid (ys a) w ∧ ∀ j, j < ops.size → L j = true → Jnv j (ys j)) ∨ (L (ops.size - 1) = true ∧ Fin w))
variable {a : Nat} {R : World → Prop} {Inv : Nat → Value → World → Prop} {Jnv : Nat → Value → Prop} {Mid : Value → World → Prop} {Fin : World → Prop}
theorem clo_all (hu : usedB ops = true) {L : Nat → Bool} (hc : CloI ops L) (hl : L (ops.size - 1) = true) (i : Nat) (hi : i < ops.size) : L i = true := last_all hu hc hl (ops.size - 1 - i) i (by omega)
theorem SlotStep.apB (hu : usedB ops = true) {i : Nat} {o : Oper} (ho : ops[i]? = some o) (hia : a ≠ i) (hil : i < ops.size - 1) (hp : ∀ L, CloI ops L → L a = true → L i = true)
    (hR : ∀ A B : World, Below A.heap.size A B → R A → R B) (hI : ∀ (j : Nat) (v : Value) (A B : World), Below A.heap.size A B → Inv j v A → Inv j v B)
    (h : ∀ (ys : Nat → Value) (w : World), R w → (∀ j, waitsB .any o j = true → j < ops.size → Inv j (ys j) w) →
      ∀ K : Act → World → Prop, (∀ v w', Below w.heap.size w w' → Inv i v w' → K (F (upd ys i v)) w') →
        if Region.wanted o (yielded ops (F ys).tmps) = true then Oper.wp P o (F ys) w K Q else K ((F ys).put o.dst undef) w) :
    SlotStep P .any ops Q F (ApI ops a R Inv Jnv Mid Fin) i o := by
  intro L ys w hL ha ⟨hc, hd⟩ K hK
  rcases hd with ⟨hl, hs, hr, hi2⟩ | ⟨hl, _⟩ | ⟨hl, _⟩
  · refine h ys w hr (fun j hw hj => hi2 j hj (waits_at ha hw)) K (fun v w' hb hv => hK v w' ⟨clo_upd ho ha hc, .inl ⟨by rw [upd_ne _ _ hia]; exact hl, by rw [upd_ne _ _ (by omega)]; exact hs, hR _ _ hb hr, fun j hj hLj => ?_⟩⟩)
    by_cases hji : j = i
    · subst hji; rw [upd_same]; exact hv
    · rw [upd_ne _ _ hji]
      rw [upd_ne _ _ hji] at hLj
      exact hI j _ _ _ hb (hi2 j hj hLj)
  · rw [hp L hc hl] at hL
    cases hL
  · rw [clo_all hu hc hl i (by omega)] at hL
    cases hL
theorem SlotStep.apP (hu : usedB ops = true) {i : Nat} {o : Oper} (ho : ops[i]? = some o) (hia : a ≠ i) (hil : i < ops.size - 1) (hJ : ∀ j v w, Inv j v w → Jnv j v)
    (h : ∀ (ys : Nat → Value) (w : World), (∀ j, waitsB .any o j = true → j < ops.size → Jnv j (ys j)) →
      ∀ K : Act → World → Prop, (∀ v, Jnv i v → (∀ w', Inv i v w') → K (F (upd ys i v)) w) →
        if Region.wanted o (yielded ops (F ys).tmps) = true then Oper.wp P o (F ys) w K Q else K ((F ys).put o.dst undef) w) :
    SlotStep P .any ops Q F (ApI ops a R Inv Jnv Mid Fin) i o := by
  intro L ys w hL ha ⟨hc, hd⟩ K hK
  rcases hd with ⟨hl, hs, hr, hi2⟩ | ⟨hl, hs, hf, hi2⟩ | ⟨hl, _⟩
  · refine h ys w (fun j hw hj => hJ _ _ _ (hi2 j hj (waits_at ha hw))) K (fun v hv hv2 => hK v w ⟨clo_upd ho ha hc, .inl ⟨by rw [upd_ne _ _ hia]; exact hl, by rw [upd_ne _ _ (by omega)]; exact hs, hr, fun j hj hLj => ?_⟩⟩)
    by_cases hji : j = i
    · subst hji; rw [upd_same]; exact hv2 _
    · rw [upd_ne _ _ hji]
      rw [upd_ne _ _ hji] at hLj
      exact hi2 j hj hLj
  · refine h ys w (fun j hw hj => hi2 j hj (waits_at ha hw)) K (fun v hv hv2 => hK v w ⟨clo_upd ho ha hc, .inr (.inl ⟨by rw [upd_ne _ _ hia]; exact hl, by rw [upd_ne _ _ (by omega)]; exact hs, by rw [upd_ne _ _ hia]; exact hf, fun j hj hLj => ?_⟩)⟩)
    by_cases hji : j = i
    · subst hji; rw [upd_same]; exact hv
    · rw [upd_ne _ _ hji]
      rw [upd_ne _ _ hji] at hLj
      exact hi2 j hj hLj
  · rw [clo_all hu hc hl i (by omega)] at hL
    cases hL
theorem SlotStep.apA (hu : usedB ops = true) {i : Nat} {o : Oper} (ho : ops[i]? = some o) (hia : i = a) (hil : i < ops.size - 1) (hJ : ∀ j v w, Inv j v w → Jnv j v) (hJa : ∀ v, Jnv i v)
    (h : ∀ (ys : Nat → Value) (w : World), R w → (∀ j, waitsB .any o j = true → j < ops.size → Inv j (ys j) w) →
      ∀ K : Act → World → Prop, (∀ v w', Mid v w' → K (F (upd ys i v)) w') →
        if Region.wanted o (yielded ops (F ys).tmps) = true then Oper.wp P o (F ys) w K Q else K ((F ys).put o.dst undef) w) :
    SlotStep P .any ops Q F (ApI ops a R Inv Jnv Mid Fin) i o := by
  intro L ys w hL ha ⟨hc, hd⟩ K hK
  subst hia
  rcases hd with ⟨hl, hs, hr, hi2⟩ | ⟨hl, _⟩ | ⟨hl, _⟩
  · refine h ys w hr (fun j hw hj => hi2 j hj (waits_at ha hw)) K (fun v w' hm => hK v w' ⟨clo_upd ho ha hc, .inr (.inl ⟨upd_same _ _ _, by rw [upd_ne _ _ (by omega)]; exact hs, by rw [upd_same]; exact hm, fun j hj hLj => ?_⟩)⟩)
    by_cases hji : j = i
    · subst hji; exact hJa _
    · rw [upd_ne _ _ hji]
      rw [upd_ne _ _ hji] at hLj
      exact hJ _ _ _ (hi2 j hj hLj)
  · rw [hl] at hL; cases hL
  · rw [clo_all hu hc hl i (by omega)] at hL
    cases hL
theorem SlotStep.apS {i : Nat} {o : Oper} (ho : ops[i]? = some o) (hil : i = ops.size - 1) (hwa : waitsB .any o a = true) (han : a < ops.size)
    (h : ∀ (ys : Nat → Value) (w : World), Mid (ys a) w → (∀ j, waitsB .any o j = true → j < ops.size → Jnv j (ys j)) →
      ∀ K : Act → World → Prop, (∀ v w', Fin w' → K (F (upd ys i v)) w') →
        if Region.wanted o (yielded ops (F ys).tmps) = true then Oper.wp P o (F ys) w K Q else K ((F ys).put o.dst undef) w) :
    SlotStep P .any ops Q F (ApI ops a R Inv Jnv Mid Fin) i o := by
  intro L ys w hL ha ⟨hc, hd⟩ K hK
  rcases hd with ⟨hl, _⟩ | ⟨hl, hs, hm, hi2⟩ | ⟨hl, _⟩
  · rw [waits_at ha hwa] at hl; cases hl
  · exact h ys w hm (fun j hw hj => hi2 j hj (waits_at ha hw)) K (fun v w' hf => hK v w' ⟨clo_upd ho ha hc, .inr (.inr ⟨by rw [← hil, upd_same], hf⟩)⟩)
  · rw [← hil, hL] at hl; cases hl
theorem ap_start (ha : a < ops.size) {ys : Nat → Value} {w : World} (hr : R w) : ApI ops a R Inv Jnv Mid Fin (fun i => decide (ops.size ≤ i)) ys w :=
  ⟨fun j o ho hj => by have := (Array.getElem?_eq_some_iff.1 ho).1; have := of_decide_eq_true hj; omega, .inl ⟨by simp; omega, by simp; omega, hr, fun j hj hL => by have := of_decide_eq_true hL; omega⟩⟩
theorem ap_end (h0 : 0 < ops.size) {L : Nat → Bool} {ys : Nat → Value} {w : World} (hL : ∀ i, i < ops.size → L i = true) (h : ApI ops a R Inv Jnv Mid Fin L ys w) : Fin w := by
  rcases h.2 with ⟨_, hl, _⟩ | ⟨_, hl, _⟩ | ⟨_, h⟩
  · rw [hL _ (by omega)] at hl; cases hl
  · rw [hL _ (by omega)] at hl; cases hl
  · exact h
/-- An append to a row of one's own, as one step of a region. -/
theorem step_append_own {o : Oper} {b : Act} {w : World} {K : Act → World → Prop} {E : Prop} (hgd : o.guard = none) (s x : Operand) (t : TypeId)
    (ho : o.op = .call { callee := .builtin .append, args := #[s, x], argTypes := #[t, t] })
    (base : Nat) (e : TypeId) (i : TypeInfo) (z : Value) (size bytes : Nat) (ht : P.underlying t = some (.slice e)) (hi : P.info? e = some i) (hz : i.zero = some z)
    (hsize : i.size = size) (hby : i.bytes = bytes) (hzs : z.cells.size = size) (hsz : 0 < size)
    (v : Value) (n : Nat) (xs : List Value) (hs : b.eval s = v) (hown : w.ownsRow base e size v n xs)
    (ad : Addr) (m c : Nat) (news : List Value) (hx : b.eval x = .slice (some ad) m c) (hl : news.length = m * size) (hnews : ∀ j u, news[j]? = some u → w.cell? (ad.add j) = some u) (h1 : ∀ u ∈ news, u.oneCell' = true)
    (h63 : n + m ≤ maxLen) (hbytes : (n + m) * bytes ≤ 140737488355328) (hbase : base ≤ w.heap.size)
    (h : ∀ v' w', w'.ownsRow base e size v' (n + m) (xs ++ news) → w.grownBy w' v.ownBlock → (v'.ownBlock = v.ownBlock ∨ v'.ownBlock = some w.heap.size) → K (b.put o.dst v') w') :
    if Region.wanted o (yielded ops b.tmps) = true then Oper.wp P o b w K Q else E := by
  have hw : Region.wanted o (yielded ops b.tmps) = true := by simp [Region.wanted, hgd]
  rw [if_pos hw]
  obtain ⟨v', w', hr, h2, h3, h4, h5⟩ := run_append_own_at (P := P) w base t o.type e i z size bytes ht hi hz hsize hby hzs hsz v n xs hown ad m c news hl hnews h1 h63 hbytes hbase
  unfold Oper.wp execOp
  simp only [ho, resolve, invoke, builtin, Sem.run_bind, Sem.run_pure, Result.andThen_ok, List.map_toArray, List.map_cons, List.map_nil, hs, hx, hr]
  exact h v' w' h2 h3 h5
end

/-- The tones. -/
def toneB (k : Nat) : ByteArray := match k with | 0 => ⟨#[79, 112, 101, 110]⟩ | 1 => ⟨#[70, 108, 117, 116, 101]⟩ | _ => ⟨#[82, 101, 101, 100]⟩
theorem tone_at {W : World} {g : Nat} {T : TypeId} (h : W.heap[g]? = some (.cells #[.string ⟨#[79, 112, 101, 110]⟩, .string ⟨#[70, 108, 117, 116, 101]⟩, .string ⟨#[82, 101, 101, 100]⟩] T)) (k : Nat) (hk : k < 3) : W.cell? ⟨g, k, none⟩ = some (.string (toneB k)) := by
  simp only [World.cell?, h]
  match k, hk with
  | 0, _ => rfl
  | 1, _ => rfl
  | 2, _ => rfl
/-- The winds of a plan. -/
def xw (w0 w1 w2 w3 w4 : Int) (k : Nat) : Int := match k % 5 with | 0 => w0 | 1 => w1 | 2 => w2 | 3 => w3 | _ => w4
theorem plan_cells {W : World} {b : Nat} {t ft f p w0 w1 w2 w3 w4 : Int} {T : TypeId} (h : W.heap[b]? = some (.cells #[.int .u8 t, .int .u8 ft, .int .i8 f, .int .u8 p, .int .u8 w0, .int .u8 w1, .int .u8 w2, .int .u8 w3, .int .u8 w4] T)) : W.cell? ⟨b, 0, none⟩ = some (.int .u8 t) ∧ W.cell? ⟨b, 1, none⟩ = some (.int .u8 ft) ∧ W.cell? ⟨b, 2, none⟩ = some (.int .i8 f) ∧ W.cell? ⟨b, 3, none⟩ = some (.int .u8 p) ∧ W.cell? ⟨b, 4, none⟩ = some (.int .u8 w0) ∧ W.cell? ⟨b, 5, none⟩ = some (.int .u8 w1) ∧ W.cell? ⟨b, 6, none⟩ = some (.int .u8 w2) ∧ W.cell? ⟨b, 7, none⟩ = some (.int .u8 w3) ∧ W.cell? ⟨b, 8, none⟩ = some (.int .u8 w4) := by
  simp only [World.cell?, h]
  exact ⟨rfl, rfl, rfl, rfl, rfl, rfl, rfl, rfl, rfl⟩
theorem plan_wind {W : World} {b : Nat} {t ft f p w0 w1 w2 w3 w4 : Int} {T : TypeId} (h : W.heap[b]? = some (.cells #[.int .u8 t, .int .u8 ft, .int .i8 f, .int .u8 p, .int .u8 w0, .int .u8 w1, .int .u8 w2, .int .u8 w3, .int .u8 w4] T)) (k m : Nat) (hm : k % 5 = m) : W.cell? ⟨b, 4 + m, none⟩ = some (.int .u8 (xw w0 w1 w2 w3 w4 k)) := by
  have h5 : m < 5 := by omega
  unfold xw
  rw [hm]
  simp only [World.cell?, h]
  match m, h5 with
  | 0, _ => rfl
  | 1, _ => rfl
  | 2, _ => rfl
  | 3, _ => rfl
  | 4, _ => rfl
theorem xw_bd {w0 w1 w2 w3 w4 : Int} (h0 : 0 ≤ w0 ∧ w0 ≤ 255) (h1 : 0 ≤ w1 ∧ w1 ≤ 255) (h2 : 0 ≤ w2 ∧ w2 ≤ 255) (h3 : 0 ≤ w3 ∧ w3 ≤ 255) (h4 : 0 ≤ w4 ∧ w4 ≤ 255) (k : Nat) : 0 ≤ xw w0 w1 w2 w3 w4 k ∧ xw w0 w1 w2 w3 w4 k ≤ 255 := by
  unfold xw
  split <;> assumption
theorem plan_num {p : Int} (hp : 0 ≤ p ∧ p ≤ 255) : ∃ q : Nat, q < 25 ∧ p.tmod 25 = (q : Int) := ⟨(p.tmod 25).toNat, by have := Int.tmod_nonneg 25 hp.1; have := Int.tmod_lt_of_pos p (show (0 : Int) < 25 by decide); omega, by have := Int.tmod_nonneg 25 hp.1; omega⟩
theorem plan_tone {t : Int} (hp : 0 ≤ t ∧ t ≤ 255) : ∃ q : Nat, q < 3 ∧ t.tmod 3 = (q : Int) := ⟨(t.tmod 3).toNat, by have := Int.tmod_nonneg 3 hp.1; have := Int.tmod_lt_of_pos t (show (0 : Int) < 3 by decide); omega, by have := Int.tmod_nonneg 3 hp.1; omega⟩
theorem tmod5 (k n : Nat) (h : k % 5 = n) : ((k : Int).tmod 5) = (n : Int) := by rw [← h]; exact (Int.ofNat_tmod k 5).symm

def mkI0 (D E0 tm : Nat) (t ft f fa fb : Int) : Nat → Value → World → Prop
  | 0, v, _ => v = .int .i64 0
  | 1, v, _ => v = .int .i64 0
  | 2, v, _ => v = .int .i64 48
  | 3, v, _ => v = .int .u8 48
  | 4, v, W => ∃ g, v = .slice (some ⟨g, 0, none⟩) 1 1 ∧ W.heap[g]? = some (.cells #[.int .u8 48] 5)
  | 5, v, _ => v = .string ⟨#[48]⟩
  | 6, v, _ => v = .string ⟨#[82, 48]⟩
  | 7, v, W => ∃ g, v = .slice (some ⟨g, 0, none⟩) 3 3 ∧ W.heap[g]? = some (.cells #[.string ⟨#[79, 112, 101, 110]⟩, .string ⟨#[70, 108, 117, 116, 101]⟩, .string ⟨#[82, 101, 101, 100]⟩] 9)
  | 8, v, _ => v = .pointer (some ⟨D, 0, none⟩)
  | 9, v, _ => v = .int .u8 t
  | 10, v, _ => v = .int .u8 (tm : Int)
  | 11, v, W => ∃ g, v = .pointer (some ⟨g, tm, none⟩) ∧ W.heap[g]? = some (.cells #[.string ⟨#[79, 112, 101, 110]⟩, .string ⟨#[70, 108, 117, 116, 101]⟩, .string ⟨#[82, 101, 101, 100]⟩] 9)
  | 12, v, _ => v = .string (toneB tm)
  | 13, v, _ => v = .pointer (some ⟨D, 1, none⟩)
  | 14, v, _ => v = .int .u8 ft
  | 15, v, _ => v = .agg #[.int .i64 fa, .int .i64 fb]
  | 16, v, _ => v = .pointer (some ⟨D, 2, none⟩)
  | 17, v, _ => v = .int .i8 f
  | 18, v, _ => v = .int .i64 f
  | 19, v, _ => v = .agg #[.string ⟨#[82, 48]⟩, .string (toneB tm), .int .i64 fa, .int .i64 fb, .int .i64 f, .slice none 0 0]
  | 20, v, W => ∃ E, v = .pointer (some ⟨E, 0, none⟩) ∧ E0 ≤ E ∧ W.heap[E]? = some (.cells #[.string ⟨#[]⟩, .string ⟨#[]⟩, .int .i64 0, .int .i64 0, .int .i64 0, .slice none 0 0] 26)
  | _, _, _ => True
theorem mkI0_up (D E0 tm : Nat) (t ft f fa fb : Int) : ∀ (j : Nat) (v : Value) (A B : World), Below A.heap.size A B → mkI0 D E0 tm t ft f fa fb j v A → mkI0 D E0 tm t ft f fa fb j v B
  | 0, _, _, _, _, h => h
  | 1, _, _, _, _, h => h
  | 2, _, _, _, _, h => h
  | 3, _, _, _, _, h => h
  | 4, _, _, _, hb, h => (by obtain ⟨g, h1, h2⟩ := h; exact ⟨g, h1, (hb.block g (Array.getElem?_eq_some_iff.1 h2).1).trans h2⟩)
  | 5, _, _, _, _, h => h
  | 6, _, _, _, _, h => h
  | 7, _, _, _, hb, h => (by obtain ⟨g, h1, h2⟩ := h; exact ⟨g, h1, (hb.block g (Array.getElem?_eq_some_iff.1 h2).1).trans h2⟩)
  | 8, _, _, _, _, h => h
  | 9, _, _, _, _, h => h
  | 10, _, _, _, _, h => h
  | 11, _, _, _, hb, h => (by obtain ⟨g, h1, h2⟩ := h; exact ⟨g, h1, (hb.block g (Array.getElem?_eq_some_iff.1 h2).1).trans h2⟩)
  | 12, _, _, _, _, h => h
  | 13, _, _, _, _, h => h
  | 14, _, _, _, _, h => h
  | 15, _, _, _, _, h => h
  | 16, _, _, _, _, h => h
  | 17, _, _, _, _, h => h
  | 18, _, _, _, _, h => h
  | 19, _, _, _, _, h => h
  | 20, _, _, _, hb, h => (by obtain ⟨g, h1, h2, h3⟩ := h; exact ⟨g, h1, h2, (hb.block g (Array.getElem?_eq_some_iff.1 h3).1).trans h3⟩)
  | 21, _, _, _, _, h => h
  | _ + 22, _, _, _, _, _ => trivial
def mlI0 (D E k m : Nat) (sa : Option Addr) (sc : Nat) (x : Int) : Nat → Value → World → Prop
  | 0, v, _ => v = .pointer (some ⟨E, 5, none⟩)
  | 1, v, _ => v = .slice sa k sc
  | 2, v, _ => v = .int .i64 (k : Int)
  | 3, v, _ => v = .int .i64 (m : Int)
  | 4, v, _ => v = .pointer (some ⟨D, 4, none⟩)
  | 5, v, _ => v = .pointer (some ⟨D, 4 + m, none⟩)
  | 6, v, _ => v = .int .u8 x
  | 7, v, _ => v = .int .i64 x
  | 8, v, W => ∃ g, v = .slice (some ⟨g, 0, none⟩) 1 1 ∧ W.heap[g]? = some (.cells #[.int .i64 x] 3)
  | 10, v, _ => v = .pointer (some ⟨E, 5, none⟩)
  | _, _, _ => True
theorem mlI0_up (D E k m : Nat) (sa : Option Addr) (sc : Nat) (x : Int) : ∀ (j : Nat) (v : Value) (A B : World), Below A.heap.size A B → mlI0 D E k m sa sc x j v A → mlI0 D E k m sa sc x j v B
  | 0, _, _, _, _, h => h
  | 1, _, _, _, _, h => h
  | 2, _, _, _, _, h => h
  | 3, _, _, _, _, h => h
  | 4, _, _, _, _, h => h
  | 5, _, _, _, _, h => h
  | 6, _, _, _, _, h => h
  | 7, _, _, _, _, h => h
  | 8, _, _, _, hb, h => (by obtain ⟨g, h1, h2⟩ := h; exact ⟨g, h1, (hb.block g (Array.getElem?_eq_some_iff.1 h2).1).trans h2⟩)
  | 9, _, _, _, _, h => h
  | 10, _, _, _, _, h => h
  | 11, _, _, _, _, h => h
  | _ + 12, _, _, _, _, _ => trivial
def mlJ0 (D E k m : Nat) (sa : Option Addr) (sc : Nat) (x : Int) : Nat → Value → Prop
  | 10, v => v = .pointer (some ⟨E, 5, none⟩)
  | _, _ => True
theorem mlI0_J (D E k m : Nat) (sa : Option Addr) (sc : Nat) (x : Int) : ∀ (j : Nat) (v : Value) (A : World), mlI0 D E k m sa sc x j v A → mlJ0 D E k m sa sc x j v
  | 0, _, _, _ => trivial
  | 1, _, _, _ => trivial
  | 2, _, _, _ => trivial
  | 3, _, _, _ => trivial
  | 4, _, _, _ => trivial
  | 5, _, _, _ => trivial
  | 6, _, _, _ => trivial
  | 7, _, _, _ => trivial
  | 8, _, _, _ => trivial
  | 9, _, _, _ => trivial
  | 10, _, _, h => h
  | _ + 11, _, _, _ => trivial

set_option maxRecDepth 100000 in
set_option maxHeartbeats 4000000 in
theorem make_c0 (t ft f p w0 w1 w2 w3 w4 : Int) (bt : 0 ≤ t ∧ t ≤ 255) (bft : 0 ≤ ft ∧ ft ≤ 255) (bf : -128 ≤ f ∧ f ≤ 127) (bp : 0 ≤ p ∧ p ≤ 255) (b0 : 0 ≤ w0 ∧ w0 ≤ 255) (b1 : 0 ≤ w1 ∧ w1 ≤ 255) (b2 : 0 ≤ w2 ∧ w2 ≤ 255) (b3 : 0 ≤ w3 ∧ w3 ≤ 255) (b4 : 0 ≤ w4 ∧ w4 ≤ 255)
    (j tm q : Nat) (hj : j < 16) (hx : ft.tmod 16 = j) (h3 : tm < 3) (htm : t.tmod 3 = tm) (hq25 : q < 25) (hq : p.tmod 25 = q) (w : World) :
    Calls Tryz.prog 31 #[.agg #[.int .u8 t, .int .u8 ft, .int .i8 f, .int .u8 p, .int .u8 w0, .int .u8 w1, .int .u8 w2, .int .u8 w3, .int .u8 w4], .int .i64 0] w fun e w' => (∃ v, e = .returned (.agg #[.string ⟨#[82, 48]⟩, .string (toneB tm), .int .i64 (feetF j).1, .int .i64 (feetF j).2, .int .i64 f, v]) ∧ Wd w' v (q + 1) (xw w0 w1 w2 w3 w4)) ∧ Below w.heap.size w w' := by
  have FT := Lib.hid (fun W => feet_c ft bft j hj hx W)
  obtain ⟨fa, hfa⟩ : ∃ a, (feetF j).1 = a := ⟨_, rfl⟩
  obtain ⟨fb, hfb⟩ : ∃ a, (feetF j).2 = a := ⟨_, rfl⟩
  rw [hfa, hfb] at FT
  rw [hfa, hfb]
  have XB := Lib.hid (fun k => xw_bd b0 b1 b2 b3 b4 k)
  have HTM := Lib.hid htm
  have HQ := Lib.hid hq
  clear htm hq hfa hfb hx hj bt bft bp b0 b1 b2 b3 b4 j
  obtain ⟨i0, hi0, hz0, hz1, hz2⟩ := info_parts info_int
  obtain ⟨D, hD⟩ : ∃ D, w.heap.size = D := ⟨_, rfl⟩
  obtain ⟨V1, hV⟩ : ∃ V1, (w.alloc (.cells #[.int .u8 t, .int .u8 ft, .int .i8 f, .int .u8 p, .int .u8 w0, .int .u8 w1, .int .u8 w2, .int .u8 w3, .int .u8 w4] 47)).alloc (.cells #[.string ⟨#[]⟩, .string ⟨#[]⟩, .int .i64 0, .int .i64 0, .int .i64 0, .slice none 0 0] 26) = V1 := ⟨_, rfl⟩
  have hwV : Below D w V1 := by rw [← hV]; exact ((Below.refl _ w).alloc (by omega) _).alloc (by simp; omega) _
  have p0 : V1.heap[D]? = some (.cells #[.int .u8 t, .int .u8 ft, .int .i8 f, .int .u8 p, .int .u8 w0, .int .u8 w1, .int .u8 w2, .int .u8 w3, .int .u8 w4] 47) := by rw [← hV]; exact heap_old (heap_new hD.symm)
  have p1 : V1.heap[D + 1]? = some (.cells #[.string ⟨#[]⟩, .string ⟨#[]⟩, .int .i64 0, .int .i64 0, .int .i64 0, .slice none 0 0] 26) := by rw [← hV]; exact heap_new (by simp [hD])
  have hVs : V1.heap.size = D + 2 := by rw [← hV]; simp [hD]
  have HV := Lib.hid (And.intro hwV (And.intro p0 p1))
  have HVE := Lib.hid hV
  clear hwV p0 p1 hV
  rw [hD]
  go_enter Tryz.func31, Tryz.ntmps31
  go_upto_region 1 with fail
  rw [HVE.out]
  refine wp_region_slots_at rfl rfl (fun base ys => ((((((((((((((((((((base.set 7 (ys 0)).set 8 (ys 1)).set 9 (ys 2)).set 10 (ys 3)).set 11 (ys 4)).set 12 (ys 5)).set 13 (ys 6)).set 14 (ys 7)).set 15 (ys 8)).set 16 (ys 9)).set 17 (ys 10)).set 18 (ys 11)).set 19 (ys 12)).set 20 (ys 13)).set 21 (ys 14)).set 22 (ys 15)).set 23 (ys 16)).set 24 (ys 17)).set 25 (ys 18)).set 26 (ys 19)).set 5 (ys 20)) (StI _ 21 20 (Below V1.heap.size V1) (mkI0 D V1.heap.size tm t ft f fa fb) (fun _ _ => True) (fun q A => ∃ E, q = .pointer (some ⟨E, 0, none⟩) ∧ V1.heap.size ≤ E ∧ A.heap[E]? = some (.cells #[.string ⟨#[82, 48]⟩, .string (toneB tm), .int .i64 fa, .int .i64 fb, .int .i64 f, .slice none 0 0] 26) ∧ Below V1.heap.size V1 A)) (fun _ => undef) (by kernel_rfl) (st_start (by decide) ((Below.refl _ _).trans ⟨rfl, rfl, rfl, Nat.le_refl _, fun _ _ => rfl⟩)) ?h
  case h =>
    intro FF hFF
    simp only [List.set_cons_succ, List.set_cons_zero] at hFF
    subst hFF
    refine ⟨rfl, ?_, ?_⟩
    refine ⟨?_, ?_⟩
    · refine SlotStep.stB rfl (by decide) (fun L hc h => clo_all (by kernel_rfl) hc h 0 (by decide)) (fun A B hb h => h.trans (hb.mono h.size)) (mkI0_up D V1.heap.size tm t ft f fa fb) ?_
      intro ys W hR hd K hK
      go_simp
      have hK2 := hK (.int .i64 0) _ (Below.refl _ _) rfl
      simp (config := { decide := true }) only [upd, if_true, if_false] at hK2
      exact hK2
    refine ⟨?_, ?_⟩
    · refine SlotStep.stB rfl (by decide) (fun L hc h => clo_all (by kernel_rfl) hc h 1 (by decide)) (fun A B hb h => h.trans (hb.mono h.size)) (mkI0_up D V1.heap.size tm t ft f fa fb) ?_
      intro ys W hR hd K hK
      have dd0 : ys 0 = (.int .i64 0) := hd 0 (by kernel_rfl) (by decide)
      go_simp
      have hK2 := hK (.int .i64 0) _ (Below.refl _ _) rfl
      simp (config := { decide := true }) only [upd, if_true, if_false, dd0] at hK2
      exact hK2
    refine ⟨?_, ?_⟩
    · refine SlotStep.stB rfl (by decide) (fun L hc h => clo_all (by kernel_rfl) hc h 2 (by decide)) (fun A B hb h => h.trans (hb.mono h.size)) (mkI0_up D V1.heap.size tm t ft f fa fb) ?_
      intro ys W hR hd K hK
      have dd1 : ys 1 = (.int .i64 0) := hd 1 (by kernel_rfl) (by decide)
      go_simp
      have hK2 := hK (.int .i64 48) _ (Below.refl _ _) rfl
      simp (config := { decide := true }) only [upd, if_true, if_false, dd1] at hK2
      exact hK2
    refine ⟨?_, ?_⟩
    · refine SlotStep.stB rfl (by decide) (fun L hc h => clo_all (by kernel_rfl) hc h 3 (by decide)) (fun A B hb h => h.trans (hb.mono h.size)) (mkI0_up D V1.heap.size tm t ft f fa fb) ?_
      intro ys W hR hd K hK
      have dd2 : ys 2 = (.int .i64 48) := hd 2 (by kernel_rfl) (by decide)
      go_simp
      have hK2 := hK (.int .u8 48) _ (Below.refl _ _) rfl
      simp (config := { decide := true }) only [upd, if_true, if_false, dd2] at hK2
      exact hK2
    refine ⟨?_, ?_⟩
    · refine SlotStep.stB rfl (by decide) (fun L hc h => clo_all (by kernel_rfl) hc h 4 (by decide)) (fun A B hb h => h.trans (hb.mono h.size)) (mkI0_up D V1.heap.size tm t ft f fa fb) ?_
      intro ys W hR hd K hK
      have dd3 : ys 3 = (.int .u8 48) := hd 3 (by kernel_rfl) (by decide)
      go_simp
      have hK2 := hK (.slice (some ⟨W.heap.size, 0, none⟩) 1 1) _ ((Below.refl _ W).alloc (Nat.le_refl _) (.cells #[.int .u8 48] 5)) ⟨_, rfl, heap_new rfl⟩
      simp (config := { decide := true }) only [upd, if_true, if_false, dd3] at hK2
      exact hK2
    refine ⟨?_, ?_⟩
    · refine SlotStep.stB rfl (by decide) (fun L hc h => clo_all (by kernel_rfl) hc h 5 (by decide)) (fun A B hb h => h.trans (hb.mono h.size)) (mkI0_up D V1.heap.size tm t ft f fa fb) ?_
      intro ys W hR hd K hK
      obtain ⟨g, dd4, hg⟩ : ∃ g, ys 4 = .slice (some ⟨g, 0, none⟩) 1 1 ∧ W.heap[g]? = some (.cells #[.int .u8 48] 5) := hd 4 (by kernel_rfl) (by decide)
      have hcv : (convert 64 9 (.slice (some ⟨g, 0, none⟩) 1 1)).run Tryz.prog W = .ok (.string ⟨#[48]⟩) W := run_convert_bytes_back (P := Tryz.prog) W 64 9 5 ⟨g, 0, none⟩ 1 [48] Tryz.underlying64 Tryz.underlying5 Tryz.underlying9 (fun j hj => by obtain rfl : j = 0 := (by simpa using hj); simp [World.cell?, Addr.add, hg])
      clear hg
      go_simp
      have hK2 := hK (.string ⟨#[48]⟩) _ (Below.refl _ _) rfl
      simp (config := { decide := true }) only [upd, if_true, if_false, dd4] at hK2
      exact hK2
    refine ⟨?_, ?_⟩
    · refine SlotStep.stB rfl (by decide) (fun L hc h => clo_all (by kernel_rfl) hc h 6 (by decide)) (fun A B hb h => h.trans (hb.mono h.size)) (mkI0_up D V1.heap.size tm t ft f fa fb) ?_
      intro ys W hR hd K hK
      have dd5 : ys 5 = (.string ⟨#[48]⟩) := hd 5 (by kernel_rfl) (by decide)
      have hcv : ∀ W : World, (binOp .add 9 (.string ⟨#[82]⟩) (.string ⟨#[48]⟩)).run Tryz.prog W = .ok (.string ⟨#[82, 48]⟩) W := fun _ => by kernel_rfl
      go_simp
      have hK2 := hK (.string ⟨#[82, 48]⟩) _ (Below.refl _ _) rfl
      simp (config := { decide := true }) only [upd, if_true, if_false, dd5] at hK2
      exact hK2
    refine ⟨?_, ?_⟩
    · refine SlotStep.stB rfl (by decide) (fun L hc h => clo_all (by kernel_rfl) hc h 7 (by decide)) (fun A B hb h => h.trans (hb.mono h.size)) (mkI0_up D V1.heap.size tm t ft f fa fb) ?_
      intro ys W hR hd K hK
      go_simp
      have hK2 := hK (.slice (some ⟨W.heap.size, 0, none⟩) 3 3) _ ((Below.refl _ W).alloc (Nat.le_refl _) (.cells #[.string ⟨#[79, 112, 101, 110]⟩, .string ⟨#[70, 108, 117, 116, 101]⟩, .string ⟨#[82, 101, 101, 100]⟩] 9)) ⟨_, rfl, heap_new rfl⟩
      simp (config := { decide := true }) only [upd, if_true, if_false] at hK2
      exact hK2
    refine ⟨?_, ?_⟩
    · refine SlotStep.stB rfl (by decide) (fun L hc h => clo_all (by kernel_rfl) hc h 8 (by decide)) (fun A B hb h => h.trans (hb.mono h.size)) (mkI0_up D V1.heap.size tm t ft f fa fb) ?_
      intro ys W hR hd K hK
      go_simp
      have hK2 := hK (.pointer (some ⟨D, 0, none⟩)) _ (Below.refl _ _) rfl
      simp (config := { decide := true }) only [upd, if_true, if_false] at hK2
      exact hK2
    refine ⟨?_, ?_⟩
    · refine SlotStep.stB rfl (by decide) (fun L hc h => clo_all (by kernel_rfl) hc h 9 (by decide)) (fun A B hb h => h.trans (hb.mono h.size)) (mkI0_up D V1.heap.size tm t ft f fa fb) ?_
      intro ys W hR hd K hK
      have dd8 : ys 8 = (.pointer (some ⟨D, 0, none⟩)) := hd 8 (by kernel_rfl) (by decide)
      have hl := (hR.block D (Array.getElem?_eq_some_iff.1 HV.out.2.1).1).trans HV.out.2.1
      obtain ⟨c0, c1, c2, c3, c4, c5, c6, c7, c8⟩ := plan_cells hl
      clear hl
      go_simp
      have hK2 := hK (.int .u8 t) _ (Below.refl _ _) rfl
      simp (config := { decide := true }) only [upd, if_true, if_false, dd8] at hK2
      exact hK2
    refine ⟨?_, ?_⟩
    · refine SlotStep.stB rfl (by decide) (fun L hc h => clo_all (by kernel_rfl) hc h 10 (by decide)) (fun A B hb h => h.trans (hb.mono h.size)) (mkI0_up D V1.heap.size tm t ft f fa fb) ?_
      intro ys W hR hd K hK
      have dd9 : ys 9 = (.int .u8 t) := hd 9 (by kernel_rfl) (by decide)
      have htm := HTM.out
      go_simp
      have hK2 := hK (.int .u8 (tm : Int)) _ (Below.refl _ _) rfl
      simp (config := { decide := true }) only [upd, if_true, if_false, dd9] at hK2
      exact hK2
    refine ⟨?_, ?_⟩
    · refine SlotStep.stB rfl (by decide) (fun L hc h => clo_all (by kernel_rfl) hc h 11 (by decide)) (fun A B hb h => h.trans (hb.mono h.size)) (mkI0_up D V1.heap.size tm t ft f fa fb) ?_
      intro ys W hR hd K hK
      have dd10 : ys 10 = (.int .u8 (tm : Int)) := hd 10 (by kernel_rfl) (by decide)
      obtain ⟨g, dd7, hg⟩ : ∃ g, ys 7 = .slice (some ⟨g, 0, none⟩) 3 3 ∧ W.heap[g]? = some (.cells #[.string ⟨#[79, 112, 101, 110]⟩, .string ⟨#[70, 108, 117, 116, 101]⟩, .string ⟨#[82, 101, 101, 100]⟩] 9) := hd 7 (by kernel_rfl) (by decide)
      have HG := Lib.hid hg
      clear hg
      have h5 : (tm : Int) < 3 := by omega
      go_simp
      have hK2 := hK (.pointer (some ⟨g, tm, none⟩)) _ (Below.refl _ _) ⟨_, rfl, HG.out⟩
      simp (config := { decide := true }) only [upd, if_true, if_false, dd10, dd7] at hK2
      exact hK2
    refine ⟨?_, ?_⟩
    · refine SlotStep.stB rfl (by decide) (fun L hc h => clo_all (by kernel_rfl) hc h 12 (by decide)) (fun A B hb h => h.trans (hb.mono h.size)) (mkI0_up D V1.heap.size tm t ft f fa fb) ?_
      intro ys W hR hd K hK
      obtain ⟨g, dd11, hg⟩ : ∃ g, ys 11 = .pointer (some ⟨g, tm, none⟩) ∧ W.heap[g]? = some (.cells #[.string ⟨#[79, 112, 101, 110]⟩, .string ⟨#[70, 108, 117, 116, 101]⟩, .string ⟨#[82, 101, 101, 100]⟩] 9) := hd 11 (by kernel_rfl) (by decide)
      have ct := tone_at hg tm (by omega)
      clear hg
      go_simp
      have hK2 := hK (.string (toneB tm)) _ (Below.refl _ _) rfl
      simp (config := { decide := true }) only [upd, if_true, if_false, dd11] at hK2
      exact hK2
    refine ⟨?_, ?_⟩
    · refine SlotStep.stB rfl (by decide) (fun L hc h => clo_all (by kernel_rfl) hc h 13 (by decide)) (fun A B hb h => h.trans (hb.mono h.size)) (mkI0_up D V1.heap.size tm t ft f fa fb) ?_
      intro ys W hR hd K hK
      go_simp
      have hK2 := hK (.pointer (some ⟨D, 1, none⟩)) _ (Below.refl _ _) rfl
      simp (config := { decide := true }) only [upd, if_true, if_false] at hK2
      exact hK2
    refine ⟨?_, ?_⟩
    · refine SlotStep.stB rfl (by decide) (fun L hc h => clo_all (by kernel_rfl) hc h 14 (by decide)) (fun A B hb h => h.trans (hb.mono h.size)) (mkI0_up D V1.heap.size tm t ft f fa fb) ?_
      intro ys W hR hd K hK
      have dd13 : ys 13 = (.pointer (some ⟨D, 1, none⟩)) := hd 13 (by kernel_rfl) (by decide)
      have hl := (hR.block D (Array.getElem?_eq_some_iff.1 HV.out.2.1).1).trans HV.out.2.1
      obtain ⟨c0, c1, c2, c3, c4, c5, c6, c7, c8⟩ := plan_cells hl
      clear hl
      go_simp
      have hK2 := hK (.int .u8 ft) _ (Below.refl _ _) rfl
      simp (config := { decide := true }) only [upd, if_true, if_false, dd13] at hK2
      exact hK2
    refine ⟨?_, ?_⟩
    · refine SlotStep.stB rfl (by decide) (fun L hc h => clo_all (by kernel_rfl) hc h 15 (by decide)) (fun A B hb h => h.trans (hb.mono h.size)) (mkI0_up D V1.heap.size tm t ft f fa fb) ?_
      intro ys W hR hd K hK
      have dd14 : ys 14 = (.int .u8 ft) := hd 14 (by kernel_rfl) (by decide)
      go_simp
      refine (FT.out W).mono ?_
      rintro e w5 ⟨rfl, hb5⟩
      have hK2 := hK (.agg #[.int .i64 fa, .int .i64 fb]) _ hb5 rfl
      simp (config := { decide := true }) only [upd, if_true, if_false, dd14] at hK2
      exact hK2
    refine ⟨?_, ?_⟩
    · refine SlotStep.stB rfl (by decide) (fun L hc h => clo_all (by kernel_rfl) hc h 16 (by decide)) (fun A B hb h => h.trans (hb.mono h.size)) (mkI0_up D V1.heap.size tm t ft f fa fb) ?_
      intro ys W hR hd K hK
      go_simp
      have hK2 := hK (.pointer (some ⟨D, 2, none⟩)) _ (Below.refl _ _) rfl
      simp (config := { decide := true }) only [upd, if_true, if_false] at hK2
      exact hK2
    refine ⟨?_, ?_⟩
    · refine SlotStep.stB rfl (by decide) (fun L hc h => clo_all (by kernel_rfl) hc h 17 (by decide)) (fun A B hb h => h.trans (hb.mono h.size)) (mkI0_up D V1.heap.size tm t ft f fa fb) ?_
      intro ys W hR hd K hK
      have dd16 : ys 16 = (.pointer (some ⟨D, 2, none⟩)) := hd 16 (by kernel_rfl) (by decide)
      have hl := (hR.block D (Array.getElem?_eq_some_iff.1 HV.out.2.1).1).trans HV.out.2.1
      obtain ⟨c0, c1, c2, c3, c4, c5, c6, c7, c8⟩ := plan_cells hl
      clear hl
      go_simp
      have hK2 := hK (.int .i8 f) _ (Below.refl _ _) rfl
      simp (config := { decide := true }) only [upd, if_true, if_false, dd16] at hK2
      exact hK2
    refine ⟨?_, ?_⟩
    · refine SlotStep.stB rfl (by decide) (fun L hc h => clo_all (by kernel_rfl) hc h 18 (by decide)) (fun A B hb h => h.trans (hb.mono h.size)) (mkI0_up D V1.heap.size tm t ft f fa fb) ?_
      intro ys W hR hd K hK
      have dd17 : ys 17 = (.int .i8 f) := hd 17 (by kernel_rfl) (by decide)
      have wq := wrap_in (q := f) (by omega) (by omega)
      go_simp
      have hK2 := hK (.int .i64 f) _ (Below.refl _ _) rfl
      simp (config := { decide := true }) only [upd, if_true, if_false, dd17] at hK2
      exact hK2
    refine ⟨?_, ?_⟩
    · refine SlotStep.stB rfl (by decide) (fun L hc h => clo_all (by kernel_rfl) hc h 19 (by decide)) (fun A B hb h => h.trans (hb.mono h.size)) (mkI0_up D V1.heap.size tm t ft f fa fb) ?_
      intro ys W hR hd K hK
      have dd6 : ys 6 = (.string ⟨#[82, 48]⟩) := hd 6 (by kernel_rfl) (by decide)
      have dd12 : ys 12 = (.string (toneB tm)) := hd 12 (by kernel_rfl) (by decide)
      have dd15 : ys 15 = (.agg #[.int .i64 fa, .int .i64 fb]) := hd 15 (by kernel_rfl) (by decide)
      have dd18 : ys 18 = (.int .i64 f) := hd 18 (by kernel_rfl) (by decide)
      go_simp
      have hK2 := hK (.agg #[.string ⟨#[82, 48]⟩, .string (toneB tm), .int .i64 fa, .int .i64 fb, .int .i64 f, .slice none 0 0]) _ (Below.refl _ _) rfl
      simp (config := { decide := true }) only [upd, if_true, if_false, dd6, dd12, dd15, dd18] at hK2
      exact hK2
    refine ⟨?_, ?_⟩
    · refine SlotStep.stB rfl (by decide) (fun L hc h => clo_all (by kernel_rfl) hc h 20 (by decide)) (fun A B hb h => h.trans (hb.mono h.size)) (mkI0_up D V1.heap.size tm t ft f fa fb) ?_
      intro ys W hR hd K hK
      go_simp
      have hK2 := hK (.pointer (some ⟨W.heap.size, 0, none⟩)) _ ((Below.refl _ W).alloc (Nat.le_refl _) (.cells #[.string ⟨#[]⟩, .string ⟨#[]⟩, .int .i64 0, .int .i64 0, .int .i64 0, .slice none 0 0] 26)) ⟨_, rfl, hR.size, heap_new rfl⟩
      simp (config := { decide := true }) only [upd, if_true, if_false] at hK2
      exact hK2
    refine ⟨?_, ?_⟩
    · refine SlotStep.stS rfl rfl (by decide) (fun _ _ _ _ => trivial) (fun _ => trivial) ?_
      intro ys W hR hd K hK
      have dd19 : ys 19 = .agg #[.string ⟨#[82, 48]⟩, .string (toneB tm), .int .i64 fa, .int .i64 fb, .int .i64 f, .slice none 0 0] := hd 19 (by kernel_rfl) (by decide)
      obtain ⟨E, dd20, hE, hp⟩ : ∃ E, ys 20 = .pointer (some ⟨E, 0, none⟩) ∧ V1.heap.size ≤ E ∧ W.heap[E]? = some (.cells #[.string ⟨#[]⟩, .string ⟨#[]⟩, .int .i64 0, .int .i64 0, .int .i64 0, .slice none 0 0] 26) := hd 20 (by kernel_rfl) (by decide)
      obtain ⟨c0, c1, c2, c3, c4, c5⟩ := cell6_at hp
      obtain ⟨f0, f1, f2, f3, f4, f5⟩ := free6_at hp
      have HP := Lib.hid hp
      clear hp
      go_simp
      have hK2 := hK undef _ ⟨E, dd20, hE, set6_all HP.out, below6 hR hE _ _ _ _ _ _⟩
      simp (config := { decide := true }) only [upd, if_true, if_false, dd19, dd20] at hK2
      exact hK2
    trivial
    · intro L5 ys5 U hL5 hI5
      obtain ⟨⟨E, d20, hE, hpE, hb⟩, _⟩ := st_end (by decide) hL5 hI5
      simp only [d20]
      generalize ys5 0 = y0 at *
      generalize ys5 1 = y1 at *
      generalize ys5 2 = y2 at *
      generalize ys5 3 = y3 at *
      generalize ys5 4 = y4 at *
      generalize ys5 5 = y5 at *
      generalize ys5 6 = y6 at *
      generalize ys5 7 = y7 at *
      generalize ys5 8 = y8 at *
      generalize ys5 9 = y9 at *
      generalize ys5 10 = y10 at *
      generalize ys5 11 = y11 at *
      generalize ys5 12 = y12 at *
      generalize ys5 13 = y13 at *
      generalize ys5 14 = y14 at *
      generalize ys5 15 = y15 at *
      generalize ys5 16 = y16 at *
      generalize ys5 17 = y17 at *
      generalize ys5 18 = y18 at *
      generalize ys5 19 = y19 at *
      clear hL5 hI5 d20
      have pD := (hb.block D (by omega)).trans HV.out.2.1
      have pZ := (hb.block (D + 1) (by omega)).trans HV.out.2.2
      have hwU := HV.out.1.trans (hb.mono (by omega))
      have hEU := (Array.getElem?_eq_some_iff.1 hpE).1
      obtain ⟨B, hB⟩ : ∃ B, U.heap.size = B := ⟨_, rfl⟩
      rw [hB] at hEU
      have hDE : D + 1 < E := by omega
      have HU := Lib.hid (And.intro hwU (And.intro pD (And.intro pZ hpE)))
      have HBU := Lib.hid (show B ≤ U.heap.size by omega)
      clear hb pD pZ hwU hpE hE hVs HV HVE FT hB
      go_wp2_with fail
      go_loopw [6] (fun i wr => ∃ (k : Nat) (v : Value), k ≤ q + 1 ∧ i = .int .i64 (k : Int) ∧ Below D w wr ∧ wr.heap[D]? = some (.cells #[.int .u8 t, .int .u8 ft, .int .i8 f, .int .u8 p, .int .u8 w0, .int .u8 w1, .int .u8 w2, .int .u8 w3, .int .u8 w4] 47) ∧ wr.heap[D + 1]? = some (.cells #[.string ⟨#[]⟩, .string ⟨#[]⟩, .int .i64 0, .int .i64 0, .int .i64 0, .slice none 0 0] 26) ∧ wr.heap[E]? = some (.cells #[.string ⟨#[82, 48]⟩, .string (toneB tm), .int .i64 fa, .int .i64 fb, .int .i64 f, v] 26) ∧ B ≤ wr.heap.size ∧ wr.ownsRow B 3 1 v k (rowL (xw w0 w1 w2 w3 w4) k)) (fun i _ => ((q : Int) + 1 - intOf i).toNat)
      case atStart => exact ⟨0, .slice none 0 0, Nat.zero_le _, rfl, HU.out.1, HU.out.2.1, HU.out.2.2.1, HU.out.2.2.2, HBU.out, World.ownsRow_nil _ _ _ _⟩
      case round =>
        obtain ⟨k, v, hk, rfl, hw, pD, pZ, pE, hBr, hrow⟩ := hrel
        obtain ⟨sa, sm, sc, rfl⟩ : ∃ sa m c, v = .slice sa m c := by
          rcases hrow.2 with ⟨h, _⟩ | ⟨g, c, _, h, _⟩
          · exact ⟨_, _, _, h⟩
          · exact ⟨_, _, _, h⟩
        obtain rfl : sm = k := by
          rcases hrow.2 with ⟨h, h0⟩ | ⟨g, c, _, h, _⟩
          · cases h; exact h0.symm
          · cases h; rfl
        clear HU HBU
        obtain ⟨c0, c1, c2, c3, c4, c5, c6, c7, c8⟩ := plan_cells pD
        have hq := HQ.out
        have q1 := wrap_in (q := (q : Int)) (by omega) (by omega)
        have q2 := wrap_in (q := 1 + (q : Int)) (by omega) (by omega)
        by_cases hkp : sm < q + 1
        · have hki : (sm : Int) < 1 + (q : Int) := by omega
          have wk := wrap_in (q := (sm : Int) + 1) (by omega) (by omega)
          obtain ⟨m, hm⟩ : ∃ m, sm % 5 = m := ⟨_, rfl⟩
          obtain ⟨x, hx⟩ : ∃ x, xw w0 w1 w2 w3 w4 sm = x := ⟨_, rfl⟩
          have bx := XB.out sm
          rw [hx] at bx
          have HMM := Lib.hid (tmod5 sm m hm)
          have HX := Lib.hid (wrap_in (q := x) (by omega) (by omega))
          have H5 := Lib.hid (show (m : Int) < 5 by omega)
          have HWC := Lib.hid (fun (W : World) (h : W.heap[D]? = some (.cells #[.int .u8 t, .int .u8 ft, .int .i8 f, .int .u8 p, .int .u8 w0, .int .u8 w1, .int .u8 w2, .int .u8 w3, .int .u8 w4] 47)) => hx ▸ plan_wind h sm m hm)
          have HRS := Lib.hid (show rowL (xw w0 w1 w2 w3 w4) (sm + 1) = rowL (xw w0 w1 w2 w3 w4) sm ++ [.int .i64 x] by rw [← hx]; simp [rowL, List.range_succ])
          have HP0 := Lib.hid pD
          have HPZ := Lib.hid pZ
          have HP1 := Lib.hid pE
          have HW := Lib.hid hw
          have HB := Lib.hid hBr
          have HROW := Lib.hid hrow
          have hEw := (Array.getElem?_eq_some_iff.1 pE).1
          clear pD pZ pE hw hBr hrow hx hm bx
          go_upto_region 5 with fail
          clear c0 c1 c2 c3 c4 c5 c6 c7 c8
          refine wp_region_slots_at rfl rfl (fun base ys => ((((((((((base.set 36 (ys 0)).set 37 (ys 1)).set 38 (ys 2)).set 39 (ys 3)).set 40 (ys 4)).set 41 (ys 5)).set 42 (ys 6)).set 43 (ys 7)).set 44 (ys 8)).set 45 (ys 9)).set 46 (ys 10)) (ApI _ 9 (Below wr.heap.size wr) (mlI0 D E sm m sa sc x) (mlJ0 D E sm m sa sc x) (fun v A => Below B wr A ∧ A.ownsRow B 3 1 v (sm + 1) (rowL (xw w0 w1 w2 w3 w4) sm ++ [.int .i64 x])) (fun A => ∃ v, Below D w A ∧ A.heap[D]? = some (.cells #[.int .u8 t, .int .u8 ft, .int .i8 f, .int .u8 p, .int .u8 w0, .int .u8 w1, .int .u8 w2, .int .u8 w3, .int .u8 w4] 47) ∧ A.heap[D + 1]? = some (.cells #[.string ⟨#[]⟩, .string ⟨#[]⟩, .int .i64 0, .int .i64 0, .int .i64 0, .slice none 0 0] 26) ∧ A.heap[E]? = some (.cells #[.string ⟨#[82, 48]⟩, .string (toneB tm), .int .i64 fa, .int .i64 fb, .int .i64 f, v] 26) ∧ B ≤ A.heap.size ∧ A.ownsRow B 3 1 v (sm + 1) (rowL (xw w0 w1 w2 w3 w4) (sm + 1)))) (fun | 0 => u36 | 1 => u37 | 2 => u38 | 3 => u39 | 4 => u40 | 5 => u41 | 6 => u42 | 7 => u43 | 8 => u44 | 9 => u45 | 10 => u46 | _ => undef) (by kernel_rfl) (ap_start (by decide) ((Below.refl _ _).trans ⟨rfl, rfl, rfl, Nat.le_refl _, fun _ _ => rfl⟩)) ?h2
          case h2 =>
            intro FF hFF
            simp only [List.set_cons_succ, List.set_cons_zero] at hFF
            subst hFF
            refine ⟨rfl, ?_, ?_⟩
            refine ⟨?_, ?_⟩
            · refine SlotStep.apB (by kernel_rfl) rfl (by decide) (by decide) (fun L hc h => (clo_at hc 1 0 rfl (by kernel_rfl) (clo_at hc 9 1 rfl (by kernel_rfl) h))) (fun A B hb h => h.trans (hb.mono h.size)) (mlI0_up D E sm m sa sc x) ?_
              intro ys W hR hd K hK
              go_simp
              have hK2 := hK (.pointer (some ⟨E, 5, none⟩)) _ (Below.refl _ _) rfl
              simp (config := { decide := true }) only [upd, if_true, if_false] at hK2
              exact hK2
            refine ⟨?_, ?_⟩
            · refine SlotStep.apB (by kernel_rfl) rfl (by decide) (by decide) (fun L hc h => (clo_at hc 9 1 rfl (by kernel_rfl) h)) (fun A B hb h => h.trans (hb.mono h.size)) (mlI0_up D E sm m sa sc x) ?_
              intro ys W hR hd K hK
              have dd0 : ys 0 = (.pointer (some ⟨E, 5, none⟩)) := hd 0 (by kernel_rfl) (by decide)
              have hl := (hR.block E (Array.getElem?_eq_some_iff.1 HP1.out).1).trans HP1.out
              obtain ⟨c0, c1, c2, c3, c4, c5⟩ := cell6_at hl
              clear hl
              go_simp
              have hK2 := hK (.slice sa sm sc) _ (Below.refl _ _) rfl
              simp (config := { decide := true }) only [upd, if_true, if_false, dd0] at hK2
              exact hK2
            refine ⟨?_, ?_⟩
            · refine SlotStep.apB (by kernel_rfl) rfl (by decide) (by decide) (fun L hc h => (clo_at hc 3 2 rfl (by kernel_rfl) (clo_at hc 5 3 rfl (by kernel_rfl) (clo_at hc 6 5 rfl (by kernel_rfl) (clo_at hc 7 6 rfl (by kernel_rfl) (clo_at hc 8 7 rfl (by kernel_rfl) (clo_at hc 9 8 rfl (by kernel_rfl) h))))))) (fun A B hb h => h.trans (hb.mono h.size)) (mlI0_up D E sm m sa sc x) ?_
              intro ys W hR hd K hK
              go_simp
              have hK2 := hK (.int .i64 (sm : Int)) _ (Below.refl _ _) rfl
              simp (config := { decide := true }) only [upd, if_true, if_false] at hK2
              exact hK2
            refine ⟨?_, ?_⟩
            · refine SlotStep.apB (by kernel_rfl) rfl (by decide) (by decide) (fun L hc h => (clo_at hc 5 3 rfl (by kernel_rfl) (clo_at hc 6 5 rfl (by kernel_rfl) (clo_at hc 7 6 rfl (by kernel_rfl) (clo_at hc 8 7 rfl (by kernel_rfl) (clo_at hc 9 8 rfl (by kernel_rfl) h)))))) (fun A B hb h => h.trans (hb.mono h.size)) (mlI0_up D E sm m sa sc x) ?_
              intro ys W hR hd K hK
              have dd2 : ys 2 = (.int .i64 (sm : Int)) := hd 2 (by kernel_rfl) (by decide)
              have hmm := HMM.out
              go_simp
              have hK2 := hK (.int .i64 (m : Int)) _ (Below.refl _ _) rfl
              simp (config := { decide := true }) only [upd, if_true, if_false, dd2] at hK2
              exact hK2
            refine ⟨?_, ?_⟩
            · refine SlotStep.apB (by kernel_rfl) rfl (by decide) (by decide) (fun L hc h => (clo_at hc 5 4 rfl (by kernel_rfl) (clo_at hc 6 5 rfl (by kernel_rfl) (clo_at hc 7 6 rfl (by kernel_rfl) (clo_at hc 8 7 rfl (by kernel_rfl) (clo_at hc 9 8 rfl (by kernel_rfl) h)))))) (fun A B hb h => h.trans (hb.mono h.size)) (mlI0_up D E sm m sa sc x) ?_
              intro ys W hR hd K hK
              go_simp
              have hK2 := hK (.pointer (some ⟨D, 4, none⟩)) _ (Below.refl _ _) rfl
              simp (config := { decide := true }) only [upd, if_true, if_false] at hK2
              exact hK2
            refine ⟨?_, ?_⟩
            · refine SlotStep.apB (by kernel_rfl) rfl (by decide) (by decide) (fun L hc h => (clo_at hc 6 5 rfl (by kernel_rfl) (clo_at hc 7 6 rfl (by kernel_rfl) (clo_at hc 8 7 rfl (by kernel_rfl) (clo_at hc 9 8 rfl (by kernel_rfl) h))))) (fun A B hb h => h.trans (hb.mono h.size)) (mlI0_up D E sm m sa sc x) ?_
              intro ys W hR hd K hK
              have dd3 : ys 3 = (.int .i64 (m : Int)) := hd 3 (by kernel_rfl) (by decide)
              have dd4 : ys 4 = (.pointer (some ⟨D, 4, none⟩)) := hd 4 (by kernel_rfl) (by decide)
              have h5 := H5.out
              go_simp
              have hK2 := hK (.pointer (some ⟨D, 4 + m, none⟩)) _ (Below.refl _ _) rfl
              simp (config := { decide := true }) only [upd, if_true, if_false, dd3, dd4] at hK2
              exact hK2
            refine ⟨?_, ?_⟩
            · refine SlotStep.apB (by kernel_rfl) rfl (by decide) (by decide) (fun L hc h => (clo_at hc 7 6 rfl (by kernel_rfl) (clo_at hc 8 7 rfl (by kernel_rfl) (clo_at hc 9 8 rfl (by kernel_rfl) h)))) (fun A B hb h => h.trans (hb.mono h.size)) (mlI0_up D E sm m sa sc x) ?_
              intro ys W hR hd K hK
              have dd5 : ys 5 = (.pointer (some ⟨D, 4 + m, none⟩)) := hd 5 (by kernel_rfl) (by decide)
              have hl := (hR.block D (Array.getElem?_eq_some_iff.1 HP0.out).1).trans HP0.out
              have c0 := HWC.out W hl
              clear hl
              go_simp
              have hK2 := hK (.int .u8 x) _ (Below.refl _ _) rfl
              simp (config := { decide := true }) only [upd, if_true, if_false, dd5] at hK2
              exact hK2
            refine ⟨?_, ?_⟩
            · refine SlotStep.apB (by kernel_rfl) rfl (by decide) (by decide) (fun L hc h => (clo_at hc 8 7 rfl (by kernel_rfl) (clo_at hc 9 8 rfl (by kernel_rfl) h))) (fun A B hb h => h.trans (hb.mono h.size)) (mlI0_up D E sm m sa sc x) ?_
              intro ys W hR hd K hK
              have dd6 : ys 6 = (.int .u8 x) := hd 6 (by kernel_rfl) (by decide)
              have wq := HX.out
              go_simp
              have hK2 := hK (.int .i64 x) _ (Below.refl _ _) rfl
              simp (config := { decide := true }) only [upd, if_true, if_false, dd6] at hK2
              exact hK2
            refine ⟨?_, ?_⟩
            · refine SlotStep.apB (by kernel_rfl) rfl (by decide) (by decide) (fun L hc h => (clo_at hc 9 8 rfl (by kernel_rfl) h)) (fun A B hb h => h.trans (hb.mono h.size)) (mlI0_up D E sm m sa sc x) ?_
              intro ys W hR hd K hK
              have dd7 : ys 7 = (.int .i64 x) := hd 7 (by kernel_rfl) (by decide)
              go_simp
              have hK2 := hK (.slice (some ⟨W.heap.size, 0, none⟩) 1 1) _ ((Below.refl _ W).alloc (Nat.le_refl _) (.cells #[.int .i64 x] 3)) ⟨_, rfl, heap_new rfl⟩
              simp (config := { decide := true }) only [upd, if_true, if_false, dd7] at hK2
              exact hK2
            refine ⟨?_, ?_⟩
            · refine SlotStep.apA (by kernel_rfl) rfl rfl (by decide) (mlI0_J D E sm m sa sc x) (fun _ => trivial) ?_
              intro ys W hR hd K hK
              have dd1 : ys 1 = (.slice sa sm sc) := hd 1 (by kernel_rfl) (by decide)
              obtain ⟨g, dd8, hg⟩ : ∃ g, ys 8 = .slice (some ⟨g, 0, none⟩) 1 1 ∧ W.heap[g]? = some (.cells #[.int .i64 x] 3) := hd 8 (by kernel_rfl) (by decide)
              have HRW := Lib.hid (owns_below HROW.out hR)
              refine step_append_own rfl _ _ 24 rfl B 3 i0 (.int .i64 0) 1 8 Tryz.underlying24 hi0 hz0 hz1 hz2 rfl (by decide) (.slice sa sm sc) sm _ (by simp [Act.eval, dd1]) HRW.out ⟨g, 0, none⟩ 1 1 [.int .i64 x] (by simp [Act.eval, dd8]) rfl (by intro j u hj; match j, hj with | 0, hj => (simp at hj; subst hj; simp [World.cell?, Addr.add, hg]) | _ + 1, hj => simp at hj) (by simp [Value.oneCell']) (by unfold maxLen; omega) (by omega) (Nat.le_trans HB.out hR.size) ?_
              intro v' w6 hown' hgrow _
              have hg6 := grown_below0 (Nat.le_trans HB.out hR.size) HRW.out hgrow
              go_simp
              have hK2 := hK v' w6 ⟨(hR.mono HB.out).trans (hg6.mono (Nat.le_refl _)), hown'⟩
              simp (config := { decide := true }) only [upd, if_true, if_false, dd1, dd8] at hK2
              exact hK2
            refine ⟨?_, ?_⟩
            · refine SlotStep.apP (by kernel_rfl) rfl (by decide) (by decide) (mlI0_J D E sm m sa sc x) ?_
              intro ys W hd K hK
              go_simp
              have hK2 := hK (.pointer (some ⟨E, 5, none⟩)) rfl (fun _ => rfl)
              simp (config := { decide := true }) only [upd, if_true, if_false] at hK2
              exact hK2
            refine ⟨?_, ?_⟩
            · refine SlotStep.apS rfl rfl (by kernel_rfl) (by decide) ?_
              intro ys W ⟨hw6, hown6⟩ hd K hK
              have dd10 : ys 10 = .pointer (some ⟨E, 5, none⟩) := hd 10 (by kernel_rfl) (by decide)
              obtain ⟨g', cap', dd9⟩ := ownsRow_succ hown6
              have HP6 := Lib.hid ((hw6.block E (by omega)).trans HP1.out)
              have HP7 := Lib.hid ((hw6.block D (by omega)).trans HP0.out)
              have HP8 := Lib.hid ((hw6.block (D + 1) (by omega)).trans HPZ.out)
              rw [← HRS.out] at hown6
              obtain ⟨c0, c1, c2, c3, c4, c5⟩ := cell6_at HP6.out
              obtain ⟨f0, f1, f2, f3, f4, f5⟩ := free6_at HP6.out
              rw [dd9] at hown6
              have HO6 := Lib.hid hown6
              have HW6 := Lib.hid hw6
              clear hown6 hw6
              go_simp
              have hK2 := hK undef _ ⟨_, (HW.out.trans (HW6.out.mono (by omega))).setCell (p := ⟨E, 5, none⟩) (by simp; omega) _, (set_other (by omega)).trans HP7.out, (set_other (by omega)).trans HP8.out, set6_5 HP6.out, by have := HW6.out.size; have := HB.out; simp; omega, owns_set HO6.out (by omega)⟩
              simp (config := { decide := true }) only [upd, if_true, if_false, dd10, dd9] at hK2
              exact hK2
            trivial
            · intro L6 ys6 U2 hL6 hI6
              obtain ⟨v2, hw2, pD2, pZ2, pE2, hB2, hrow2⟩ := ap_end (by decide) hL6 hI6
              have HG := Lib.hid (And.intro hw2 (And.intro pD2 (And.intro pZ2 (And.intro pE2 (And.intro hB2 hrow2)))))
              clear hw2 pD2 pZ2 pE2 hB2 hrow2 hL6 hI6
              generalize ys6 0 = z0 at *
              generalize ys6 1 = z1 at *
              generalize ys6 2 = z2 at *
              generalize ys6 3 = z3 at *
              generalize ys6 4 = z4 at *
              generalize ys6 5 = z5 at *
              generalize ys6 6 = z6 at *
              generalize ys6 7 = z7 at *
              generalize ys6 8 = z8 at *
              generalize ys6 9 = z9 at *
              generalize ys6 10 = z10 at *
              go_wp2_with fail
              go_roundw
              case rel => exact ⟨sm + 1, v2, by omega, by go_num, HG.out⟩
              case measure => simp [intOf]; omega
        · obtain rfl : sm = q + 1 := by omega
          have hki : ¬ ((q : Int) + 1) < 1 + (q : Int) := by omega
          have HR := Lib.hid (wd_of (X := xw w0 w1 w2 w3 w4) hrow (fun i hi => rowL_at hi))
          obtain ⟨d0, d1, d2, d3, d4, d5⟩ := cell6_at pE
          obtain ⟨f0, f1, f2, f3, f4, f5⟩ := free6_at pZ
          obtain ⟨e0, e1, e2, e3, e4, e5⟩ := cell6_at pZ
          have hE := set6_all (x0 := .string ⟨#[82, 48]⟩) (x1 := .string (toneB tm)) (x2 := .int .i64 fa) (x3 := .int .i64 fb) (x4 := .int .i64 f) (x5 := (.slice sa (q + 1) sc)) pZ
          have HWW := Lib.hid (below6 hw (Nat.le_succ D) (.string ⟨#[82, 48]⟩) (.string (toneB tm)) (.int .i64 fa) (.int .i64 fb) (.int .i64 f) (.slice sa (q + 1) sc))
          obtain ⟨Z, hZ⟩ : ∃ Z, ((((((wr.setCell ⟨D + 1, 0, none⟩ (.string ⟨#[82, 48]⟩)).setCell ⟨D + 1, 1, none⟩ (.string (toneB tm))).setCell ⟨D + 1, 2, none⟩ (.int .i64 fa)).setCell ⟨D + 1, 3, none⟩ (.int .i64 fb)).setCell ⟨D + 1, 4, none⟩ (.int .i64 f)).setCell ⟨D + 1, 5, none⟩ (.slice sa (q + 1) sc)) = Z := ⟨_, rfl⟩
          have HZ := Lib.hid hZ
          have HF := Lib.hid (show Wd Z (.slice sa (q + 1) sc) (q + 1) (xw w0 w1 w2 w3 w4) ∧ Below D w Z by
            rw [← hZ]
            exact ⟨wd_of (X := xw w0 w1 w2 w3 w4) (owns_set (owns_set (owns_set (owns_set (owns_set (owns_set hrow (by omega)) (by omega)) (by omega)) (by omega)) (by omega)) (by omega)) (fun i hi => rowL_at hi), HWW.out⟩)
          rw [hZ] at hE
          obtain ⟨g0, g1, g2, g3, g4, g5⟩ := cell6_at hE
          clear hE pD pZ pE hw hrow hZ HR HWW
          go_wp2
          rw [HZ.out]
          exact bodyPost_ret (v := .agg #[.string ⟨#[82, 48]⟩, .string (toneB tm), .int .i64 fa, .int .i64 fb, .int .i64 f, .slice sa (q + 1) sc]) (by simp [results, Tryz.results31, go_sem, g0, g1, g2, g3, g4, g5]) rfl ⟨⟨_, rfl, HF.out.1⟩, HF.out.2⟩

end Go.Proofs.YtbkbncapgljfaaaGreatDoor
