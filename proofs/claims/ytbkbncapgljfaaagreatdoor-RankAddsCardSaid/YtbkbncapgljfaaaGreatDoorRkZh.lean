/- The walk of RankAdds. -/
import Derived.Test.YtbkbncapgljfaaaGreatDoorRkZg
import Derived.Test.YtbkbncapgljfaaaGreatDoorRkZj
namespace Go.Proofs.YtbkbncapgljfaaaGreatDoor
open Go Go.RowKit Go.Shelf

theorem wd_keep {V A : World} {v : Value} {n B E : Nat} {X : Nat → Int} (h : Wd V v n X) (hN : NewS B v) (hE : E < B) (hs : V.heap.size ≤ A.heap.size) (hk : ∀ i, i < V.heap.size → i ≠ E → A.heap[i]? = V.heap[i]?) : Wd A v n X := by
  rcases h with h | ⟨g, o, cap, h1, h2, h3, h4⟩
  · exact .inl h
  · have hg : B ≤ g := hN _ _ _ h1
    exact .inr ⟨g, o, cap, h1, h2, Nat.lt_of_lt_of_le h3 hs, fun k hkn => by rw [← h4 k hkn]; simp only [World.cell?]; rw [hk g h3 (by omega)]⟩
theorem new_below {B : Nat} {v : Value} {B' : Nat} (h : NewS B v) (hb : B' ≤ B) : NewS B' v := fun a n c e => Nat.le_trans hb (h a n c e)

def jdI (DR ED m : Nat) (f : Int) (sl xv : Value) : Nat → Value → Prop
  | 0, v => v = .pointer (some ⟨DR, 4, none⟩)
  | 1, v => v = .int .i64 f
  | 2, v => v = xv
  | 3, v => v = .int .i64 m
  | 4, v => v = .int .i64 (f - m)
  | 6, v => v = xv
  | 8, v => v = .pointer (some ⟨DR, 5, none⟩)
  | 9, v => v = sl
  | 11, v => v = .pointer (some ⟨ED, 4, none⟩)
  | 13, v => v = .pointer (some ⟨ED, 5, none⟩)
  | _, _ => True
def Kp (V : World) (ED : Nat) (A : World) : Prop := Below ED V A ∧ ∀ i, i < V.heap.size → i ≠ ED → A.heap[i]? = V.heap[i]?
def jdS (V : World) (ED n m : Nat) (X Y : Nat → Int) (nm tn : ByteArray) (a b f : Int) (sl : Value) : Nat → (Nat → Value) → World → Prop
  | 0, _, A => Below V.heap.size V A
  | 1, ys, A => Below V.heap.size V A ∧ A.ownsRow V.heap.size 3 1 (ys 5) 0 []
  | 2, ys, A => Below V.heap.size V A ∧ A.ownsRow V.heap.size 3 1 (ys 7) m (rowL Y m)
  | 3, ys, A => Below V.heap.size V A ∧ A.ownsRow V.heap.size 3 1 (ys 10) (m + n) (rowL Y m ++ rowL X n)
  | 4, ys, A => Kp V ED A ∧ A.heap[ED]? = some (.cells #[.string nm, .string tn, .int .i64 a, .int .i64 b, .int .i64 (f - m), sl] 26) ∧ A.ownsRow V.heap.size 3 1 (ys 10) (m + n) (rowL Y m ++ rowL X n)
  | _, _, A => ∃ sr cr, Kp V ED A ∧ A.heap[ED]? = some (.cells #[.string nm, .string tn, .int .i64 a, .int .i64 b, .int .i64 (f - m), .slice sr (m + n) cr] 26) ∧ A.ownsRow V.heap.size 3 1 (.slice sr (m + n) cr) (m + n) (rowL Y m ++ rowL X n)
theorem jd_read {V : World} {ED n m : Nat} {X Y : Nat → Int} {nm tn : ByteArray} {a b f : Int} {sl : Value} (hE : ED ≤ V.heap.size) : ∀ (k : Nat) (ys : Nat → Value) (A : World), jdS V ED n m X Y nm tn a b f sl k ys A → ∀ i, i < ED → A.heap[i]? = V.heap[i]?
  | 0, _, _, h, i, hi => h.block i (by omega)
  | 1, _, _, h, i, hi => h.1.block i (by omega)
  | 2, _, _, h, i, hi => h.1.block i (by omega)
  | 3, _, _, h, i, hi => h.1.block i (by omega)
  | 4, _, _, h, i, hi => h.1.1.block i hi
  | _ + 5, _, _, ⟨_, _, h, _⟩, i, hi => h.1.block i hi
def jdC (k : Nat) : Nat := [5, 7, 10, 12, 14].getD k 0
theorem jdC_inj0 : ∀ a, a < 5 → ∀ b, b < 5 → jdC a = jdC b → a = b := by decide
theorem jdC_inj : ∀ a b, a < 5 → b < 5 → jdC a = jdC b → a = b := fun a b ha hb => jdC_inj0 a ha b hb
theorem jdC_lt : ∀ j, j < 5 → jdC j < 15 := by decide
theorem jdS_0 {V : World} {ED n m : Nat} {X Y : Nat → Int} {nm tn : ByteArray} {a b f : Int} {sl : Value} : ∀ (k : Nat) (ys : Nat → Value) (v : Value) (A : World), jdS V ED n m X Y nm tn a b f sl k ys A → jdS V ED n m X Y nm tn a b f sl k (upd ys 0 v) A
  | 0, _, _, _, h => h
  | 1, _, _, _, h => h
  | 2, _, _, _, h => h
  | 3, _, _, _, h => h
  | 4, _, _, _, h => h
  | _ + 5, _, _, _, h => h
theorem jdC_0 : ∀ j, j < 5 → jdC j ≠ 0 := by decide
theorem jdS_1 {V : World} {ED n m : Nat} {X Y : Nat → Int} {nm tn : ByteArray} {a b f : Int} {sl : Value} : ∀ (k : Nat) (ys : Nat → Value) (v : Value) (A : World), jdS V ED n m X Y nm tn a b f sl k ys A → jdS V ED n m X Y nm tn a b f sl k (upd ys 1 v) A
  | 0, _, _, _, h => h
  | 1, _, _, _, h => h
  | 2, _, _, _, h => h
  | 3, _, _, _, h => h
  | 4, _, _, _, h => h
  | _ + 5, _, _, _, h => h
theorem jdC_1 : ∀ j, j < 5 → jdC j ≠ 1 := by decide
theorem jdS_2 {V : World} {ED n m : Nat} {X Y : Nat → Int} {nm tn : ByteArray} {a b f : Int} {sl : Value} : ∀ (k : Nat) (ys : Nat → Value) (v : Value) (A : World), jdS V ED n m X Y nm tn a b f sl k ys A → jdS V ED n m X Y nm tn a b f sl k (upd ys 2 v) A
  | 0, _, _, _, h => h
  | 1, _, _, _, h => h
  | 2, _, _, _, h => h
  | 3, _, _, _, h => h
  | 4, _, _, _, h => h
  | _ + 5, _, _, _, h => h
theorem jdC_2 : ∀ j, j < 5 → jdC j ≠ 2 := by decide
theorem jdS_3 {V : World} {ED n m : Nat} {X Y : Nat → Int} {nm tn : ByteArray} {a b f : Int} {sl : Value} : ∀ (k : Nat) (ys : Nat → Value) (v : Value) (A : World), jdS V ED n m X Y nm tn a b f sl k ys A → jdS V ED n m X Y nm tn a b f sl k (upd ys 3 v) A
  | 0, _, _, _, h => h
  | 1, _, _, _, h => h
  | 2, _, _, _, h => h
  | 3, _, _, _, h => h
  | 4, _, _, _, h => h
  | _ + 5, _, _, _, h => h
theorem jdC_3 : ∀ j, j < 5 → jdC j ≠ 3 := by decide
theorem jdS_4 {V : World} {ED n m : Nat} {X Y : Nat → Int} {nm tn : ByteArray} {a b f : Int} {sl : Value} : ∀ (k : Nat) (ys : Nat → Value) (v : Value) (A : World), jdS V ED n m X Y nm tn a b f sl k ys A → jdS V ED n m X Y nm tn a b f sl k (upd ys 4 v) A
  | 0, _, _, _, h => h
  | 1, _, _, _, h => h
  | 2, _, _, _, h => h
  | 3, _, _, _, h => h
  | 4, _, _, _, h => h
  | _ + 5, _, _, _, h => h
theorem jdC_4 : ∀ j, j < 5 → jdC j ≠ 4 := by decide
theorem jdS_6 {V : World} {ED n m : Nat} {X Y : Nat → Int} {nm tn : ByteArray} {a b f : Int} {sl : Value} : ∀ (k : Nat) (ys : Nat → Value) (v : Value) (A : World), jdS V ED n m X Y nm tn a b f sl k ys A → jdS V ED n m X Y nm tn a b f sl k (upd ys 6 v) A
  | 0, _, _, _, h => h
  | 1, _, _, _, h => h
  | 2, _, _, _, h => h
  | 3, _, _, _, h => h
  | 4, _, _, _, h => h
  | _ + 5, _, _, _, h => h
theorem jdC_6 : ∀ j, j < 5 → jdC j ≠ 6 := by decide
theorem jdS_8 {V : World} {ED n m : Nat} {X Y : Nat → Int} {nm tn : ByteArray} {a b f : Int} {sl : Value} : ∀ (k : Nat) (ys : Nat → Value) (v : Value) (A : World), jdS V ED n m X Y nm tn a b f sl k ys A → jdS V ED n m X Y nm tn a b f sl k (upd ys 8 v) A
  | 0, _, _, _, h => h
  | 1, _, _, _, h => h
  | 2, _, _, _, h => h
  | 3, _, _, _, h => h
  | 4, _, _, _, h => h
  | _ + 5, _, _, _, h => h
theorem jdC_8 : ∀ j, j < 5 → jdC j ≠ 8 := by decide
theorem jdS_9 {V : World} {ED n m : Nat} {X Y : Nat → Int} {nm tn : ByteArray} {a b f : Int} {sl : Value} : ∀ (k : Nat) (ys : Nat → Value) (v : Value) (A : World), jdS V ED n m X Y nm tn a b f sl k ys A → jdS V ED n m X Y nm tn a b f sl k (upd ys 9 v) A
  | 0, _, _, _, h => h
  | 1, _, _, _, h => h
  | 2, _, _, _, h => h
  | 3, _, _, _, h => h
  | 4, _, _, _, h => h
  | _ + 5, _, _, _, h => h
theorem jdC_9 : ∀ j, j < 5 → jdC j ≠ 9 := by decide
theorem jdS_11 {V : World} {ED n m : Nat} {X Y : Nat → Int} {nm tn : ByteArray} {a b f : Int} {sl : Value} : ∀ (k : Nat) (ys : Nat → Value) (v : Value) (A : World), jdS V ED n m X Y nm tn a b f sl k ys A → jdS V ED n m X Y nm tn a b f sl k (upd ys 11 v) A
  | 0, _, _, _, h => h
  | 1, _, _, _, h => h
  | 2, _, _, _, h => h
  | 3, _, _, _, h => h
  | 4, _, _, _, h => h
  | _ + 5, _, _, _, h => h
theorem jdC_11 : ∀ j, j < 5 → jdC j ≠ 11 := by decide
theorem jdS_13 {V : World} {ED n m : Nat} {X Y : Nat → Int} {nm tn : ByteArray} {a b f : Int} {sl : Value} : ∀ (k : Nat) (ys : Nat → Value) (v : Value) (A : World), jdS V ED n m X Y nm tn a b f sl k ys A → jdS V ED n m X Y nm tn a b f sl k (upd ys 13 v) A
  | 0, _, _, _, h => h
  | 1, _, _, _, h => h
  | 2, _, _, _, h => h
  | 3, _, _, _, h => h
  | 4, _, _, _, h => h
  | _ + 5, _, _, _, h => h
theorem jdC_13 : ∀ j, j < 5 → jdC j ≠ 13 := by decide


set_option maxRecDepth 100000 in
set_option maxHeartbeats 4000000 in
theorem adds_many (t ft f p w0 w1 w2 w3 w4 : Int) (bt : 0 ≤ t ∧ t ≤ 255) (bft : 0 ≤ ft ∧ ft ≤ 255) (bf : -128 ≤ f ∧ f ≤ 127) (bp : 0 ≤ p ∧ p ≤ 255) (b0 : 0 ≤ w0 ∧ w0 ≤ 255) (b1 : 0 ≤ w1 ∧ w1 ≤ 255) (b2 : 0 ≤ w2 ∧ w2 ≤ 255) (b3 : 0 ≤ w3 ∧ w3 ≤ 255) (b4 : 0 ≤ w4 ∧ w4 ≤ 255) (xv : Value) (m : Nat) (Y : Nat → Int) (hm : 130 < m) (w : World) (hv : WA w xv m Y) (G : Gi w) :
    Calls Tryz.prog 8 #[.agg #[.int .u8 t, .int .u8 ft, .int .i8 f, .int .u8 p, .int .u8 w0, .int .u8 w1, .int .u8 w2, .int .u8 w3, .int .u8 w4], xv] w fun e w' => e = .returned (.bool true) ∧ Below w.heap.size w w' := by
  obtain ⟨sb, cq, rfl⟩ := hv.len
  have KN := Lib.hid (fun W G => known_c W G)
  have g0 : (130 : Int) < (m : Int) := by omega
  clear hv bt bft bf bp b0 b1 b2 b3 b4
  obtain ⟨D, hD⟩ : ∃ D, w.heap.size = D := ⟨_, rfl⟩
  go_enter Tryz.func8, Tryz.ntmps8
  have G1 : Gi (w.alloc (.cells #[.int .u8 t, .int .u8 ft, .int .i8 f, .int .u8 p, .int .u8 w0, .int .u8 w1, .int .u8 w2, .int .u8 w3, .int .u8 w4] 47)) := G.below (by first | exact ((Below.refl _ w).alloc (by first | omega | (simp; omega)) (.cells #[.int .u8 t, .int .u8 ft, .int .i8 f, .int .u8 p, .int .u8 w0, .int .u8 w1, .int .u8 w2, .int .u8 w3, .int .u8 w4] 47)) | (rw [hD]; exact ((Below.refl _ w).alloc (by first | omega | (simp; omega)) (.cells #[.int .u8 t, .int .u8 ft, .int .i8 f, .int .u8 p, .int .u8 w0, .int .u8 w1, .int .u8 w2, .int .u8 w3, .int .u8 w4] 47))))
  go_wp2_with fail
  refine (KN.out _ G1).mono ?_
  rintro e v1 ⟨rfl, hb_v1⟩
  have cP_v1 : v1.heap[D]? = some (.cells #[.int .u8 t, .int .u8 ft, .int .i8 f, .int .u8 p, .int .u8 w0, .int .u8 w1, .int .u8 w2, .int .u8 w3, .int .u8 w4] 47) := (hb_v1.block (D) (Array.getElem?_eq_some_iff.1 (show (w.alloc (.cells #[.int .u8 t, .int .u8 ft, .int .i8 f, .int .u8 p, .int .u8 w0, .int .u8 w1, .int .u8 w2, .int .u8 w3, .int .u8 w4] 47)).heap[D]? = some (.cells #[.int .u8 t, .int .u8 ft, .int .i8 f, .int .u8 p, .int .u8 w0, .int .u8 w1, .int .u8 w2, .int .u8 w3, .int .u8 w4] 47) from (heap_new (by first | omega | (simp; omega))))).1).trans (heap_new (by first | omega | (simp; omega)))
  have hw_v1 : Below D w v1 := (((Below.refl _ w).alloc (by first | omega | (simp; omega)) (.cells #[.int .u8 t, .int .u8 ft, .int .i8 f, .int .u8 p, .int .u8 w0, .int .u8 w1, .int .u8 w2, .int .u8 w3, .int .u8 w4] 47))).trans (hb_v1.mono (by first | omega | (simp; omega)))
  clear hb_v1 G1
  have G2 : Gi v1 := G.below (by first | exact hw_v1 | (rw [hD]; exact hw_v1))
  go_wp2_with fail
  refine (KN.out _ G2).mono ?_
  rintro e v2 ⟨rfl, hb_v2⟩
  have hs_v2 := hw_v1.size
  have cP_v2 : v2.heap[D]? = some (.cells #[.int .u8 t, .int .u8 ft, .int .i8 f, .int .u8 p, .int .u8 w0, .int .u8 w1, .int .u8 w2, .int .u8 w3, .int .u8 w4] 47) := (hb_v2.block (D) (Array.getElem?_eq_some_iff.1 (show v1.heap[D]? = some (.cells #[.int .u8 t, .int .u8 ft, .int .i8 f, .int .u8 p, .int .u8 w0, .int .u8 w1, .int .u8 w2, .int .u8 w3, .int .u8 w4] 47) from cP_v1)).1).trans cP_v1
  have hw_v2 : Below D w v2 := (hw_v1).trans (hb_v2.mono (by first | omega | (simp; omega)))
  clear cP_v1 hb_v2 G2 hw_v1 hs_v2
  have HW := Lib.hid (hw_v2)
  go_wp2
  go_ret
  exact ⟨rfl, by first | exact HW.out | (rw [hD]; exact HW.out)⟩

set_option maxRecDepth 100000 in
set_option maxHeartbeats 4000000 in
theorem adds_few (t ft f p w0 w1 w2 w3 w4 : Int) (bt : 0 ≤ t ∧ t ≤ 255) (bft : 0 ≤ ft ∧ ft ≤ 255) (bf : -128 ≤ f ∧ f ≤ 127) (bp : 0 ≤ p ∧ p ≤ 255) (b0 : 0 ≤ w0 ∧ w0 ≤ 255) (b1 : 0 ≤ w1 ∧ w1 ≤ 255) (b2 : 0 ≤ w2 ∧ w2 ≤ 255) (b3 : 0 ≤ w3 ∧ w3 ≤ 255) (b4 : 0 ≤ w4 ∧ w4 ≤ 255) (xv : Value) (m : Nat) (Y : Nat → Int) (hm : m ≤ 130) (w : World) (hv : WA w xv m Y) (G : Gi w) :
    Calls Tryz.prog 8 #[.agg #[.int .u8 t, .int .u8 ft, .int .i8 f, .int .u8 p, .int .u8 w0, .int .u8 w1, .int .u8 w2, .int .u8 w3, .int .u8 w4], xv] w fun e w' => e = .returned (.bool true) ∧ Below w.heap.size w w' := by
  obtain ⟨sb, cq, rfl⟩ := hv.len
  have KN := Lib.hid (fun W G => known_c W G)
  obtain ⟨j, hj, hx⟩ := feet_rem ft bft
  obtain ⟨tm, h3, htm⟩ := plan_tone bt
  obtain ⟨q, hq25, hq⟩ := plan_num bp
  obtain ⟨n, hn⟩ : ∃ n, q + 1 = n := ⟨_, rfl⟩
  obtain ⟨fa, hfa⟩ : ∃ a, (feetF j).1 = a := ⟨_, rfl⟩
  obtain ⟨fb, hfb⟩ : ∃ a, (feetF j).2 = a := ⟨_, rfl⟩
  obtain ⟨tn, htn⟩ : ∃ a, toneB tm = a := ⟨_, rfl⟩
  obtain ⟨X, hX⟩ : ∃ a, xw w0 w1 w2 w3 w4 = a := ⟨_, rfl⟩
  have MK := Lib.hid (fun W => make_c0 t ft f p w0 w1 w2 w3 w4 bt bft bf bp b0 b1 b2 b3 b4 j tm q hj hx h3 htm hq25 hq W)
  have hpk := feetF_pk j hj
  have hnt := tone_name tm h3
  have hXb := fun k => xw_bd b0 b1 b2 b3 b4 k
  have ts := tone_size tm h3
  rw [hfa, hfb, htn, hn, hX] at MK
  rw [hfa, hfb] at hpk
  rw [htn] at hnt ts
  rw [hX] at hXb
  have hn1 : 1 ≤ n ∧ n ≤ 25 := by omega
  have hz : rkE ⟨#[82, 48]⟩ tn fa fb f n X = 0 := rk_of (by decide +kernel) hnt hpk (by omega) (by omega) (by omega) (fun k _ => by have := hXb k; omega)
  have ns : n ≤ 1099511627776 := by omega
  clear hj hx htm hq hfa hfb htn hX h3 hn hnt hq25 bt bft bp b0 b1 b2 b3 b4
  obtain ⟨_, _, _, hf, hn0, hn128, _⟩ := rk_ok hz
  obtain ⟨zz, hzz⟩ : ∃ z, wdE Y m = z := ⟨_, rfl⟩
  obtain ⟨NA, TA, A1, A2, AF, ma, ZA, ea, hBE, hcb⟩ := below_any ⟨#[82, 48]⟩ tn fa fb f n X m Y (by decide) ts ns hm hz
  obtain ⟨NB, TB, B1, B2, BF, mb, ZB, eb, hAB, hca⟩ := above_any ⟨#[82, 48]⟩ tn fa fb f n X m Y (by decide) ts ns hm hz
  rw [hzz] at hcb hca
  have BE := Lib.hid hBE
  have AB := Lib.hid hAB
  have HCB := Lib.hid hcb
  have HCA := Lib.hid hca
  have WI := Lib.hid (fun (W : World) h => show Calls Tryz.prog 33 #[.slice sb m cq] W (fun e w' => e = .returned (.int .i64 (wdE Y m)) ∧ Below W.heap.size W w') from (lwinds_c (.slice sb m cq) m Y (by omega) W h).mono (by rintro e w' ⟨h1, rfl⟩; exact ⟨h1, Below.refl _ _⟩))
  rw [hzz] at WI
  have SZ := Lib.hid (fun va vb W h h' => same_wd ⟨#[]⟩ ⟨#[]⟩ 0 0 0 0 X X (by omega) (fun _ _ => rfl) va vb W h h')
  have SU := Lib.hid (fun (hl : n + m ≤ 128) va vb W h h' => same_wd ⟨#[82, 48]⟩ tn fa fb f (n + m) (fun k => if k < n then X k else Y (k - n)) (fun k => if k < n then X k else Y (k - n)) (by omega) (fun _ _ => rfl) va vb W h h')
  have SD := Lib.hid (fun (hl : n + m ≤ 128) va vb W h h' => same_wd ⟨#[82, 48]⟩ tn fa fb (f - m) (m + n) (fun k => if k < m then Y k else X (k - m)) (fun k => if k < m then Y k else X (k - m)) (by omega) (fun _ _ => rfl) va vb W h h')
  have hX0 := Lib.hid hv
  have g0 : ¬ (130 : Int) < (m : Int) := by omega
  have q1 := wrap_in (q := (m : Int) + (n : Int)) (by omega) (by omega)
  have q2 := wrap_in (q := f - (m : Int)) (by omega) (by omega)
  clear hBE hAB hcb hca hv hz ns ts hpk hXb hzz
  obtain ⟨D, hD⟩ : ∃ D, w.heap.size = D := ⟨_, rfl⟩
  go_enter Tryz.func8, Tryz.ntmps8
  have G3 : Gi (w.alloc (.cells #[.int .u8 t, .int .u8 ft, .int .i8 f, .int .u8 p, .int .u8 w0, .int .u8 w1, .int .u8 w2, .int .u8 w3, .int .u8 w4] 47)) := G.below (by first | exact ((Below.refl _ w).alloc (by first | omega | (simp; omega)) (.cells #[.int .u8 t, .int .u8 ft, .int .i8 f, .int .u8 p, .int .u8 w0, .int .u8 w1, .int .u8 w2, .int .u8 w3, .int .u8 w4] 47)) | (rw [hD]; exact ((Below.refl _ w).alloc (by first | omega | (simp; omega)) (.cells #[.int .u8 t, .int .u8 ft, .int .i8 f, .int .u8 p, .int .u8 w0, .int .u8 w1, .int .u8 w2, .int .u8 w3, .int .u8 w4] 47))))
  go_wp2_with fail
  refine (KN.out _ G3).mono ?_
  rintro e v1 ⟨rfl, hb_v1⟩
  have cP_v1 : v1.heap[D]? = some (.cells #[.int .u8 t, .int .u8 ft, .int .i8 f, .int .u8 p, .int .u8 w0, .int .u8 w1, .int .u8 w2, .int .u8 w3, .int .u8 w4] 47) := (hb_v1.block (D) (Array.getElem?_eq_some_iff.1 (show (w.alloc (.cells #[.int .u8 t, .int .u8 ft, .int .i8 f, .int .u8 p, .int .u8 w0, .int .u8 w1, .int .u8 w2, .int .u8 w3, .int .u8 w4] 47)).heap[D]? = some (.cells #[.int .u8 t, .int .u8 ft, .int .i8 f, .int .u8 p, .int .u8 w0, .int .u8 w1, .int .u8 w2, .int .u8 w3, .int .u8 w4] 47) from (heap_new (by first | omega | (simp; omega))))).1).trans (heap_new (by first | omega | (simp; omega)))
  have hw_v1 : Below D w v1 := (((Below.refl _ w).alloc (by first | omega | (simp; omega)) (.cells #[.int .u8 t, .int .u8 ft, .int .i8 f, .int .u8 p, .int .u8 w0, .int .u8 w1, .int .u8 w2, .int .u8 w3, .int .u8 w4] 47))).trans (hb_v1.mono (by first | omega | (simp; omega)))
  clear hb_v1 G3
  have ld2 : v1.heap[D]? = some (.cells #[.int .u8 t, .int .u8 ft, .int .i8 f, .int .u8 p, .int .u8 w0, .int .u8 w1, .int .u8 w2, .int .u8 w3, .int .u8 w4] 47) := cP_v1
  obtain ⟨y2_0, y2_1, y2_2, y2_3, y2_4, y2_5, y2_6, y2_7, y2_8⟩ := plan_cells ld2
  clear ld2
  go_wp2_with fail
  refine (MK.out _).mono ?_
  rintro e v3 ⟨⟨v0, rfl, hwd⟩, hb_v3⟩
  have hs_v3 := hw_v1.size
  have cP_v3 : v3.heap[D]? = some (.cells #[.int .u8 t, .int .u8 ft, .int .i8 f, .int .u8 p, .int .u8 w0, .int .u8 w1, .int .u8 w2, .int .u8 w3, .int .u8 w4] 47) := (hb_v3.block (D) (Array.getElem?_eq_some_iff.1 (show v1.heap[D]? = some (.cells #[.int .u8 t, .int .u8 ft, .int .i8 f, .int .u8 p, .int .u8 w0, .int .u8 w1, .int .u8 w2, .int .u8 w3, .int .u8 w4] 47) from cP_v1)).1).trans cP_v1
  have hw_v3 : Below D w v3 := (hw_v1).trans (hb_v3.mono (by first | omega | (simp; omega)))
  clear cP_v1 hb_v3 y2_0 y2_1 y2_2 y2_3 y2_4 y2_5 y2_6 y2_7 y2_8 hw_v1 hs_v3
  obtain ⟨ra, rc, rfl⟩ := hwd.len
  have hR2 := Lib.hid hwd
  clear hwd
  have hX2 := Lib.hid (hX0.out.below (by first | exact hw_v3 | (rw [hD]; exact hw_v3)))
  clear hX0
  obtain ⟨D2, hD2⟩ : ∃ D, v3.heap.size = D := ⟨_, rfl⟩
  have G2 : Gi v3 := G.below (by first | exact hw_v3 | (rw [hD]; exact hw_v3))
  have HB2 := Lib.hid (hw_v3)
  clear hw_v3
  have ld4 : (v3.alloc (.cells #[.string ⟨#[82, 48]⟩, .string tn, .int .i64 fa, .int .i64 fb, .int .i64 f, .slice ra n rc] 26)).heap[D2]? = some (.cells #[.string ⟨#[82, 48]⟩, .string tn, .int .i64 fa, .int .i64 fb, .int .i64 f, .slice ra n rc] 26) := (heap_new (by first | omega | (simp; omega)))
  have y4_0 := cell6_0 ld4
  have y4_1 := cell6_1 ld4
  have y4_2 := cell6_2 ld4
  have y4_3 := cell6_3 ld4
  have y4_4 := cell6_4 ld4
  have y4_5 := cell6_5 ld4
  clear ld4
  have W4 : Wd (v3.alloc (.cells #[.string ⟨#[82, 48]⟩, .string tn, .int .i64 fa, .int .i64 fb, .int .i64 f, .slice ra n rc] 26)) (.slice ra n rc) n X := hR2.out.below (by first | exact ((Below.refl _ v3).alloc (by first | omega | (simp; omega)) (.cells #[.string ⟨#[82, 48]⟩, .string tn, .int .i64 fa, .int .i64 fb, .int .i64 f, .slice ra n rc] 26)) | (rw [hD2]; exact ((Below.refl _ v3).alloc (by first | omega | (simp; omega)) (.cells #[.string ⟨#[82, 48]⟩, .string tn, .int .i64 fa, .int .i64 fb, .int .i64 f, .slice ra n rc] 26))))
  have A5 : WA (v3.alloc (.cells #[.string ⟨#[82, 48]⟩, .string tn, .int .i64 fa, .int .i64 fb, .int .i64 f, .slice ra n rc] 26)) (.slice sb m cq) m Y := hX2.out.below (by first | exact ((Below.refl _ v3).alloc (by first | omega | (simp; omega)) (.cells #[.string ⟨#[82, 48]⟩, .string tn, .int .i64 fa, .int .i64 fb, .int .i64 f, .slice ra n rc] 26)) | (rw [hD2]; exact ((Below.refl _ v3).alloc (by first | omega | (simp; omega)) (.cells #[.string ⟨#[82, 48]⟩, .string tn, .int .i64 fa, .int .i64 fb, .int .i64 f, .slice ra n rc] 26))))
  go_wp2_with fail
  refine (BE.out _ _ _ _ W4 A5).mono ?_
  rintro e v5 ⟨⟨sa, ca, rfl, hwd⟩, hb_v5⟩
  have cP_v5 : v5.heap[D]? = some (.cells #[.int .u8 t, .int .u8 ft, .int .i8 f, .int .u8 p, .int .u8 w0, .int .u8 w1, .int .u8 w2, .int .u8 w3, .int .u8 w4] 47) := (hb_v5.block (D) (Array.getElem?_eq_some_iff.1 (show (v3.alloc (.cells #[.string ⟨#[82, 48]⟩, .string tn, .int .i64 fa, .int .i64 fb, .int .i64 f, .slice ra n rc] 26)).heap[D]? = some (.cells #[.int .u8 t, .int .u8 ft, .int .i8 f, .int .u8 p, .int .u8 w0, .int .u8 w1, .int .u8 w2, .int .u8 w3, .int .u8 w4] 47) from (heap_old (o := .cells #[.string ⟨#[82, 48]⟩, .string tn, .int .i64 fa, .int .i64 fb, .int .i64 f, .slice ra n rc] 26) cP_v3))).1).trans (heap_old (o := .cells #[.string ⟨#[82, 48]⟩, .string tn, .int .i64 fa, .int .i64 fb, .int .i64 f, .slice ra n rc] 26) cP_v3)
  have cR_v5 : v5.heap[D2]? = some (.cells #[.string ⟨#[82, 48]⟩, .string tn, .int .i64 fa, .int .i64 fb, .int .i64 f, .slice ra n rc] 26) := (hb_v5.block (D2) (Array.getElem?_eq_some_iff.1 (show (v3.alloc (.cells #[.string ⟨#[82, 48]⟩, .string tn, .int .i64 fa, .int .i64 fb, .int .i64 f, .slice ra n rc] 26)).heap[D2]? = some (.cells #[.string ⟨#[82, 48]⟩, .string tn, .int .i64 fa, .int .i64 fb, .int .i64 f, .slice ra n rc] 26) from (heap_new (by first | omega | (simp; omega))))).1).trans (heap_new (by first | omega | (simp; omega)))
  have hw_v5 : Below D2 v3 v5 := (((Below.refl _ v3).alloc (by first | omega | (simp; omega)) (.cells #[.string ⟨#[82, 48]⟩, .string tn, .int .i64 fa, .int .i64 fb, .int .i64 f, .slice ra n rc] 26))).trans (hb_v5.mono (by first | omega | (simp; omega)))
  clear cP_v3 hb_v5 y4_0 y4_1 y4_2 y4_3 y4_4 y4_5 W4 A5
  have hA3 := Lib.hid hwd
  clear hwd
  have hX3 := Lib.hid (hX2.out.below (by first | exact hw_v5 | (rw [hD2]; exact hw_v5)))
  clear hX2
  have hR3 := Lib.hid (hR2.out.below (by first | exact hw_v5 | (rw [hD2]; exact hw_v5)))
  clear hR2
  obtain ⟨D3, hD3⟩ : ∃ D, v5.heap.size = D := ⟨_, rfl⟩
  have G23 : Gi v5 := G2.below (by first | exact hw_v5 | (rw [hD2]; exact hw_v5))
  have HB3 := Lib.hid (hw_v5)
  clear hw_v5
  clear G2
  have ld6 : (v5.alloc (.cells #[.string NA, .string TA, .int .i64 A1, .int .i64 A2, .int .i64 AF, .slice sa ma ca] 26)).heap[D2]? = some (.cells #[.string ⟨#[82, 48]⟩, .string tn, .int .i64 fa, .int .i64 fb, .int .i64 f, .slice ra n rc] 26) := (heap_old (o := .cells #[.string NA, .string TA, .int .i64 A1, .int .i64 A2, .int .i64 AF, .slice sa ma ca] 26) cR_v5)
  have y6_0 := cell6_0 ld6
  have y6_1 := cell6_1 ld6
  have y6_2 := cell6_2 ld6
  have y6_3 := cell6_3 ld6
  have y6_4 := cell6_4 ld6
  have y6_5 := cell6_5 ld6
  clear ld6
  have W6 : Wd (v5.alloc (.cells #[.string NA, .string TA, .int .i64 A1, .int .i64 A2, .int .i64 AF, .slice sa ma ca] 26)) (.slice ra n rc) n X := hR3.out.below (by first | exact ((Below.refl _ v5).alloc (by first | omega | (simp; omega)) (.cells #[.string NA, .string TA, .int .i64 A1, .int .i64 A2, .int .i64 AF, .slice sa ma ca] 26)) | (rw [hD3]; exact ((Below.refl _ v5).alloc (by first | omega | (simp; omega)) (.cells #[.string NA, .string TA, .int .i64 A1, .int .i64 A2, .int .i64 AF, .slice sa ma ca] 26))))
  have A7 : WA (v5.alloc (.cells #[.string NA, .string TA, .int .i64 A1, .int .i64 A2, .int .i64 AF, .slice sa ma ca] 26)) (.slice sb m cq) m Y := hX3.out.below (by first | exact ((Below.refl _ v5).alloc (by first | omega | (simp; omega)) (.cells #[.string NA, .string TA, .int .i64 A1, .int .i64 A2, .int .i64 AF, .slice sa ma ca] 26)) | (rw [hD3]; exact ((Below.refl _ v5).alloc (by first | omega | (simp; omega)) (.cells #[.string NA, .string TA, .int .i64 A1, .int .i64 A2, .int .i64 AF, .slice sa ma ca] 26))))
  go_wp2_with fail
  refine (AB.out _ _ _ _ W6 A7).mono ?_
  rintro e v7 ⟨⟨sx, cx, rfl, hwd⟩, hb_v7⟩
  have cP_v7 : v7.heap[D]? = some (.cells #[.int .u8 t, .int .u8 ft, .int .i8 f, .int .u8 p, .int .u8 w0, .int .u8 w1, .int .u8 w2, .int .u8 w3, .int .u8 w4] 47) := (hb_v7.block (D) (Array.getElem?_eq_some_iff.1 (show (v5.alloc (.cells #[.string NA, .string TA, .int .i64 A1, .int .i64 A2, .int .i64 AF, .slice sa ma ca] 26)).heap[D]? = some (.cells #[.int .u8 t, .int .u8 ft, .int .i8 f, .int .u8 p, .int .u8 w0, .int .u8 w1, .int .u8 w2, .int .u8 w3, .int .u8 w4] 47) from (heap_old (o := .cells #[.string NA, .string TA, .int .i64 A1, .int .i64 A2, .int .i64 AF, .slice sa ma ca] 26) cP_v5))).1).trans (heap_old (o := .cells #[.string NA, .string TA, .int .i64 A1, .int .i64 A2, .int .i64 AF, .slice sa ma ca] 26) cP_v5)
  have cR_v7 : v7.heap[D2]? = some (.cells #[.string ⟨#[82, 48]⟩, .string tn, .int .i64 fa, .int .i64 fb, .int .i64 f, .slice ra n rc] 26) := (hb_v7.block (D2) (Array.getElem?_eq_some_iff.1 (show (v5.alloc (.cells #[.string NA, .string TA, .int .i64 A1, .int .i64 A2, .int .i64 AF, .slice sa ma ca] 26)).heap[D2]? = some (.cells #[.string ⟨#[82, 48]⟩, .string tn, .int .i64 fa, .int .i64 fb, .int .i64 f, .slice ra n rc] 26) from (heap_old (o := .cells #[.string NA, .string TA, .int .i64 A1, .int .i64 A2, .int .i64 AF, .slice sa ma ca] 26) cR_v5))).1).trans (heap_old (o := .cells #[.string NA, .string TA, .int .i64 A1, .int .i64 A2, .int .i64 AF, .slice sa ma ca] 26) cR_v5)
  have cA_v7 : v7.heap[D3]? = some (.cells #[.string NA, .string TA, .int .i64 A1, .int .i64 A2, .int .i64 AF, .slice sa ma ca] 26) := (hb_v7.block (D3) (Array.getElem?_eq_some_iff.1 (show (v5.alloc (.cells #[.string NA, .string TA, .int .i64 A1, .int .i64 A2, .int .i64 AF, .slice sa ma ca] 26)).heap[D3]? = some (.cells #[.string NA, .string TA, .int .i64 A1, .int .i64 A2, .int .i64 AF, .slice sa ma ca] 26) from (heap_new (by first | omega | (simp; omega))))).1).trans (heap_new (by first | omega | (simp; omega)))
  have hw_v7 : Below D3 v5 v7 := (((Below.refl _ v5).alloc (by first | omega | (simp; omega)) (.cells #[.string NA, .string TA, .int .i64 A1, .int .i64 A2, .int .i64 AF, .slice sa ma ca] 26))).trans (hb_v7.mono (by first | omega | (simp; omega)))
  clear cP_v5 cR_v5 hb_v7 y6_0 y6_1 y6_2 y6_3 y6_4 y6_5 W6 A7
  have hB4 := Lib.hid hwd
  clear hwd
  have hX4 := Lib.hid (hX3.out.below (by first | exact hw_v7 | (rw [hD3]; exact hw_v7)))
  clear hX3
  have hR4 := Lib.hid (hR3.out.below (by first | exact hw_v7 | (rw [hD3]; exact hw_v7)))
  clear hR3
  have hA4 := Lib.hid (hA3.out.below (by first | exact hw_v7 | (rw [hD3]; exact hw_v7)))
  clear hA3
  obtain ⟨D4, hD4⟩ : ∃ D, v7.heap.size = D := ⟨_, rfl⟩
  have G234 : Gi v7 := G23.below (by first | exact hw_v7 | (rw [hD3]; exact hw_v7))
  have HB4 := Lib.hid (hw_v7)
  clear hw_v7
  clear G23
  have A8 : WA (v7.alloc (.cells #[.string NB, .string TB, .int .i64 B1, .int .i64 B2, .int .i64 BF, .slice sx mb cx] 26)) (.slice sb m cq) m Y := hX4.out.below (by first | exact ((Below.refl _ v7).alloc (by first | omega | (simp; omega)) (.cells #[.string NB, .string TB, .int .i64 B1, .int .i64 B2, .int .i64 BF, .slice sx mb cx] 26)) | (rw [hD4]; exact ((Below.refl _ v7).alloc (by first | omega | (simp; omega)) (.cells #[.string NB, .string TB, .int .i64 B1, .int .i64 B2, .int .i64 BF, .slice sx mb cx] 26))))
  go_wp2_with fail
  refine (WI.out _ A8.wd).mono ?_
  rintro e v8 ⟨rfl, hb_v8⟩
  have cP_v8 : v8.heap[D]? = some (.cells #[.int .u8 t, .int .u8 ft, .int .i8 f, .int .u8 p, .int .u8 w0, .int .u8 w1, .int .u8 w2, .int .u8 w3, .int .u8 w4] 47) := (hb_v8.block (D) (Array.getElem?_eq_some_iff.1 (show (v7.alloc (.cells #[.string NB, .string TB, .int .i64 B1, .int .i64 B2, .int .i64 BF, .slice sx mb cx] 26)).heap[D]? = some (.cells #[.int .u8 t, .int .u8 ft, .int .i8 f, .int .u8 p, .int .u8 w0, .int .u8 w1, .int .u8 w2, .int .u8 w3, .int .u8 w4] 47) from (heap_old (o := .cells #[.string NB, .string TB, .int .i64 B1, .int .i64 B2, .int .i64 BF, .slice sx mb cx] 26) cP_v7))).1).trans (heap_old (o := .cells #[.string NB, .string TB, .int .i64 B1, .int .i64 B2, .int .i64 BF, .slice sx mb cx] 26) cP_v7)
  have cR_v8 : v8.heap[D2]? = some (.cells #[.string ⟨#[82, 48]⟩, .string tn, .int .i64 fa, .int .i64 fb, .int .i64 f, .slice ra n rc] 26) := (hb_v8.block (D2) (Array.getElem?_eq_some_iff.1 (show (v7.alloc (.cells #[.string NB, .string TB, .int .i64 B1, .int .i64 B2, .int .i64 BF, .slice sx mb cx] 26)).heap[D2]? = some (.cells #[.string ⟨#[82, 48]⟩, .string tn, .int .i64 fa, .int .i64 fb, .int .i64 f, .slice ra n rc] 26) from (heap_old (o := .cells #[.string NB, .string TB, .int .i64 B1, .int .i64 B2, .int .i64 BF, .slice sx mb cx] 26) cR_v7))).1).trans (heap_old (o := .cells #[.string NB, .string TB, .int .i64 B1, .int .i64 B2, .int .i64 BF, .slice sx mb cx] 26) cR_v7)
  have cA_v8 : v8.heap[D3]? = some (.cells #[.string NA, .string TA, .int .i64 A1, .int .i64 A2, .int .i64 AF, .slice sa ma ca] 26) := (hb_v8.block (D3) (Array.getElem?_eq_some_iff.1 (show (v7.alloc (.cells #[.string NB, .string TB, .int .i64 B1, .int .i64 B2, .int .i64 BF, .slice sx mb cx] 26)).heap[D3]? = some (.cells #[.string NA, .string TA, .int .i64 A1, .int .i64 A2, .int .i64 AF, .slice sa ma ca] 26) from (heap_old (o := .cells #[.string NB, .string TB, .int .i64 B1, .int .i64 B2, .int .i64 BF, .slice sx mb cx] 26) cA_v7))).1).trans (heap_old (o := .cells #[.string NB, .string TB, .int .i64 B1, .int .i64 B2, .int .i64 BF, .slice sx mb cx] 26) cA_v7)
  have cB_v8 : v8.heap[D4]? = some (.cells #[.string NB, .string TB, .int .i64 B1, .int .i64 B2, .int .i64 BF, .slice sx mb cx] 26) := (hb_v8.block (D4) (Array.getElem?_eq_some_iff.1 (show (v7.alloc (.cells #[.string NB, .string TB, .int .i64 B1, .int .i64 B2, .int .i64 BF, .slice sx mb cx] 26)).heap[D4]? = some (.cells #[.string NB, .string TB, .int .i64 B1, .int .i64 B2, .int .i64 BF, .slice sx mb cx] 26) from (heap_new (by first | omega | (simp; omega))))).1).trans (heap_new (by first | omega | (simp; omega)))
  have hw_v8 : Below D4 v7 v8 := (((Below.refl _ v7).alloc (by first | omega | (simp; omega)) (.cells #[.string NB, .string TB, .int .i64 B1, .int .i64 B2, .int .i64 BF, .slice sx mb cx] 26))).trans (hb_v8.mono (by first | omega | (simp; omega)))
  clear cP_v7 cR_v7 cA_v7 hb_v8 A8
  rcases HCB.out with ⟨h2, rfl, rfl, rfl, rfl, rfl, rfl, rfl, rfl⟩ | ⟨rfl, h3, rfl, rfl, rfl, rfl, rfl, rfl, rfl, rfl⟩ | ⟨rfl, h3, h4, rfl, rfl, rfl, rfl, rfl, rfl, rfl, rfl⟩ | ⟨rfl, h3, h4, rfl, rfl, rfl, rfl, rfl, rfl, rfl, rfl⟩
  · obtain ⟨rfl, rfl, rfl, rfl, rfl, rfl, rfl, rfl⟩ := HCA.out.1 h2
    have ld9 : v8.heap[D2]? = some (.cells #[.string ⟨#[82, 48]⟩, .string tn, .int .i64 fa, .int .i64 fb, .int .i64 f, .slice ra n rc] 26) := cR_v8
    have y9_0 := cell6_0 ld9
    have y9_1 := cell6_1 ld9
    have y9_2 := cell6_2 ld9
    have y9_3 := cell6_3 ld9
    have y9_4 := cell6_4 ld9
    have y9_5 := cell6_5 ld9
    clear ld9
    obtain ⟨EUP, hEUP⟩ : ∃ E, v8.heap.size = E := ⟨_, rfl⟩
    have ld10 : ((v8.alloc (.cells #[.string ⟨#[]⟩, .string ⟨#[]⟩, .int .i64 0, .int .i64 0, .int .i64 0, .slice none 0 0] 26)).alloc (.cells #[.string ⟨#[]⟩, .string ⟨#[]⟩, .int .i64 0, .int .i64 0, .int .i64 0, .slice none 0 0] 26)).heap[D3]? = some (.cells #[.string ⟨#[]⟩, .string ⟨#[]⟩, .int .i64 0, .int .i64 0, .int .i64 0, .slice sa 0 ca] 26) := (heap_old (o := .cells #[.string ⟨#[]⟩, .string ⟨#[]⟩, .int .i64 0, .int .i64 0, .int .i64 0, .slice none 0 0] 26) (heap_old (o := .cells #[.string ⟨#[]⟩, .string ⟨#[]⟩, .int .i64 0, .int .i64 0, .int .i64 0, .slice none 0 0] 26) cA_v8))
    have y10_0 := cell6_0 ld10
    have y10_1 := cell6_1 ld10
    have y10_2 := cell6_2 ld10
    have y10_3 := cell6_3 ld10
    have y10_4 := cell6_4 ld10
    have y10_5 := cell6_5 ld10
    clear ld10
    have ld11 : ((v8.alloc (.cells #[.string ⟨#[]⟩, .string ⟨#[]⟩, .int .i64 0, .int .i64 0, .int .i64 0, .slice none 0 0] 26)).alloc (.cells #[.string ⟨#[]⟩, .string ⟨#[]⟩, .int .i64 0, .int .i64 0, .int .i64 0, .slice none 0 0] 26)).heap[EUP + 1]? = some (.cells #[.string ⟨#[]⟩, .string ⟨#[]⟩, .int .i64 0, .int .i64 0, .int .i64 0, .slice none 0 0] 26) := (heap_new (by first | omega | (simp; omega)))
    have y11_0 := cell6_0 ld11
    have y11_1 := cell6_1 ld11
    have y11_2 := cell6_2 ld11
    have y11_3 := cell6_3 ld11
    have y11_4 := cell6_4 ld11
    have y11_5 := cell6_5 ld11
    clear ld11
    have ld12 : ((v8.alloc (.cells #[.string ⟨#[]⟩, .string ⟨#[]⟩, .int .i64 0, .int .i64 0, .int .i64 0, .slice none 0 0] 26)).alloc (.cells #[.string ⟨#[]⟩, .string ⟨#[]⟩, .int .i64 0, .int .i64 0, .int .i64 0, .slice none 0 0] 26)).heap[D4]? = some (.cells #[.string ⟨#[]⟩, .string ⟨#[]⟩, .int .i64 0, .int .i64 0, .int .i64 0, .slice sx 0 cx] 26) := (heap_old (o := .cells #[.string ⟨#[]⟩, .string ⟨#[]⟩, .int .i64 0, .int .i64 0, .int .i64 0, .slice none 0 0] 26) (heap_old (o := .cells #[.string ⟨#[]⟩, .string ⟨#[]⟩, .int .i64 0, .int .i64 0, .int .i64 0, .slice none 0 0] 26) cB_v8))
    have y12_0 := cell6_0 ld12
    have y12_1 := cell6_1 ld12
    have y12_2 := cell6_2 ld12
    have y12_3 := cell6_3 ld12
    have y12_4 := cell6_4 ld12
    have y12_5 := cell6_5 ld12
    clear ld12
    have ld13 : ((v8.alloc (.cells #[.string ⟨#[]⟩, .string ⟨#[]⟩, .int .i64 0, .int .i64 0, .int .i64 0, .slice none 0 0] 26)).alloc (.cells #[.string ⟨#[]⟩, .string ⟨#[]⟩, .int .i64 0, .int .i64 0, .int .i64 0, .slice none 0 0] 26)).heap[EUP]? = some (.cells #[.string ⟨#[]⟩, .string ⟨#[]⟩, .int .i64 0, .int .i64 0, .int .i64 0, .slice none 0 0] 26) := (heap_old (o := .cells #[.string ⟨#[]⟩, .string ⟨#[]⟩, .int .i64 0, .int .i64 0, .int .i64 0, .slice none 0 0] 26) (heap_new (by first | omega | (simp; omega))))
    have y13_0 := cell6_0 ld13
    have y13_1 := cell6_1 ld13
    have y13_2 := cell6_2 ld13
    have y13_3 := cell6_3 ld13
    have y13_4 := cell6_4 ld13
    have y13_5 := cell6_5 ld13
    clear ld13
    have W9 : Wd ((v8.alloc (.cells #[.string ⟨#[]⟩, .string ⟨#[]⟩, .int .i64 0, .int .i64 0, .int .i64 0, .slice none 0 0] 26)).alloc (.cells #[.string ⟨#[]⟩, .string ⟨#[]⟩, .int .i64 0, .int .i64 0, .int .i64 0, .slice none 0 0] 26)) (.slice sa 0 ca) 0 X := hA4.out.below (by first | exact ((hw_v8.alloc (by have := hw_v8.size; first | omega | (simp; omega)) (.cells #[.string ⟨#[]⟩, .string ⟨#[]⟩, .int .i64 0, .int .i64 0, .int .i64 0, .slice none 0 0] 26)).alloc (by have := hw_v8.size; first | omega | (simp; omega)) (.cells #[.string ⟨#[]⟩, .string ⟨#[]⟩, .int .i64 0, .int .i64 0, .int .i64 0, .slice none 0 0] 26)) | (rw [hD4]; exact ((hw_v8.alloc (by have := hw_v8.size; first | omega | (simp; omega)) (.cells #[.string ⟨#[]⟩, .string ⟨#[]⟩, .int .i64 0, .int .i64 0, .int .i64 0, .slice none 0 0] 26)).alloc (by have := hw_v8.size; first | omega | (simp; omega)) (.cells #[.string ⟨#[]⟩, .string ⟨#[]⟩, .int .i64 0, .int .i64 0, .int .i64 0, .slice none 0 0] 26))))
    have Z10 := wd_nil (((v8.alloc (.cells #[.string ⟨#[]⟩, .string ⟨#[]⟩, .int .i64 0, .int .i64 0, .int .i64 0, .slice none 0 0] 26)).alloc (.cells #[.string ⟨#[]⟩, .string ⟨#[]⟩, .int .i64 0, .int .i64 0, .int .i64 0, .slice none 0 0] 26))) X
    go_wp2_with fail
    refine (SZ.out _ _ _ W9 Z10).mono ?_
    rintro e v14 ⟨rfl, hb_v14⟩
    have hs_v14 := hw_v8.size
    have cP_v14 : v14.heap[D]? = some (.cells #[.int .u8 t, .int .u8 ft, .int .i8 f, .int .u8 p, .int .u8 w0, .int .u8 w1, .int .u8 w2, .int .u8 w3, .int .u8 w4] 47) := (hb_v14.block (D) (Array.getElem?_eq_some_iff.1 (show ((v8.alloc (.cells #[.string ⟨#[]⟩, .string ⟨#[]⟩, .int .i64 0, .int .i64 0, .int .i64 0, .slice none 0 0] 26)).alloc (.cells #[.string ⟨#[]⟩, .string ⟨#[]⟩, .int .i64 0, .int .i64 0, .int .i64 0, .slice none 0 0] 26)).heap[D]? = some (.cells #[.int .u8 t, .int .u8 ft, .int .i8 f, .int .u8 p, .int .u8 w0, .int .u8 w1, .int .u8 w2, .int .u8 w3, .int .u8 w4] 47) from (heap_old (o := .cells #[.string ⟨#[]⟩, .string ⟨#[]⟩, .int .i64 0, .int .i64 0, .int .i64 0, .slice none 0 0] 26) (heap_old (o := .cells #[.string ⟨#[]⟩, .string ⟨#[]⟩, .int .i64 0, .int .i64 0, .int .i64 0, .slice none 0 0] 26) cP_v8)))).1).trans (heap_old (o := .cells #[.string ⟨#[]⟩, .string ⟨#[]⟩, .int .i64 0, .int .i64 0, .int .i64 0, .slice none 0 0] 26) (heap_old (o := .cells #[.string ⟨#[]⟩, .string ⟨#[]⟩, .int .i64 0, .int .i64 0, .int .i64 0, .slice none 0 0] 26) cP_v8))
    have cR_v14 : v14.heap[D2]? = some (.cells #[.string ⟨#[82, 48]⟩, .string tn, .int .i64 fa, .int .i64 fb, .int .i64 f, .slice ra n rc] 26) := (hb_v14.block (D2) (Array.getElem?_eq_some_iff.1 (show ((v8.alloc (.cells #[.string ⟨#[]⟩, .string ⟨#[]⟩, .int .i64 0, .int .i64 0, .int .i64 0, .slice none 0 0] 26)).alloc (.cells #[.string ⟨#[]⟩, .string ⟨#[]⟩, .int .i64 0, .int .i64 0, .int .i64 0, .slice none 0 0] 26)).heap[D2]? = some (.cells #[.string ⟨#[82, 48]⟩, .string tn, .int .i64 fa, .int .i64 fb, .int .i64 f, .slice ra n rc] 26) from (heap_old (o := .cells #[.string ⟨#[]⟩, .string ⟨#[]⟩, .int .i64 0, .int .i64 0, .int .i64 0, .slice none 0 0] 26) (heap_old (o := .cells #[.string ⟨#[]⟩, .string ⟨#[]⟩, .int .i64 0, .int .i64 0, .int .i64 0, .slice none 0 0] 26) cR_v8)))).1).trans (heap_old (o := .cells #[.string ⟨#[]⟩, .string ⟨#[]⟩, .int .i64 0, .int .i64 0, .int .i64 0, .slice none 0 0] 26) (heap_old (o := .cells #[.string ⟨#[]⟩, .string ⟨#[]⟩, .int .i64 0, .int .i64 0, .int .i64 0, .slice none 0 0] 26) cR_v8))
    have cA_v14 : v14.heap[D3]? = some (.cells #[.string ⟨#[]⟩, .string ⟨#[]⟩, .int .i64 0, .int .i64 0, .int .i64 0, .slice sa 0 ca] 26) := (hb_v14.block (D3) (Array.getElem?_eq_some_iff.1 (show ((v8.alloc (.cells #[.string ⟨#[]⟩, .string ⟨#[]⟩, .int .i64 0, .int .i64 0, .int .i64 0, .slice none 0 0] 26)).alloc (.cells #[.string ⟨#[]⟩, .string ⟨#[]⟩, .int .i64 0, .int .i64 0, .int .i64 0, .slice none 0 0] 26)).heap[D3]? = some (.cells #[.string ⟨#[]⟩, .string ⟨#[]⟩, .int .i64 0, .int .i64 0, .int .i64 0, .slice sa 0 ca] 26) from (heap_old (o := .cells #[.string ⟨#[]⟩, .string ⟨#[]⟩, .int .i64 0, .int .i64 0, .int .i64 0, .slice none 0 0] 26) (heap_old (o := .cells #[.string ⟨#[]⟩, .string ⟨#[]⟩, .int .i64 0, .int .i64 0, .int .i64 0, .slice none 0 0] 26) cA_v8)))).1).trans (heap_old (o := .cells #[.string ⟨#[]⟩, .string ⟨#[]⟩, .int .i64 0, .int .i64 0, .int .i64 0, .slice none 0 0] 26) (heap_old (o := .cells #[.string ⟨#[]⟩, .string ⟨#[]⟩, .int .i64 0, .int .i64 0, .int .i64 0, .slice none 0 0] 26) cA_v8))
    have cB_v14 : v14.heap[D4]? = some (.cells #[.string ⟨#[]⟩, .string ⟨#[]⟩, .int .i64 0, .int .i64 0, .int .i64 0, .slice sx 0 cx] 26) := (hb_v14.block (D4) (Array.getElem?_eq_some_iff.1 (show ((v8.alloc (.cells #[.string ⟨#[]⟩, .string ⟨#[]⟩, .int .i64 0, .int .i64 0, .int .i64 0, .slice none 0 0] 26)).alloc (.cells #[.string ⟨#[]⟩, .string ⟨#[]⟩, .int .i64 0, .int .i64 0, .int .i64 0, .slice none 0 0] 26)).heap[D4]? = some (.cells #[.string ⟨#[]⟩, .string ⟨#[]⟩, .int .i64 0, .int .i64 0, .int .i64 0, .slice sx 0 cx] 26) from (heap_old (o := .cells #[.string ⟨#[]⟩, .string ⟨#[]⟩, .int .i64 0, .int .i64 0, .int .i64 0, .slice none 0 0] 26) (heap_old (o := .cells #[.string ⟨#[]⟩, .string ⟨#[]⟩, .int .i64 0, .int .i64 0, .int .i64 0, .slice none 0 0] 26) cB_v8)))).1).trans (heap_old (o := .cells #[.string ⟨#[]⟩, .string ⟨#[]⟩, .int .i64 0, .int .i64 0, .int .i64 0, .slice none 0 0] 26) (heap_old (o := .cells #[.string ⟨#[]⟩, .string ⟨#[]⟩, .int .i64 0, .int .i64 0, .int .i64 0, .slice none 0 0] 26) cB_v8))
    have cUP_v14 : v14.heap[EUP]? = some (.cells #[.string ⟨#[]⟩, .string ⟨#[]⟩, .int .i64 0, .int .i64 0, .int .i64 0, .slice none 0 0] 26) := (hb_v14.block (EUP) (Array.getElem?_eq_some_iff.1 (show ((v8.alloc (.cells #[.string ⟨#[]⟩, .string ⟨#[]⟩, .int .i64 0, .int .i64 0, .int .i64 0, .slice none 0 0] 26)).alloc (.cells #[.string ⟨#[]⟩, .string ⟨#[]⟩, .int .i64 0, .int .i64 0, .int .i64 0, .slice none 0 0] 26)).heap[EUP]? = some (.cells #[.string ⟨#[]⟩, .string ⟨#[]⟩, .int .i64 0, .int .i64 0, .int .i64 0, .slice none 0 0] 26) from (heap_old (o := .cells #[.string ⟨#[]⟩, .string ⟨#[]⟩, .int .i64 0, .int .i64 0, .int .i64 0, .slice none 0 0] 26) (heap_new (by first | omega | (simp; omega)))))).1).trans (heap_old (o := .cells #[.string ⟨#[]⟩, .string ⟨#[]⟩, .int .i64 0, .int .i64 0, .int .i64 0, .slice none 0 0] 26) (heap_new (by first | omega | (simp; omega))))
    have cDN_v14 : v14.heap[EUP + 1]? = some (.cells #[.string ⟨#[]⟩, .string ⟨#[]⟩, .int .i64 0, .int .i64 0, .int .i64 0, .slice none 0 0] 26) := (hb_v14.block (EUP + 1) (Array.getElem?_eq_some_iff.1 (show ((v8.alloc (.cells #[.string ⟨#[]⟩, .string ⟨#[]⟩, .int .i64 0, .int .i64 0, .int .i64 0, .slice none 0 0] 26)).alloc (.cells #[.string ⟨#[]⟩, .string ⟨#[]⟩, .int .i64 0, .int .i64 0, .int .i64 0, .slice none 0 0] 26)).heap[EUP + 1]? = some (.cells #[.string ⟨#[]⟩, .string ⟨#[]⟩, .int .i64 0, .int .i64 0, .int .i64 0, .slice none 0 0] 26) from (heap_new (by first | omega | (simp; omega))))).1).trans (heap_new (by first | omega | (simp; omega)))
    have hw_v14 : Below D4 v7 v14 := (((hw_v8.alloc (by have := hw_v8.size; first | omega | (simp; omega)) (.cells #[.string ⟨#[]⟩, .string ⟨#[]⟩, .int .i64 0, .int .i64 0, .int .i64 0, .slice none 0 0] 26)).alloc (by have := hw_v8.size; first | omega | (simp; omega)) (.cells #[.string ⟨#[]⟩, .string ⟨#[]⟩, .int .i64 0, .int .i64 0, .int .i64 0, .slice none 0 0] 26))).trans (hb_v14.mono (by first | omega | (simp; omega)))
    clear cP_v8 cR_v8 cA_v8 cB_v8 hb_v14 y9_0 y9_1 y9_2 y9_3 y9_4 y9_5 y10_0 y10_1 y10_2 y10_3 y10_4 y10_5 y11_0 y11_1 y11_2 y11_3 y11_4 y11_5 y12_0 y12_1 y12_2 y12_3 y12_4 y12_5 y13_0 y13_1 y13_2 y13_3 y13_4 y13_5 W9 hw_v8 hs_v14
    have ld15 : v14.heap[D4]? = some (.cells #[.string ⟨#[]⟩, .string ⟨#[]⟩, .int .i64 0, .int .i64 0, .int .i64 0, .slice sx 0 cx] 26) := cB_v14
    have y15_0 := cell6_0 ld15
    have y15_1 := cell6_1 ld15
    have y15_2 := cell6_2 ld15
    have y15_3 := cell6_3 ld15
    have y15_4 := cell6_4 ld15
    have y15_5 := cell6_5 ld15
    clear ld15
    have ld16 : v14.heap[EUP]? = some (.cells #[.string ⟨#[]⟩, .string ⟨#[]⟩, .int .i64 0, .int .i64 0, .int .i64 0, .slice none 0 0] 26) := cUP_v14
    have y16_0 := cell6_0 ld16
    have y16_1 := cell6_1 ld16
    have y16_2 := cell6_2 ld16
    have y16_3 := cell6_3 ld16
    have y16_4 := cell6_4 ld16
    have y16_5 := cell6_5 ld16
    clear ld16
    have W11 : Wd v14 (.slice sx 0 cx) 0 X := hB4.out.below (by first | exact hw_v14 | (rw [hD4]; exact hw_v14))
    have Z12 := wd_nil (v14) X
    go_wp2_with fail
    refine (SZ.out _ _ _ W11 Z12).mono ?_
    rintro e v17 ⟨rfl, hb_v17⟩
    have hs_v17 := hw_v14.size
    have cP_v17 : v17.heap[D]? = some (.cells #[.int .u8 t, .int .u8 ft, .int .i8 f, .int .u8 p, .int .u8 w0, .int .u8 w1, .int .u8 w2, .int .u8 w3, .int .u8 w4] 47) := (hb_v17.block (D) (Array.getElem?_eq_some_iff.1 (show v14.heap[D]? = some (.cells #[.int .u8 t, .int .u8 ft, .int .i8 f, .int .u8 p, .int .u8 w0, .int .u8 w1, .int .u8 w2, .int .u8 w3, .int .u8 w4] 47) from cP_v14)).1).trans cP_v14
    have cR_v17 : v17.heap[D2]? = some (.cells #[.string ⟨#[82, 48]⟩, .string tn, .int .i64 fa, .int .i64 fb, .int .i64 f, .slice ra n rc] 26) := (hb_v17.block (D2) (Array.getElem?_eq_some_iff.1 (show v14.heap[D2]? = some (.cells #[.string ⟨#[82, 48]⟩, .string tn, .int .i64 fa, .int .i64 fb, .int .i64 f, .slice ra n rc] 26) from cR_v14)).1).trans cR_v14
    have cA_v17 : v17.heap[D3]? = some (.cells #[.string ⟨#[]⟩, .string ⟨#[]⟩, .int .i64 0, .int .i64 0, .int .i64 0, .slice sa 0 ca] 26) := (hb_v17.block (D3) (Array.getElem?_eq_some_iff.1 (show v14.heap[D3]? = some (.cells #[.string ⟨#[]⟩, .string ⟨#[]⟩, .int .i64 0, .int .i64 0, .int .i64 0, .slice sa 0 ca] 26) from cA_v14)).1).trans cA_v14
    have cB_v17 : v17.heap[D4]? = some (.cells #[.string ⟨#[]⟩, .string ⟨#[]⟩, .int .i64 0, .int .i64 0, .int .i64 0, .slice sx 0 cx] 26) := (hb_v17.block (D4) (Array.getElem?_eq_some_iff.1 (show v14.heap[D4]? = some (.cells #[.string ⟨#[]⟩, .string ⟨#[]⟩, .int .i64 0, .int .i64 0, .int .i64 0, .slice sx 0 cx] 26) from cB_v14)).1).trans cB_v14
    have cUP_v17 : v17.heap[EUP]? = some (.cells #[.string ⟨#[]⟩, .string ⟨#[]⟩, .int .i64 0, .int .i64 0, .int .i64 0, .slice none 0 0] 26) := (hb_v17.block (EUP) (Array.getElem?_eq_some_iff.1 (show v14.heap[EUP]? = some (.cells #[.string ⟨#[]⟩, .string ⟨#[]⟩, .int .i64 0, .int .i64 0, .int .i64 0, .slice none 0 0] 26) from cUP_v14)).1).trans cUP_v14
    have cDN_v17 : v17.heap[EUP + 1]? = some (.cells #[.string ⟨#[]⟩, .string ⟨#[]⟩, .int .i64 0, .int .i64 0, .int .i64 0, .slice none 0 0] 26) := (hb_v17.block (EUP + 1) (Array.getElem?_eq_some_iff.1 (show v14.heap[EUP + 1]? = some (.cells #[.string ⟨#[]⟩, .string ⟨#[]⟩, .int .i64 0, .int .i64 0, .int .i64 0, .slice none 0 0] 26) from cDN_v14)).1).trans cDN_v14
    have hw_v17 : Below D4 v7 v17 := (hw_v14).trans (hb_v17.mono (by first | omega | (simp; omega)))
    clear cP_v14 cR_v14 cA_v14 cB_v14 cUP_v14 cDN_v14 hb_v17 y15_0 y15_1 y15_2 y15_3 y15_4 y15_5 y16_0 y16_1 y16_2 y16_3 y16_4 y16_5 W11 hw_v14 hs_v17
    have HW := Lib.hid (show Below D w (v17) from (HB2.out.trans (((HB3.out.trans (((HB4.out.trans ((hw_v17).mono (by first | exact HB4.out.size | (have := HB4.out.size; simp only [hD] at *; omega) | (have := HB4.out.size; omega))))).mono (by first | exact HB3.out.size | (have := HB3.out.size; simp only [hD] at *; omega) | (have := HB3.out.size; omega))))).mono (by first | exact HB2.out.size | (have := HB2.out.size; simp only [hD] at *; omega) | (have := HB2.out.size; omega)))))
    go_wp2
    go_ret
    exact ⟨rfl, by first | exact HW.out | (rw [hD]; exact HW.out)⟩
  · obtain ⟨rfl, rfl, rfl, rfl, rfl, rfl, rfl, rfl⟩ := HCA.out.2.1 rfl h3
    have g1 : (128 : Int) < (m : Int) + (n : Int) := by omega
    have ld9 : v8.heap[D2]? = some (.cells #[.string ⟨#[82, 48]⟩, .string tn, .int .i64 fa, .int .i64 fb, .int .i64 f, .slice ra n rc] 26) := cR_v8
    have y9_0 := cell6_0 ld9
    have y9_1 := cell6_1 ld9
    have y9_2 := cell6_2 ld9
    have y9_3 := cell6_3 ld9
    have y9_4 := cell6_4 ld9
    have y9_5 := cell6_5 ld9
    clear ld9
    obtain ⟨EUP, hEUP⟩ : ∃ E, v8.heap.size = E := ⟨_, rfl⟩
    have ld10 : ((v8.alloc (.cells #[.string ⟨#[]⟩, .string ⟨#[]⟩, .int .i64 0, .int .i64 0, .int .i64 0, .slice none 0 0] 26)).alloc (.cells #[.string ⟨#[]⟩, .string ⟨#[]⟩, .int .i64 0, .int .i64 0, .int .i64 0, .slice none 0 0] 26)).heap[D3]? = some (.cells #[.string ⟨#[]⟩, .string ⟨#[]⟩, .int .i64 0, .int .i64 0, .int .i64 0, .slice sa 0 ca] 26) := (heap_old (o := .cells #[.string ⟨#[]⟩, .string ⟨#[]⟩, .int .i64 0, .int .i64 0, .int .i64 0, .slice none 0 0] 26) (heap_old (o := .cells #[.string ⟨#[]⟩, .string ⟨#[]⟩, .int .i64 0, .int .i64 0, .int .i64 0, .slice none 0 0] 26) cA_v8))
    have y10_0 := cell6_0 ld10
    have y10_1 := cell6_1 ld10
    have y10_2 := cell6_2 ld10
    have y10_3 := cell6_3 ld10
    have y10_4 := cell6_4 ld10
    have y10_5 := cell6_5 ld10
    clear ld10
    have ld11 : ((v8.alloc (.cells #[.string ⟨#[]⟩, .string ⟨#[]⟩, .int .i64 0, .int .i64 0, .int .i64 0, .slice none 0 0] 26)).alloc (.cells #[.string ⟨#[]⟩, .string ⟨#[]⟩, .int .i64 0, .int .i64 0, .int .i64 0, .slice none 0 0] 26)).heap[EUP + 1]? = some (.cells #[.string ⟨#[]⟩, .string ⟨#[]⟩, .int .i64 0, .int .i64 0, .int .i64 0, .slice none 0 0] 26) := (heap_new (by first | omega | (simp; omega)))
    have y11_0 := cell6_0 ld11
    have y11_1 := cell6_1 ld11
    have y11_2 := cell6_2 ld11
    have y11_3 := cell6_3 ld11
    have y11_4 := cell6_4 ld11
    have y11_5 := cell6_5 ld11
    clear ld11
    have ld12 : ((v8.alloc (.cells #[.string ⟨#[]⟩, .string ⟨#[]⟩, .int .i64 0, .int .i64 0, .int .i64 0, .slice none 0 0] 26)).alloc (.cells #[.string ⟨#[]⟩, .string ⟨#[]⟩, .int .i64 0, .int .i64 0, .int .i64 0, .slice none 0 0] 26)).heap[D4]? = some (.cells #[.string ⟨#[]⟩, .string ⟨#[]⟩, .int .i64 0, .int .i64 0, .int .i64 0, .slice sx 0 cx] 26) := (heap_old (o := .cells #[.string ⟨#[]⟩, .string ⟨#[]⟩, .int .i64 0, .int .i64 0, .int .i64 0, .slice none 0 0] 26) (heap_old (o := .cells #[.string ⟨#[]⟩, .string ⟨#[]⟩, .int .i64 0, .int .i64 0, .int .i64 0, .slice none 0 0] 26) cB_v8))
    have y12_0 := cell6_0 ld12
    have y12_1 := cell6_1 ld12
    have y12_2 := cell6_2 ld12
    have y12_3 := cell6_3 ld12
    have y12_4 := cell6_4 ld12
    have y12_5 := cell6_5 ld12
    clear ld12
    have ld13 : ((v8.alloc (.cells #[.string ⟨#[]⟩, .string ⟨#[]⟩, .int .i64 0, .int .i64 0, .int .i64 0, .slice none 0 0] 26)).alloc (.cells #[.string ⟨#[]⟩, .string ⟨#[]⟩, .int .i64 0, .int .i64 0, .int .i64 0, .slice none 0 0] 26)).heap[EUP]? = some (.cells #[.string ⟨#[]⟩, .string ⟨#[]⟩, .int .i64 0, .int .i64 0, .int .i64 0, .slice none 0 0] 26) := (heap_old (o := .cells #[.string ⟨#[]⟩, .string ⟨#[]⟩, .int .i64 0, .int .i64 0, .int .i64 0, .slice none 0 0] 26) (heap_new (by first | omega | (simp; omega))))
    have y13_0 := cell6_0 ld13
    have y13_1 := cell6_1 ld13
    have y13_2 := cell6_2 ld13
    have y13_3 := cell6_3 ld13
    have y13_4 := cell6_4 ld13
    have y13_5 := cell6_5 ld13
    clear ld13
    have W13 : Wd ((v8.alloc (.cells #[.string ⟨#[]⟩, .string ⟨#[]⟩, .int .i64 0, .int .i64 0, .int .i64 0, .slice none 0 0] 26)).alloc (.cells #[.string ⟨#[]⟩, .string ⟨#[]⟩, .int .i64 0, .int .i64 0, .int .i64 0, .slice none 0 0] 26)) (.slice sa 0 ca) 0 X := hA4.out.below (by first | exact ((hw_v8.alloc (by have := hw_v8.size; first | omega | (simp; omega)) (.cells #[.string ⟨#[]⟩, .string ⟨#[]⟩, .int .i64 0, .int .i64 0, .int .i64 0, .slice none 0 0] 26)).alloc (by have := hw_v8.size; first | omega | (simp; omega)) (.cells #[.string ⟨#[]⟩, .string ⟨#[]⟩, .int .i64 0, .int .i64 0, .int .i64 0, .slice none 0 0] 26)) | (rw [hD4]; exact ((hw_v8.alloc (by have := hw_v8.size; first | omega | (simp; omega)) (.cells #[.string ⟨#[]⟩, .string ⟨#[]⟩, .int .i64 0, .int .i64 0, .int .i64 0, .slice none 0 0] 26)).alloc (by have := hw_v8.size; first | omega | (simp; omega)) (.cells #[.string ⟨#[]⟩, .string ⟨#[]⟩, .int .i64 0, .int .i64 0, .int .i64 0, .slice none 0 0] 26))))
    have Z14 := wd_nil (((v8.alloc (.cells #[.string ⟨#[]⟩, .string ⟨#[]⟩, .int .i64 0, .int .i64 0, .int .i64 0, .slice none 0 0] 26)).alloc (.cells #[.string ⟨#[]⟩, .string ⟨#[]⟩, .int .i64 0, .int .i64 0, .int .i64 0, .slice none 0 0] 26))) X
    go_wp2_with fail
    refine (SZ.out _ _ _ W13 Z14).mono ?_
    rintro e v14 ⟨rfl, hb_v14⟩
    have hs_v14 := hw_v8.size
    have cP_v14 : v14.heap[D]? = some (.cells #[.int .u8 t, .int .u8 ft, .int .i8 f, .int .u8 p, .int .u8 w0, .int .u8 w1, .int .u8 w2, .int .u8 w3, .int .u8 w4] 47) := (hb_v14.block (D) (Array.getElem?_eq_some_iff.1 (show ((v8.alloc (.cells #[.string ⟨#[]⟩, .string ⟨#[]⟩, .int .i64 0, .int .i64 0, .int .i64 0, .slice none 0 0] 26)).alloc (.cells #[.string ⟨#[]⟩, .string ⟨#[]⟩, .int .i64 0, .int .i64 0, .int .i64 0, .slice none 0 0] 26)).heap[D]? = some (.cells #[.int .u8 t, .int .u8 ft, .int .i8 f, .int .u8 p, .int .u8 w0, .int .u8 w1, .int .u8 w2, .int .u8 w3, .int .u8 w4] 47) from (heap_old (o := .cells #[.string ⟨#[]⟩, .string ⟨#[]⟩, .int .i64 0, .int .i64 0, .int .i64 0, .slice none 0 0] 26) (heap_old (o := .cells #[.string ⟨#[]⟩, .string ⟨#[]⟩, .int .i64 0, .int .i64 0, .int .i64 0, .slice none 0 0] 26) cP_v8)))).1).trans (heap_old (o := .cells #[.string ⟨#[]⟩, .string ⟨#[]⟩, .int .i64 0, .int .i64 0, .int .i64 0, .slice none 0 0] 26) (heap_old (o := .cells #[.string ⟨#[]⟩, .string ⟨#[]⟩, .int .i64 0, .int .i64 0, .int .i64 0, .slice none 0 0] 26) cP_v8))
    have cR_v14 : v14.heap[D2]? = some (.cells #[.string ⟨#[82, 48]⟩, .string tn, .int .i64 fa, .int .i64 fb, .int .i64 f, .slice ra n rc] 26) := (hb_v14.block (D2) (Array.getElem?_eq_some_iff.1 (show ((v8.alloc (.cells #[.string ⟨#[]⟩, .string ⟨#[]⟩, .int .i64 0, .int .i64 0, .int .i64 0, .slice none 0 0] 26)).alloc (.cells #[.string ⟨#[]⟩, .string ⟨#[]⟩, .int .i64 0, .int .i64 0, .int .i64 0, .slice none 0 0] 26)).heap[D2]? = some (.cells #[.string ⟨#[82, 48]⟩, .string tn, .int .i64 fa, .int .i64 fb, .int .i64 f, .slice ra n rc] 26) from (heap_old (o := .cells #[.string ⟨#[]⟩, .string ⟨#[]⟩, .int .i64 0, .int .i64 0, .int .i64 0, .slice none 0 0] 26) (heap_old (o := .cells #[.string ⟨#[]⟩, .string ⟨#[]⟩, .int .i64 0, .int .i64 0, .int .i64 0, .slice none 0 0] 26) cR_v8)))).1).trans (heap_old (o := .cells #[.string ⟨#[]⟩, .string ⟨#[]⟩, .int .i64 0, .int .i64 0, .int .i64 0, .slice none 0 0] 26) (heap_old (o := .cells #[.string ⟨#[]⟩, .string ⟨#[]⟩, .int .i64 0, .int .i64 0, .int .i64 0, .slice none 0 0] 26) cR_v8))
    have cA_v14 : v14.heap[D3]? = some (.cells #[.string ⟨#[]⟩, .string ⟨#[]⟩, .int .i64 0, .int .i64 0, .int .i64 0, .slice sa 0 ca] 26) := (hb_v14.block (D3) (Array.getElem?_eq_some_iff.1 (show ((v8.alloc (.cells #[.string ⟨#[]⟩, .string ⟨#[]⟩, .int .i64 0, .int .i64 0, .int .i64 0, .slice none 0 0] 26)).alloc (.cells #[.string ⟨#[]⟩, .string ⟨#[]⟩, .int .i64 0, .int .i64 0, .int .i64 0, .slice none 0 0] 26)).heap[D3]? = some (.cells #[.string ⟨#[]⟩, .string ⟨#[]⟩, .int .i64 0, .int .i64 0, .int .i64 0, .slice sa 0 ca] 26) from (heap_old (o := .cells #[.string ⟨#[]⟩, .string ⟨#[]⟩, .int .i64 0, .int .i64 0, .int .i64 0, .slice none 0 0] 26) (heap_old (o := .cells #[.string ⟨#[]⟩, .string ⟨#[]⟩, .int .i64 0, .int .i64 0, .int .i64 0, .slice none 0 0] 26) cA_v8)))).1).trans (heap_old (o := .cells #[.string ⟨#[]⟩, .string ⟨#[]⟩, .int .i64 0, .int .i64 0, .int .i64 0, .slice none 0 0] 26) (heap_old (o := .cells #[.string ⟨#[]⟩, .string ⟨#[]⟩, .int .i64 0, .int .i64 0, .int .i64 0, .slice none 0 0] 26) cA_v8))
    have cB_v14 : v14.heap[D4]? = some (.cells #[.string ⟨#[]⟩, .string ⟨#[]⟩, .int .i64 0, .int .i64 0, .int .i64 0, .slice sx 0 cx] 26) := (hb_v14.block (D4) (Array.getElem?_eq_some_iff.1 (show ((v8.alloc (.cells #[.string ⟨#[]⟩, .string ⟨#[]⟩, .int .i64 0, .int .i64 0, .int .i64 0, .slice none 0 0] 26)).alloc (.cells #[.string ⟨#[]⟩, .string ⟨#[]⟩, .int .i64 0, .int .i64 0, .int .i64 0, .slice none 0 0] 26)).heap[D4]? = some (.cells #[.string ⟨#[]⟩, .string ⟨#[]⟩, .int .i64 0, .int .i64 0, .int .i64 0, .slice sx 0 cx] 26) from (heap_old (o := .cells #[.string ⟨#[]⟩, .string ⟨#[]⟩, .int .i64 0, .int .i64 0, .int .i64 0, .slice none 0 0] 26) (heap_old (o := .cells #[.string ⟨#[]⟩, .string ⟨#[]⟩, .int .i64 0, .int .i64 0, .int .i64 0, .slice none 0 0] 26) cB_v8)))).1).trans (heap_old (o := .cells #[.string ⟨#[]⟩, .string ⟨#[]⟩, .int .i64 0, .int .i64 0, .int .i64 0, .slice none 0 0] 26) (heap_old (o := .cells #[.string ⟨#[]⟩, .string ⟨#[]⟩, .int .i64 0, .int .i64 0, .int .i64 0, .slice none 0 0] 26) cB_v8))
    have cUP_v14 : v14.heap[EUP]? = some (.cells #[.string ⟨#[]⟩, .string ⟨#[]⟩, .int .i64 0, .int .i64 0, .int .i64 0, .slice none 0 0] 26) := (hb_v14.block (EUP) (Array.getElem?_eq_some_iff.1 (show ((v8.alloc (.cells #[.string ⟨#[]⟩, .string ⟨#[]⟩, .int .i64 0, .int .i64 0, .int .i64 0, .slice none 0 0] 26)).alloc (.cells #[.string ⟨#[]⟩, .string ⟨#[]⟩, .int .i64 0, .int .i64 0, .int .i64 0, .slice none 0 0] 26)).heap[EUP]? = some (.cells #[.string ⟨#[]⟩, .string ⟨#[]⟩, .int .i64 0, .int .i64 0, .int .i64 0, .slice none 0 0] 26) from (heap_old (o := .cells #[.string ⟨#[]⟩, .string ⟨#[]⟩, .int .i64 0, .int .i64 0, .int .i64 0, .slice none 0 0] 26) (heap_new (by first | omega | (simp; omega)))))).1).trans (heap_old (o := .cells #[.string ⟨#[]⟩, .string ⟨#[]⟩, .int .i64 0, .int .i64 0, .int .i64 0, .slice none 0 0] 26) (heap_new (by first | omega | (simp; omega))))
    have cDN_v14 : v14.heap[EUP + 1]? = some (.cells #[.string ⟨#[]⟩, .string ⟨#[]⟩, .int .i64 0, .int .i64 0, .int .i64 0, .slice none 0 0] 26) := (hb_v14.block (EUP + 1) (Array.getElem?_eq_some_iff.1 (show ((v8.alloc (.cells #[.string ⟨#[]⟩, .string ⟨#[]⟩, .int .i64 0, .int .i64 0, .int .i64 0, .slice none 0 0] 26)).alloc (.cells #[.string ⟨#[]⟩, .string ⟨#[]⟩, .int .i64 0, .int .i64 0, .int .i64 0, .slice none 0 0] 26)).heap[EUP + 1]? = some (.cells #[.string ⟨#[]⟩, .string ⟨#[]⟩, .int .i64 0, .int .i64 0, .int .i64 0, .slice none 0 0] 26) from (heap_new (by first | omega | (simp; omega))))).1).trans (heap_new (by first | omega | (simp; omega)))
    have hw_v14 : Below D4 v7 v14 := (((hw_v8.alloc (by have := hw_v8.size; first | omega | (simp; omega)) (.cells #[.string ⟨#[]⟩, .string ⟨#[]⟩, .int .i64 0, .int .i64 0, .int .i64 0, .slice none 0 0] 26)).alloc (by have := hw_v8.size; first | omega | (simp; omega)) (.cells #[.string ⟨#[]⟩, .string ⟨#[]⟩, .int .i64 0, .int .i64 0, .int .i64 0, .slice none 0 0] 26))).trans (hb_v14.mono (by first | omega | (simp; omega)))
    clear cP_v8 cR_v8 cA_v8 cB_v8 hb_v14 y9_0 y9_1 y9_2 y9_3 y9_4 y9_5 y10_0 y10_1 y10_2 y10_3 y10_4 y10_5 y11_0 y11_1 y11_2 y11_3 y11_4 y11_5 y12_0 y12_1 y12_2 y12_3 y12_4 y12_5 y13_0 y13_1 y13_2 y13_3 y13_4 y13_5 W13 hw_v8 hs_v14
    have ld15 : v14.heap[D4]? = some (.cells #[.string ⟨#[]⟩, .string ⟨#[]⟩, .int .i64 0, .int .i64 0, .int .i64 0, .slice sx 0 cx] 26) := cB_v14
    have y15_0 := cell6_0 ld15
    have y15_1 := cell6_1 ld15
    have y15_2 := cell6_2 ld15
    have y15_3 := cell6_3 ld15
    have y15_4 := cell6_4 ld15
    have y15_5 := cell6_5 ld15
    clear ld15
    have ld16 : v14.heap[EUP]? = some (.cells #[.string ⟨#[]⟩, .string ⟨#[]⟩, .int .i64 0, .int .i64 0, .int .i64 0, .slice none 0 0] 26) := cUP_v14
    have y16_0 := cell6_0 ld16
    have y16_1 := cell6_1 ld16
    have y16_2 := cell6_2 ld16
    have y16_3 := cell6_3 ld16
    have y16_4 := cell6_4 ld16
    have y16_5 := cell6_5 ld16
    clear ld16
    have W15 : Wd v14 (.slice sx 0 cx) 0 X := hB4.out.below (by first | exact hw_v14 | (rw [hD4]; exact hw_v14))
    have Z16 := wd_nil (v14) X
    go_wp2_with fail
    refine (SZ.out _ _ _ W15 Z16).mono ?_
    rintro e v17 ⟨rfl, hb_v17⟩
    have hs_v17 := hw_v14.size
    have cP_v17 : v17.heap[D]? = some (.cells #[.int .u8 t, .int .u8 ft, .int .i8 f, .int .u8 p, .int .u8 w0, .int .u8 w1, .int .u8 w2, .int .u8 w3, .int .u8 w4] 47) := (hb_v17.block (D) (Array.getElem?_eq_some_iff.1 (show v14.heap[D]? = some (.cells #[.int .u8 t, .int .u8 ft, .int .i8 f, .int .u8 p, .int .u8 w0, .int .u8 w1, .int .u8 w2, .int .u8 w3, .int .u8 w4] 47) from cP_v14)).1).trans cP_v14
    have cR_v17 : v17.heap[D2]? = some (.cells #[.string ⟨#[82, 48]⟩, .string tn, .int .i64 fa, .int .i64 fb, .int .i64 f, .slice ra n rc] 26) := (hb_v17.block (D2) (Array.getElem?_eq_some_iff.1 (show v14.heap[D2]? = some (.cells #[.string ⟨#[82, 48]⟩, .string tn, .int .i64 fa, .int .i64 fb, .int .i64 f, .slice ra n rc] 26) from cR_v14)).1).trans cR_v14
    have cA_v17 : v17.heap[D3]? = some (.cells #[.string ⟨#[]⟩, .string ⟨#[]⟩, .int .i64 0, .int .i64 0, .int .i64 0, .slice sa 0 ca] 26) := (hb_v17.block (D3) (Array.getElem?_eq_some_iff.1 (show v14.heap[D3]? = some (.cells #[.string ⟨#[]⟩, .string ⟨#[]⟩, .int .i64 0, .int .i64 0, .int .i64 0, .slice sa 0 ca] 26) from cA_v14)).1).trans cA_v14
    have cB_v17 : v17.heap[D4]? = some (.cells #[.string ⟨#[]⟩, .string ⟨#[]⟩, .int .i64 0, .int .i64 0, .int .i64 0, .slice sx 0 cx] 26) := (hb_v17.block (D4) (Array.getElem?_eq_some_iff.1 (show v14.heap[D4]? = some (.cells #[.string ⟨#[]⟩, .string ⟨#[]⟩, .int .i64 0, .int .i64 0, .int .i64 0, .slice sx 0 cx] 26) from cB_v14)).1).trans cB_v14
    have cUP_v17 : v17.heap[EUP]? = some (.cells #[.string ⟨#[]⟩, .string ⟨#[]⟩, .int .i64 0, .int .i64 0, .int .i64 0, .slice none 0 0] 26) := (hb_v17.block (EUP) (Array.getElem?_eq_some_iff.1 (show v14.heap[EUP]? = some (.cells #[.string ⟨#[]⟩, .string ⟨#[]⟩, .int .i64 0, .int .i64 0, .int .i64 0, .slice none 0 0] 26) from cUP_v14)).1).trans cUP_v14
    have cDN_v17 : v17.heap[EUP + 1]? = some (.cells #[.string ⟨#[]⟩, .string ⟨#[]⟩, .int .i64 0, .int .i64 0, .int .i64 0, .slice none 0 0] 26) := (hb_v17.block (EUP + 1) (Array.getElem?_eq_some_iff.1 (show v14.heap[EUP + 1]? = some (.cells #[.string ⟨#[]⟩, .string ⟨#[]⟩, .int .i64 0, .int .i64 0, .int .i64 0, .slice none 0 0] 26) from cDN_v14)).1).trans cDN_v14
    have hw_v17 : Below D4 v7 v17 := (hw_v14).trans (hb_v17.mono (by first | omega | (simp; omega)))
    clear cP_v14 cR_v14 cA_v14 cB_v14 cUP_v14 cDN_v14 hb_v17 y15_0 y15_1 y15_2 y15_3 y15_4 y15_5 y16_0 y16_1 y16_2 y16_3 y16_4 y16_5 W15 hw_v14 hs_v17
    have HW := Lib.hid (show Below D w (v17) from (HB2.out.trans (((HB3.out.trans (((HB4.out.trans ((hw_v17).mono (by first | exact HB4.out.size | (have := HB4.out.size; simp only [hD] at *; omega) | (have := HB4.out.size; omega))))).mono (by first | exact HB3.out.size | (have := HB3.out.size; simp only [hD] at *; omega) | (have := HB3.out.size; omega))))).mono (by first | exact HB2.out.size | (have := HB2.out.size; simp only [hD] at *; omega) | (have := HB2.out.size; omega)))))
    go_wp2
    go_ret
    exact ⟨rfl, by first | exact HW.out | (rw [hD]; exact HW.out)⟩
  · omega
  · obtain ⟨rfl, rfl, rfl, rfl, rfl, rfl, rfl, rfl⟩ := HCA.out.2.2 rfl h3
    have g1 : ¬ (128 : Int) < (m : Int) + (n : Int) := by omega
    have g2 : ¬ f - (m : Int) < -256 := by omega
    clear h4
    have ld9 : v8.heap[D2]? = some (.cells #[.string ⟨#[82, 48]⟩, .string tn, .int .i64 fa, .int .i64 fb, .int .i64 f, .slice ra n rc] 26) := cR_v8
    have y9_0 := cell6_0 ld9
    have y9_1 := cell6_1 ld9
    have y9_2 := cell6_2 ld9
    have y9_3 := cell6_3 ld9
    have y9_4 := cell6_4 ld9
    have y9_5 := cell6_5 ld9
    clear ld9
    go_upto_region 12 with fail
    obtain ⟨EUP, hEUP⟩ : ∃ E, v8.heap.size = E := ⟨_, rfl⟩
    have lt_P : D < EUP := by have := (Array.getElem?_eq_some_iff.1 cP_v8).1; omega
    have lt_R : D2 < EUP := by have := (Array.getElem?_eq_some_iff.1 cR_v8).1; omega
    have lt_A : D3 < EUP := by have := (Array.getElem?_eq_some_iff.1 cA_v8).1; omega
    have lt_B : D4 < EUP := by have := (Array.getElem?_eq_some_iff.1 cB_v8).1; omega
    have geU : D4 ≤ EUP := by have := hw_v8.size; omega
    obtain ⟨N1, hN1⟩ : ∃ W, ((v8.alloc (.cells #[.string ⟨#[]⟩, .string ⟨#[]⟩, .int .i64 0, .int .i64 0, .int .i64 0, .slice none 0 0] 26)).alloc (.cells #[.string ⟨#[]⟩, .string ⟨#[]⟩, .int .i64 0, .int .i64 0, .int .i64 0, .slice none 0 0] 26)) = W := ⟨_, rfl⟩
    have hw_N1 : Below D4 v7 N1 := by rw [← hN1]; exact ((hw_v8.alloc (by have := hw_v8.size; first | omega | (simp; omega)) (.cells #[.string ⟨#[]⟩, .string ⟨#[]⟩, .int .i64 0, .int .i64 0, .int .i64 0, .slice none 0 0] 26)).alloc (by have := hw_v8.size; first | omega | (simp; omega)) (.cells #[.string ⟨#[]⟩, .string ⟨#[]⟩, .int .i64 0, .int .i64 0, .int .i64 0, .slice none 0 0] 26))
    have cP_N1 : N1.heap[D]? = some (.cells #[.int .u8 t, .int .u8 ft, .int .i8 f, .int .u8 p, .int .u8 w0, .int .u8 w1, .int .u8 w2, .int .u8 w3, .int .u8 w4] 47) := by rw [← hN1]; exact (heap_old (o := .cells #[.string ⟨#[]⟩, .string ⟨#[]⟩, .int .i64 0, .int .i64 0, .int .i64 0, .slice none 0 0] 26) (heap_old (o := .cells #[.string ⟨#[]⟩, .string ⟨#[]⟩, .int .i64 0, .int .i64 0, .int .i64 0, .slice none 0 0] 26) cP_v8))
    have cR_N1 : N1.heap[D2]? = some (.cells #[.string ⟨#[82, 48]⟩, .string tn, .int .i64 fa, .int .i64 fb, .int .i64 f, .slice ra n rc] 26) := by rw [← hN1]; exact (heap_old (o := .cells #[.string ⟨#[]⟩, .string ⟨#[]⟩, .int .i64 0, .int .i64 0, .int .i64 0, .slice none 0 0] 26) (heap_old (o := .cells #[.string ⟨#[]⟩, .string ⟨#[]⟩, .int .i64 0, .int .i64 0, .int .i64 0, .slice none 0 0] 26) cR_v8))
    have cA_N1 : N1.heap[D3]? = some (.cells #[.string ⟨#[82, 48]⟩, .string tn, .int .i64 fa, .int .i64 fb, .int .i64 (f - m), .slice sa (m + n) ca] 26) := by rw [← hN1]; exact (heap_old (o := .cells #[.string ⟨#[]⟩, .string ⟨#[]⟩, .int .i64 0, .int .i64 0, .int .i64 0, .slice none 0 0] 26) (heap_old (o := .cells #[.string ⟨#[]⟩, .string ⟨#[]⟩, .int .i64 0, .int .i64 0, .int .i64 0, .slice none 0 0] 26) cA_v8))
    have cB_N1 : N1.heap[D4]? = some (.cells #[.string ⟨#[82, 48]⟩, .string tn, .int .i64 fa, .int .i64 fb, .int .i64 f, .slice sx (n + m) cx] 26) := by rw [← hN1]; exact (heap_old (o := .cells #[.string ⟨#[]⟩, .string ⟨#[]⟩, .int .i64 0, .int .i64 0, .int .i64 0, .slice none 0 0] 26) (heap_old (o := .cells #[.string ⟨#[]⟩, .string ⟨#[]⟩, .int .i64 0, .int .i64 0, .int .i64 0, .slice none 0 0] 26) cB_v8))
    have cUP_N1 : N1.heap[EUP]? = some (.cells #[.string ⟨#[]⟩, .string ⟨#[]⟩, .int .i64 0, .int .i64 0, .int .i64 0, .slice none 0 0] 26) := by rw [← hN1]; exact (heap_old (o := .cells #[.string ⟨#[]⟩, .string ⟨#[]⟩, .int .i64 0, .int .i64 0, .int .i64 0, .slice none 0 0] 26) (heap_new (by first | omega | (simp; omega))))
    have cDN_N1 : N1.heap[EUP + 1]? = some (.cells #[.string ⟨#[]⟩, .string ⟨#[]⟩, .int .i64 0, .int .i64 0, .int .i64 0, .slice none 0 0] 26) := by rw [← hN1]; exact (heap_new (by first | omega | (simp; omega)))
    have HEN := Lib.hid hN1
    clear hN1
    go_upto_region 14 with fail
    rw [HEN.out]
    clear cP_v8 cR_v8 cA_v8 cB_v8 y9_0 y9_1 y9_2 y9_3 y9_4 y9_5 hw_v8 HEN
    have ld10 : N1.heap[D2]? = some (.cells #[.string ⟨#[82, 48]⟩, .string tn, .int .i64 fa, .int .i64 fb, .int .i64 f, .slice ra n rc] 26) := cR_N1
    have y10_0 := cell6_0 ld10
    have y10_1 := cell6_1 ld10
    have y10_2 := cell6_2 ld10
    have y10_3 := cell6_3 ld10
    have y10_4 := cell6_4 ld10
    have y10_5 := cell6_5 ld10
    clear ld10
    have ld11 : N1.heap[EUP]? = some (.cells #[.string ⟨#[]⟩, .string ⟨#[]⟩, .int .i64 0, .int .i64 0, .int .i64 0, .slice none 0 0] 26) := cUP_N1
    have y11_0 := cell6_0 ld11
    have y11_1 := cell6_1 ld11
    have y11_2 := cell6_2 ld11
    have y11_3 := cell6_3 ld11
    have y11_4 := cell6_4 ld11
    have y11_5 := cell6_5 ld11
    clear ld11
    obtain ⟨r0, r1, r2, r3, r4, r5⟩ := free6_at cUP_N1
    go_upto_region 15 with fail
    obtain ⟨N2, hN2⟩ : ∃ W, ((((((N1.setCell ⟨EUP, 0, none⟩ (.string ⟨#[82, 48]⟩)).setCell ⟨EUP, 1, none⟩ (.string tn)).setCell ⟨EUP, 2, none⟩ (.int .i64 fa)).setCell ⟨EUP, 3, none⟩ (.int .i64 fb)).setCell ⟨EUP, 4, none⟩ (.int .i64 f)).setCell ⟨EUP, 5, none⟩ (.slice ra n rc)) = W := ⟨_, rfl⟩
    have hw_N2 : Below D4 v7 N2 := by rw [← hN2]; exact (below6 hw_N1 (show D4 ≤ EUP by omega) (.string ⟨#[82, 48]⟩) (.string tn) (.int .i64 fa) (.int .i64 fb) (.int .i64 f) (.slice ra n rc))
    have cP_N2 : N2.heap[D]? = some (.cells #[.int .u8 t, .int .u8 ft, .int .i8 f, .int .u8 p, .int .u8 w0, .int .u8 w1, .int .u8 w2, .int .u8 w3, .int .u8 w4] 47) := by rw [← hN2]; exact (other6 (show (D) ≠ (EUP) by omega)).trans cP_N1
    have cR_N2 : N2.heap[D2]? = some (.cells #[.string ⟨#[82, 48]⟩, .string tn, .int .i64 fa, .int .i64 fb, .int .i64 f, .slice ra n rc] 26) := by rw [← hN2]; exact (other6 (show (D2) ≠ (EUP) by omega)).trans cR_N1
    have cA_N2 : N2.heap[D3]? = some (.cells #[.string ⟨#[82, 48]⟩, .string tn, .int .i64 fa, .int .i64 fb, .int .i64 (f - m), .slice sa (m + n) ca] 26) := by rw [← hN2]; exact (other6 (show (D3) ≠ (EUP) by omega)).trans cA_N1
    have cB_N2 : N2.heap[D4]? = some (.cells #[.string ⟨#[82, 48]⟩, .string tn, .int .i64 fa, .int .i64 fb, .int .i64 f, .slice sx (n + m) cx] 26) := by rw [← hN2]; exact (other6 (show (D4) ≠ (EUP) by omega)).trans cB_N1
    have cUP_N2 : N2.heap[EUP]? = some (.cells #[.string ⟨#[82, 48]⟩, .string tn, .int .i64 fa, .int .i64 fb, .int .i64 f, .slice ra n rc] 26) := by rw [← hN2]; exact set6_all cUP_N1
    have cDN_N2 : N2.heap[EUP + 1]? = some (.cells #[.string ⟨#[]⟩, .string ⟨#[]⟩, .int .i64 0, .int .i64 0, .int .i64 0, .slice none 0 0] 26) := by rw [← hN2]; exact (other6 (show (EUP + 1) ≠ (EUP) by omega)).trans cDN_N1
    rw [hN2]
    clear cP_N1 cR_N1 cA_N1 cB_N1 cUP_N1 cDN_N1 y10_0 y10_1 y10_2 y10_3 y10_4 y10_5 y11_0 y11_1 y11_2 y11_3 y11_4 y11_5 r0 r1 r2 r3 r4 r5 hw_N1 hN2
    obtain ⟨B, hB⟩ : ∃ B, N2.heap.size = B := ⟨_, rfl⟩
    have ltU : EUP < B := by have := (Array.getElem?_eq_some_iff.1 cUP_N2).1; omega
    have ltD : EUP + 1 < B := by have := (Array.getElem?_eq_some_iff.1 cDN_N2).1; omega
    have W17 : Wd N2 (.slice ra n rc) n X := hR4.out.below (by first | exact hw_N2 | (rw [hD4]; exact hw_N2))
    have A18 : WA N2 (.slice sb m cq) m Y := hX4.out.below (by first | exact hw_N2 | (rw [hD4]; exact hw_N2))
    have HRa := Lib.hid (wa_of W17 (show 0 < n by omega))
    have HXa := Lib.hid A18
    have HE0 := Lib.hid (show (N2.alloc (.cells #[] 3)).ownsRow B 3 1 (.slice (some ⟨B, 0, none⟩) 0 0) 0 [] by have h := own_empty N2 B (Nat.le_of_eq hB.symm); rwa [hB] at h)
    have kP := Lib.hid cP_N2
    have kR := Lib.hid cR_N2
    have kA := Lib.hid cA_N2
    have kB := Lib.hid cB_N2
    have kUP := Lib.hid cUP_N2
    have kDN := Lib.hid cDN_N2
    have hbN := Lib.hid hw_N2
    clear W17 A18
    obtain ⟨EEM, hEEM⟩ : ∃ E, N2.heap.size = E := ⟨_, rfl⟩
    have ld12 : (N2.alloc (.cells #[] 3)).heap[D2]? = some (.cells #[.string ⟨#[82, 48]⟩, .string tn, .int .i64 fa, .int .i64 fb, .int .i64 f, .slice ra n rc] 26) := (heap_old (o := .cells #[] 3) cR_N2)
    have y12_0 := cell6_0 ld12
    have y12_1 := cell6_1 ld12
    have y12_2 := cell6_2 ld12
    have y12_3 := cell6_3 ld12
    have y12_4 := cell6_4 ld12
    have y12_5 := cell6_5 ld12
    clear ld12
    go_upto_region 16 with (at_builtin; first | (refine wpList_append_wa rfl _ _ rfl B _ (.slice ra n rc) 0 n [] X rfl HE0.out rfl (HRa.out.below ((Below.refl _ _).alloc (Nat.le_refl _) _)) (by omega) (by simp; omega) ?_; intro v1 wz1 ho1 hb1; obtain ⟨p1, p2, p3, rfl, ho1⟩ := owns_open (Nat.le_refl _) ho1; rw [Nat.zero_add, List.nil_append] at ho1; have hc1 := ((Below.refl B N2).alloc (Nat.le_of_eq hB.symm) (.cells #[] 3)).trans hb1) | (refine wpList_append_wa rfl _ _ rfl B _ (.slice sb m cq) n m (rowL X n) Y rfl ho1 rfl (HXa.out.below (hB ▸ hc1)) (by omega) (hB ▸ hc1.size) ?_; intro v2 wz2 ho2 hb2; obtain ⟨p4, p5, p6, rfl, ho2⟩ := owns_open (Nat.le_refl _) ho2; have hc2 := hc1.trans hb2; have hUP := (hc2.block EUP ltU).trans kUP.out; obtain ⟨i0, i1, i2, i3, i4, i5⟩ := cell6_at hUP; obtain ⟨r0, r1, r2, r3, r4, r5⟩ := free6_at hUP))
    obtain rfl := own_len ho2
    obtain ⟨N3, hN3⟩ : ∃ W, (wz2.setCell ⟨EUP, 5, none⟩ (.slice p4 (n + m) p6)) = W := ⟨_, rfl⟩
    have hw_N3 : Below D4 v7 N3 := by rw [← hN3]; exact ((hbN.out.trans (hc2.mono (by have := hbN.out.size; omega))).setCell (p := ⟨EUP, 5, none⟩) (by first | (simp; done) | (simp; omega)) (.slice p4 (n + m) p6))
    have cP_N3 : N3.heap[D]? = some (.cells #[.int .u8 t, .int .u8 ft, .int .i8 f, .int .u8 p, .int .u8 w0, .int .u8 w1, .int .u8 w2, .int .u8 w3, .int .u8 w4] 47) := by rw [← hN3]; exact (set_other (show (D) ≠ EUP by omega)).trans ((hc2.block (D) (by omega)).trans kP.out)
    have cR_N3 : N3.heap[D2]? = some (.cells #[.string ⟨#[82, 48]⟩, .string tn, .int .i64 fa, .int .i64 fb, .int .i64 f, .slice ra n rc] 26) := by rw [← hN3]; exact (set_other (show (D2) ≠ EUP by omega)).trans ((hc2.block (D2) (by omega)).trans kR.out)
    have cA_N3 : N3.heap[D3]? = some (.cells #[.string ⟨#[82, 48]⟩, .string tn, .int .i64 fa, .int .i64 fb, .int .i64 (f - m), .slice sa (m + n) ca] 26) := by rw [← hN3]; exact (set_other (show (D3) ≠ EUP by omega)).trans ((hc2.block (D3) (by omega)).trans kA.out)
    have cB_N3 : N3.heap[D4]? = some (.cells #[.string ⟨#[82, 48]⟩, .string tn, .int .i64 fa, .int .i64 fb, .int .i64 f, .slice sx (n + m) cx] 26) := by rw [← hN3]; exact (set_other (show (D4) ≠ EUP by omega)).trans ((hc2.block (D4) (by omega)).trans kB.out)
    have cUP_N3 : N3.heap[EUP]? = some (.cells #[.string ⟨#[82, 48]⟩, .string tn, .int .i64 fa, .int .i64 fb, .int .i64 f, .slice p4 (n + m) p6] 26) := by rw [← hN3]; exact set6_5 hUP
    have cDN_N3 : N3.heap[EUP + 1]? = some (.cells #[.string ⟨#[]⟩, .string ⟨#[]⟩, .int .i64 0, .int .i64 0, .int .i64 0, .slice none 0 0] 26) := by rw [← hN3]; exact (set_other (show (EUP + 1) ≠ EUP by omega)).trans ((hc2.block (EUP + 1) (by omega)).trans kDN.out)
    have hwU3 : Wd N3 (.slice p4 (n + m) p6) (n + m) (fun k => if k < n then X k else Y (k - n)) := by rw [← hN3]; exact wd_of (owns_set ho2 ltU) (fun k hk => rowL_two Y X n m k hk)
    have hnU3 : NewS B (.slice p4 (n + m) p6) := new_of ho2 (Nat.le_refl _)
    rw [hN3]
    clear cP_N2 cR_N2 cA_N2 cB_N2 cUP_N2 cDN_N2 y12_0 y12_1 y12_2 y12_3 y12_4 y12_5 hw_N2 hN3 ho1 ho2 hb1 hb2 hc1 hc2 hUP i0 i1 i2 i3 i4 i5 r0 r1 r2 r3 r4 r5 HRa HXa HE0 hbN kP kR kA kB kUP kDN
    have ld13 : N3.heap[D2]? = some (.cells #[.string ⟨#[82, 48]⟩, .string tn, .int .i64 fa, .int .i64 fb, .int .i64 f, .slice ra n rc] 26) := cR_N3
    have y13_0 := cell6_0 ld13
    have y13_1 := cell6_1 ld13
    have y13_2 := cell6_2 ld13
    have y13_3 := cell6_3 ld13
    have y13_4 := cell6_4 ld13
    have y13_5 := cell6_5 ld13
    clear ld13
    have ld14 : N3.heap[EUP + 1]? = some (.cells #[.string ⟨#[]⟩, .string ⟨#[]⟩, .int .i64 0, .int .i64 0, .int .i64 0, .slice none 0 0] 26) := cDN_N3
    have y14_0 := cell6_0 ld14
    have y14_1 := cell6_1 ld14
    have y14_2 := cell6_2 ld14
    have y14_3 := cell6_3 ld14
    have y14_4 := cell6_4 ld14
    have y14_5 := cell6_5 ld14
    clear ld14
    obtain ⟨r0, r1, r2, r3, r4, r5⟩ := free6_at cDN_N3
    go_upto_region 18 with fail
    obtain ⟨N4, hN4⟩ : ∃ W, ((((((N3.setCell ⟨EUP + 1, 0, none⟩ (.string ⟨#[82, 48]⟩)).setCell ⟨EUP + 1, 1, none⟩ (.string tn)).setCell ⟨EUP + 1, 2, none⟩ (.int .i64 fa)).setCell ⟨EUP + 1, 3, none⟩ (.int .i64 fb)).setCell ⟨EUP + 1, 4, none⟩ (.int .i64 f)).setCell ⟨EUP + 1, 5, none⟩ (.slice ra n rc)) = W := ⟨_, rfl⟩
    have hw_N4 : Below D4 v7 N4 := by rw [← hN4]; exact (below6 hw_N3 (show D4 ≤ EUP + 1 by omega) (.string ⟨#[82, 48]⟩) (.string tn) (.int .i64 fa) (.int .i64 fb) (.int .i64 f) (.slice ra n rc))
    have cP_N4 : N4.heap[D]? = some (.cells #[.int .u8 t, .int .u8 ft, .int .i8 f, .int .u8 p, .int .u8 w0, .int .u8 w1, .int .u8 w2, .int .u8 w3, .int .u8 w4] 47) := by rw [← hN4]; exact (other6 (show (D) ≠ (EUP + 1) by omega)).trans cP_N3
    have cR_N4 : N4.heap[D2]? = some (.cells #[.string ⟨#[82, 48]⟩, .string tn, .int .i64 fa, .int .i64 fb, .int .i64 f, .slice ra n rc] 26) := by rw [← hN4]; exact (other6 (show (D2) ≠ (EUP + 1) by omega)).trans cR_N3
    have cA_N4 : N4.heap[D3]? = some (.cells #[.string ⟨#[82, 48]⟩, .string tn, .int .i64 fa, .int .i64 fb, .int .i64 (f - m), .slice sa (m + n) ca] 26) := by rw [← hN4]; exact (other6 (show (D3) ≠ (EUP + 1) by omega)).trans cA_N3
    have cB_N4 : N4.heap[D4]? = some (.cells #[.string ⟨#[82, 48]⟩, .string tn, .int .i64 fa, .int .i64 fb, .int .i64 f, .slice sx (n + m) cx] 26) := by rw [← hN4]; exact (other6 (show (D4) ≠ (EUP + 1) by omega)).trans cB_N3
    have cUP_N4 : N4.heap[EUP]? = some (.cells #[.string ⟨#[82, 48]⟩, .string tn, .int .i64 fa, .int .i64 fb, .int .i64 f, .slice p4 (n + m) p6] 26) := by rw [← hN4]; exact (other6 (show (EUP) ≠ (EUP + 1) by omega)).trans cUP_N3
    have cDN_N4 : N4.heap[EUP + 1]? = some (.cells #[.string ⟨#[82, 48]⟩, .string tn, .int .i64 fa, .int .i64 fb, .int .i64 f, .slice ra n rc] 26) := by rw [← hN4]; exact set6_all cDN_N3
    have hwU4 : Wd N4 (.slice p4 (n + m) p6) (n + m) (fun k => if k < n then X k else Y (k - n)) := by rw [← hN4]; exact wd_keep hwU3 hnU3 ltD (by simp) (fun i hi hne => other6 hne)
    rw [hN4]
    clear cP_N3 cR_N3 cA_N3 cB_N3 cUP_N3 cDN_N3 y13_0 y13_1 y13_2 y13_3 y13_4 y13_5 y14_0 y14_1 y14_2 y14_3 y14_4 y14_5 r0 r1 r2 r3 r4 r5 hw_N3 hN4
    clear hwU3
    have W19 : Wd N4 (.slice ra n rc) n X := hR4.out.below (by first | exact hw_N4 | (rw [hD4]; exact hw_N4))
    have A20 : WA N4 (.slice sb m cq) m Y := hX4.out.below (by first | exact hw_N4 | (rw [hD4]; exact hw_N4))
    have HRa := Lib.hid (wa_of W19 (show 0 < n by omega))
    have HXa := Lib.hid A20
    clear W19 A20
    have ltRD : D2 < (EUP + 1) := by omega
    have kP := Lib.hid cP_N4
    have kR := Lib.hid cR_N4
    have kA := Lib.hid cA_N4
    have kB := Lib.hid cB_N4
    have kUP := Lib.hid cUP_N4
    have kDN := Lib.hid cDN_N4
    have hEV := (Array.getElem?_eq_some_iff.1 cDN_N4).1
    have HwV := Lib.hid hw_N4
    clear cP_N4 cR_N4 cA_N4 cB_N4 cUP_N4 cDN_N4 hw_N4
    refine wp_region_slots_at rfl rfl (fun base ys => ((((((((((((base.set 75 (ys 0)).set 76 (ys 1)).set 77 (ys 2)).set 78 (ys 3)).set 79 (ys 4)).set 80 (ys 5)).set 81 (ys 6)).set 82 (ys 7)).set 83 (ys 8)).set 84 (ys 9)).set 85 (ys 10)).set 86 (ys 11)).set 87 (ys 13)) (ChI _ 5 jdC (jdI D2 (EUP + 1) m f (.slice ra n rc) (.slice sb m cq)) (jdS N4 (EUP + 1) n m X Y ⟨#[82, 48]⟩ tn fa fb f (.slice ra n rc))) (fun _ => undef) (by kernel_rfl) (ch_start jdC_lt (show Below N4.heap.size N4 _ from (Below.refl _ _).trans ⟨rfl, rfl, rfl, Nat.le_refl _, fun _ _ => rfl⟩)) ?h18
    case h18 =>
      intro FF hFF
      simp only [List.set_cons_succ, List.set_cons_zero] at hFF
      subst hFF
      refine ⟨rfl, ?_, ?_⟩
      refine ⟨?_, ?_⟩
      · refine SlotStep.chP rfl jdC_0 jdS_0 ?_
        intro k ys W hS hd K hK
        go_simp
        have hK2 := hK (.pointer (some ⟨D2, 4, none⟩)) rfl
        simp (config := { decide := true }) only [upd, if_true, if_false] at hK2
        exact hK2
      refine ⟨?_, ?_⟩
      · refine SlotStep.chP rfl jdC_1 jdS_1 ?_
        intro k ys W hS hd K hK
        have dd0 : ys 0 = (.pointer (some ⟨D2, 4, none⟩)) := hd 0 (by kernel_rfl) (by decide)
        have hl := (jd_read (by omega) k ys W hS D2 ltRD).trans kR.out
        have c4 := cell6_4 hl
        clear hl
        go_simp
        have hK2 := hK (.int .i64 f) rfl
        simp (config := { decide := true }) only [upd, if_true, if_false, dd0] at hK2
        exact hK2
      refine ⟨?_, ?_⟩
      · refine SlotStep.chP rfl jdC_2 jdS_2 ?_
        intro k ys W hS hd K hK
        go_simp
        have hK2 := hK (.slice sb m cq) rfl
        simp (config := { decide := true }) only [upd, if_true, if_false] at hK2
        exact hK2
      refine ⟨?_, ?_⟩
      · refine SlotStep.chP rfl jdC_3 jdS_3 ?_
        intro k ys W hS hd K hK
        have dd2 : ys 2 = (.slice sb m cq) := hd 2 (by kernel_rfl) (by decide)
        go_simp
        have hK2 := hK (.int .i64 m) rfl
        simp (config := { decide := true }) only [upd, if_true, if_false, dd2] at hK2
        exact hK2
      refine ⟨?_, ?_⟩
      · refine SlotStep.chP rfl jdC_4 jdS_4 ?_
        intro k ys W hS hd K hK
        have dd1 : ys 1 = (.int .i64 f) := hd 1 (by kernel_rfl) (by decide)
        have dd3 : ys 3 = (.int .i64 m) := hd 3 (by kernel_rfl) (by decide)
        go_simp
        have hK2 := hK (.int .i64 (f - m)) rfl
        simp (config := { decide := true }) only [upd, if_true, if_false, dd1, dd3] at hK2
        exact hK2
      refine ⟨?_, ?_⟩
      · refine SlotStep.chC rfl 0 (by decide) rfl jdC_inj (.inl rfl) (fun _ => trivial) ?_
        intro ys W hS hd K hK
        have hS0 : Below N4.heap.size N4 W := hS
        go_simp
        have hK2 := hK (.slice (some ⟨W.heap.size, 0, none⟩) 0 0) _ ⟨hS0.alloc hS0.size (.cells #[] 3), own_empty W _ hS0.size⟩
        simp (config := { decide := true }) only [upd, if_true, if_false] at hK2
        exact hK2
      refine ⟨?_, ?_⟩
      · refine SlotStep.chP rfl jdC_6 jdS_6 ?_
        intro k ys W hS hd K hK
        go_simp
        have hK2 := hK (.slice sb m cq) rfl
        simp (config := { decide := true }) only [upd, if_true, if_false] at hK2
        exact hK2
      refine ⟨?_, ?_⟩
      · refine SlotStep.chC rfl 1 (by decide) rfl jdC_inj (.inr (by kernel_rfl)) (fun _ => trivial) ?_
        intro ys W hS hd K hK
        obtain ⟨hb, hown⟩ : Below N4.heap.size N4 W ∧ W.ownsRow N4.heap.size 3 1 (ys 5) 0 ([]) := hS
        have dd6 : ys 6 = (.slice sb m cq) := hd 6 (by kernel_rfl) (by decide)
        refine step_append_wa rfl _ _ rfl N4.heap.size (ys 5) (.slice sb m cq) 0 m ([]) Y (by simp [Act.eval]) hown (by simp [Act.eval, dd6]) (HXa.out.below hb) (by omega) hb.size ?_
        intro v' w6 hown' hb6
        have HO := Lib.hid (And.intro (hb.trans hb6) hown')
        clear hown hown' hb6
        go_simp
        have hK2 := hK v' w6 ⟨HO.out.1, by first | exact HO.out.2 | simpa [upd] using HO.out.2⟩
        simp (config := { decide := true }) only [upd, if_true, if_false, dd6] at hK2
        exact hK2
      refine ⟨?_, ?_⟩
      · refine SlotStep.chP rfl jdC_8 jdS_8 ?_
        intro k ys W hS hd K hK
        go_simp
        have hK2 := hK (.pointer (some ⟨D2, 5, none⟩)) rfl
        simp (config := { decide := true }) only [upd, if_true, if_false] at hK2
        exact hK2
      refine ⟨?_, ?_⟩
      · refine SlotStep.chP rfl jdC_9 jdS_9 ?_
        intro k ys W hS hd K hK
        have dd8 : ys 8 = (.pointer (some ⟨D2, 5, none⟩)) := hd 8 (by kernel_rfl) (by decide)
        have hl := (jd_read (by omega) k ys W hS D2 ltRD).trans kR.out
        have c5 := cell6_5 hl
        clear hl
        go_simp
        have hK2 := hK (.slice ra n rc) rfl
        simp (config := { decide := true }) only [upd, if_true, if_false, dd8] at hK2
        exact hK2
      refine ⟨?_, ?_⟩
      · refine SlotStep.chC rfl 2 (by decide) rfl jdC_inj (.inr (by kernel_rfl)) (fun _ => trivial) ?_
        intro ys W hS hd K hK
        obtain ⟨hb, hown⟩ : Below N4.heap.size N4 W ∧ W.ownsRow N4.heap.size 3 1 (ys 7) m (rowL Y m) := hS
        have dd9 : ys 9 = (.slice ra n rc) := hd 9 (by kernel_rfl) (by decide)
        refine step_append_wa rfl _ _ rfl N4.heap.size (ys 7) (.slice ra n rc) m n (rowL Y m) X (by simp [Act.eval]) hown (by simp [Act.eval, dd9]) (HRa.out.below hb) (by omega) hb.size ?_
        intro v' w6 hown' hb6
        have HO := Lib.hid (And.intro (hb.trans hb6) hown')
        clear hown hown' hb6
        go_simp
        have hK2 := hK v' w6 ⟨HO.out.1, by first | exact HO.out.2 | simpa [upd] using HO.out.2⟩
        simp (config := { decide := true }) only [upd, if_true, if_false, dd9] at hK2
        exact hK2
      refine ⟨?_, ?_⟩
      · refine SlotStep.chP rfl jdC_11 jdS_11 ?_
        intro k ys W hS hd K hK
        go_simp
        have hK2 := hK (.pointer (some ⟨(EUP + 1), 4, none⟩)) rfl
        simp (config := { decide := true }) only [upd, if_true, if_false] at hK2
        exact hK2
      refine ⟨?_, ?_⟩
      · refine SlotStep.chC rfl 3 (by decide) rfl jdC_inj (.inr (by kernel_rfl)) (fun _ => trivial) ?_
        intro ys W hS hd K hK
        obtain ⟨hb, hown⟩ : Below N4.heap.size N4 W ∧ W.ownsRow N4.heap.size 3 1 (ys 10) (m + n) (rowL Y m ++ rowL X n) := hS
        have dd4 : ys 4 = .int .i64 (f - m) := hd 4 (by kernel_rfl) (by decide)
        have dd11 : ys 11 = .pointer (some ⟨(EUP + 1), 4, none⟩) := hd 11 (by kernel_rfl) (by decide)
        have hl := (hb.block (EUP + 1) hEV).trans kDN.out
        obtain ⟨i0, i1, i2, i3, i4, i5⟩ := cell6_at hl
        obtain ⟨r0, r1, r2, r3, r4, r5⟩ := free6_at hl
        have HO := Lib.hid (And.intro hb (And.intro hown hl))
        clear hb hown hl
        go_simp
        have hK2 := hK undef _ ⟨⟨(HO.out.1.mono (show (EUP + 1) ≤ N4.heap.size by omega)).setCell (p := ⟨(EUP + 1), 4, none⟩) (Nat.le_refl _) _, fun i hi hne => (set_other hne).trans (HO.out.1.block i hi)⟩, set6_4 HO.out.2.2, owns_set HO.out.2.1 hEV⟩
        simp (config := { decide := true }) only [upd, if_true, if_false, dd4, dd11] at hK2
        exact hK2
      refine ⟨?_, ?_⟩
      · refine SlotStep.chP rfl jdC_13 jdS_13 ?_
        intro k ys W hS hd K hK
        go_simp
        have hK2 := hK (.pointer (some ⟨(EUP + 1), 5, none⟩)) rfl
        simp (config := { decide := true }) only [upd, if_true, if_false] at hK2
        exact hK2
      refine ⟨?_, ?_⟩
      · refine SlotStep.chC rfl 4 (by decide) rfl jdC_inj (.inr (by kernel_rfl)) (fun _ => trivial) ?_
        intro ys W hS hd K hK
        obtain ⟨hb, hl, hown⟩ : Kp N4 (EUP + 1) W ∧ W.heap[(EUP + 1)]? = some (.cells #[.string ⟨#[82, 48]⟩, .string tn, .int .i64 fa, .int .i64 fb, .int .i64 (f - m), .slice ra n rc] 26) ∧ W.ownsRow N4.heap.size 3 1 (ys 10) (m + n) (rowL Y m ++ rowL X n) := hS
        have dd13 : ys 13 = .pointer (some ⟨(EUP + 1), 5, none⟩) := hd 13 (by kernel_rfl) (by decide)
        obtain ⟨sr, sm, cr, dd10, hown2⟩ := owns_open (Nat.le_refl _) hown
        obtain rfl := own_len hown2
        obtain ⟨i0, i1, i2, i3, i4, i5⟩ := cell6_at hl
        obtain ⟨r0, r1, r2, r3, r4, r5⟩ := free6_at hl
        have HO := Lib.hid (And.intro hb (And.intro hown2 hl))
        clear hb hown hown2 hl
        go_simp
        have hK2 := hK undef _ ⟨sr, cr, ⟨HO.out.1.1.setCell (p := ⟨(EUP + 1), 5, none⟩) (Nat.le_refl _) _, fun i hi hne => (set_other hne).trans (HO.out.1.2 i hi hne)⟩, set6_5 HO.out.2.2, owns_set HO.out.2.1 hEV⟩
        simp (config := { decide := true }) only [upd, if_true, if_false, dd10, dd13] at hK2
        exact hK2
      trivial
      · intro L6 ys6 U2 hL6 hI6
        obtain ⟨⟨sr, cr, hkU, cDU, hownU⟩, _⟩ := ch_end jdC_lt hL6 hI6
        generalize ys6 0 = u0 at *
        generalize ys6 1 = u1 at *
        generalize ys6 2 = u2 at *
        generalize ys6 3 = u3 at *
        generalize ys6 4 = u4 at *
        generalize ys6 5 = u5 at *
        generalize ys6 6 = u6 at *
        generalize ys6 7 = u7 at *
        generalize ys6 8 = u8 at *
        generalize ys6 9 = u9 at *
        generalize ys6 10 = u10 at *
        generalize ys6 11 = u11 at *
        generalize ys6 13 = u13 at *
        have hw_U2 : Below D4 v7 U2 := HwV.out.trans (hkU.1.mono (by omega))
        have cPU := (hkU.1.block (D) (by omega)).trans kP.out
        have cRU := (hkU.1.block (D2) (by omega)).trans kR.out
        have cAU := (hkU.1.block (D3) (by omega)).trans kA.out
        have cBU := (hkU.1.block (D4) (by omega)).trans kB.out
        have cUPU := (hkU.1.block (EUP) (by omega)).trans kUP.out
        have hwUU : Wd U2 (.slice p4 (n + m) p6) (n + m) (fun k => if k < n then X k else Y (k - n)) := wd_keep hwU4 hnU3 ltD hkU.1.size hkU.2
        have hDD := Lib.hid (show Wd U2 (.slice sr (m + n) cr) (m + n) (fun k => if k < m then Y k else X (k - m)) from wd_of hownU (fun k hk => rowL_two X Y m n k hk))
        clear hL6 hI6 hkU hownU hwU4 HwV hEV HRa HXa kP kR kA kB kUP kDN
        have hU5 := Lib.hid hwUU
        clear hwUU
        have hX5 := Lib.hid (hX4.out.below (by first | exact hw_U2 | (rw [hD4]; exact hw_U2)))
        clear hX4
        have hR5 := Lib.hid (hR4.out.below (by first | exact hw_U2 | (rw [hD4]; exact hw_U2)))
        clear hR4
        have hA5 := Lib.hid (hA4.out.below (by first | exact hw_U2 | (rw [hD4]; exact hw_U2)))
        clear hA4
        have hB5 := Lib.hid (hB4.out.below (by first | exact hw_U2 | (rw [hD4]; exact hw_U2)))
        clear hB4
        obtain ⟨D5, hD5⟩ : ∃ D, U2.heap.size = D := ⟨_, rfl⟩
        have G2345 : Gi U2 := G234.below (by first | exact hw_U2 | (rw [hD4]; exact hw_U2))
        have HB5 := Lib.hid (hw_U2)
        clear hw_U2
        clear G234
        have ld15 : U2.heap[D3]? = some (.cells #[.string ⟨#[82, 48]⟩, .string tn, .int .i64 fa, .int .i64 fb, .int .i64 (f - m), .slice sa (m + n) ca] 26) := cAU
        have y15_0 := cell6_0 ld15
        have y15_1 := cell6_1 ld15
        have y15_2 := cell6_2 ld15
        have y15_3 := cell6_3 ld15
        have y15_4 := cell6_4 ld15
        have y15_5 := cell6_5 ld15
        clear ld15
        have ld16 : U2.heap[EUP + 1]? = some (.cells #[.string ⟨#[82, 48]⟩, .string tn, .int .i64 fa, .int .i64 fb, .int .i64 (f - m), .slice sr (m + n) cr] 26) := cDU
        have y16_0 := cell6_0 ld16
        have y16_1 := cell6_1 ld16
        have y16_2 := cell6_2 ld16
        have y16_3 := cell6_3 ld16
        have y16_4 := cell6_4 ld16
        have y16_5 := cell6_5 ld16
        clear ld16
        have W21 : Wd U2 (.slice sa (m + n) ca) (m + n) (fun k => if k < m then Y k else X (k - m)) := hA5.out.below (by first | exact (Below.refl _ U2) | (rw [hD5]; exact (Below.refl _ U2)))
        have W22 : Wd U2 (.slice sr (m + n) cr) (m + n) (fun k => if k < m then Y k else X (k - m)) := hDD.out.below (by first | exact (Below.refl _ U2) | (rw [hD5]; exact (Below.refl _ U2)))
        go_wp2_with fail
        refine (SD.out h3 _ _ _ W21 W22).mono ?_
        rintro e v17 ⟨rfl, hb_v17⟩
        have cP_v17 : v17.heap[D]? = some (.cells #[.int .u8 t, .int .u8 ft, .int .i8 f, .int .u8 p, .int .u8 w0, .int .u8 w1, .int .u8 w2, .int .u8 w3, .int .u8 w4] 47) := (hb_v17.block (D) (Array.getElem?_eq_some_iff.1 (show U2.heap[D]? = some (.cells #[.int .u8 t, .int .u8 ft, .int .i8 f, .int .u8 p, .int .u8 w0, .int .u8 w1, .int .u8 w2, .int .u8 w3, .int .u8 w4] 47) from cPU)).1).trans cPU
        have cR_v17 : v17.heap[D2]? = some (.cells #[.string ⟨#[82, 48]⟩, .string tn, .int .i64 fa, .int .i64 fb, .int .i64 f, .slice ra n rc] 26) := (hb_v17.block (D2) (Array.getElem?_eq_some_iff.1 (show U2.heap[D2]? = some (.cells #[.string ⟨#[82, 48]⟩, .string tn, .int .i64 fa, .int .i64 fb, .int .i64 f, .slice ra n rc] 26) from cRU)).1).trans cRU
        have cA_v17 : v17.heap[D3]? = some (.cells #[.string ⟨#[82, 48]⟩, .string tn, .int .i64 fa, .int .i64 fb, .int .i64 (f - m), .slice sa (m + n) ca] 26) := (hb_v17.block (D3) (Array.getElem?_eq_some_iff.1 (show U2.heap[D3]? = some (.cells #[.string ⟨#[82, 48]⟩, .string tn, .int .i64 fa, .int .i64 fb, .int .i64 (f - m), .slice sa (m + n) ca] 26) from cAU)).1).trans cAU
        have cB_v17 : v17.heap[D4]? = some (.cells #[.string ⟨#[82, 48]⟩, .string tn, .int .i64 fa, .int .i64 fb, .int .i64 f, .slice sx (n + m) cx] 26) := (hb_v17.block (D4) (Array.getElem?_eq_some_iff.1 (show U2.heap[D4]? = some (.cells #[.string ⟨#[82, 48]⟩, .string tn, .int .i64 fa, .int .i64 fb, .int .i64 f, .slice sx (n + m) cx] 26) from cBU)).1).trans cBU
        have cUP_v17 : v17.heap[EUP]? = some (.cells #[.string ⟨#[82, 48]⟩, .string tn, .int .i64 fa, .int .i64 fb, .int .i64 f, .slice p4 (n + m) p6] 26) := (hb_v17.block (EUP) (Array.getElem?_eq_some_iff.1 (show U2.heap[EUP]? = some (.cells #[.string ⟨#[82, 48]⟩, .string tn, .int .i64 fa, .int .i64 fb, .int .i64 f, .slice p4 (n + m) p6] 26) from cUPU)).1).trans cUPU
        have cDN_v17 : v17.heap[EUP + 1]? = some (.cells #[.string ⟨#[82, 48]⟩, .string tn, .int .i64 fa, .int .i64 fb, .int .i64 (f - m), .slice sr (m + n) cr] 26) := (hb_v17.block (EUP + 1) (Array.getElem?_eq_some_iff.1 (show U2.heap[EUP + 1]? = some (.cells #[.string ⟨#[82, 48]⟩, .string tn, .int .i64 fa, .int .i64 fb, .int .i64 (f - m), .slice sr (m + n) cr] 26) from cDU)).1).trans cDU
        have hw_v17 : Below D5 U2 v17 := ((Below.refl _ U2)).trans (hb_v17.mono (by first | omega | (simp; omega)))
        clear cPU cRU cAU cBU cUPU cDU hb_v17 y15_0 y15_1 y15_2 y15_3 y15_4 y15_5 y16_0 y16_1 y16_2 y16_3 y16_4 y16_5 W21 W22
        have ld18 : v17.heap[D4]? = some (.cells #[.string ⟨#[82, 48]⟩, .string tn, .int .i64 fa, .int .i64 fb, .int .i64 f, .slice sx (n + m) cx] 26) := cB_v17
        have y18_0 := cell6_0 ld18
        have y18_1 := cell6_1 ld18
        have y18_2 := cell6_2 ld18
        have y18_3 := cell6_3 ld18
        have y18_4 := cell6_4 ld18
        have y18_5 := cell6_5 ld18
        clear ld18
        have ld19 : v17.heap[EUP]? = some (.cells #[.string ⟨#[82, 48]⟩, .string tn, .int .i64 fa, .int .i64 fb, .int .i64 f, .slice p4 (n + m) p6] 26) := cUP_v17
        have y19_0 := cell6_0 ld19
        have y19_1 := cell6_1 ld19
        have y19_2 := cell6_2 ld19
        have y19_3 := cell6_3 ld19
        have y19_4 := cell6_4 ld19
        have y19_5 := cell6_5 ld19
        clear ld19
        have W23 : Wd v17 (.slice sx (n + m) cx) (n + m) (fun k => if k < n then X k else Y (k - n)) := hB5.out.below (by first | exact hw_v17 | (rw [hD5]; exact hw_v17))
        have W24 : Wd v17 (.slice p4 (n + m) p6) (n + m) (fun k => if k < n then X k else Y (k - n)) := hU5.out.below (by first | exact hw_v17 | (rw [hD5]; exact hw_v17))
        go_wp2_with fail
        refine (SU.out h3 _ _ _ W23 W24).mono ?_
        rintro e v20 ⟨rfl, hb_v20⟩
        have hs_v20 := hw_v17.size
        have cP_v20 : v20.heap[D]? = some (.cells #[.int .u8 t, .int .u8 ft, .int .i8 f, .int .u8 p, .int .u8 w0, .int .u8 w1, .int .u8 w2, .int .u8 w3, .int .u8 w4] 47) := (hb_v20.block (D) (Array.getElem?_eq_some_iff.1 (show v17.heap[D]? = some (.cells #[.int .u8 t, .int .u8 ft, .int .i8 f, .int .u8 p, .int .u8 w0, .int .u8 w1, .int .u8 w2, .int .u8 w3, .int .u8 w4] 47) from cP_v17)).1).trans cP_v17
        have cR_v20 : v20.heap[D2]? = some (.cells #[.string ⟨#[82, 48]⟩, .string tn, .int .i64 fa, .int .i64 fb, .int .i64 f, .slice ra n rc] 26) := (hb_v20.block (D2) (Array.getElem?_eq_some_iff.1 (show v17.heap[D2]? = some (.cells #[.string ⟨#[82, 48]⟩, .string tn, .int .i64 fa, .int .i64 fb, .int .i64 f, .slice ra n rc] 26) from cR_v17)).1).trans cR_v17
        have cA_v20 : v20.heap[D3]? = some (.cells #[.string ⟨#[82, 48]⟩, .string tn, .int .i64 fa, .int .i64 fb, .int .i64 (f - m), .slice sa (m + n) ca] 26) := (hb_v20.block (D3) (Array.getElem?_eq_some_iff.1 (show v17.heap[D3]? = some (.cells #[.string ⟨#[82, 48]⟩, .string tn, .int .i64 fa, .int .i64 fb, .int .i64 (f - m), .slice sa (m + n) ca] 26) from cA_v17)).1).trans cA_v17
        have cB_v20 : v20.heap[D4]? = some (.cells #[.string ⟨#[82, 48]⟩, .string tn, .int .i64 fa, .int .i64 fb, .int .i64 f, .slice sx (n + m) cx] 26) := (hb_v20.block (D4) (Array.getElem?_eq_some_iff.1 (show v17.heap[D4]? = some (.cells #[.string ⟨#[82, 48]⟩, .string tn, .int .i64 fa, .int .i64 fb, .int .i64 f, .slice sx (n + m) cx] 26) from cB_v17)).1).trans cB_v17
        have cUP_v20 : v20.heap[EUP]? = some (.cells #[.string ⟨#[82, 48]⟩, .string tn, .int .i64 fa, .int .i64 fb, .int .i64 f, .slice p4 (n + m) p6] 26) := (hb_v20.block (EUP) (Array.getElem?_eq_some_iff.1 (show v17.heap[EUP]? = some (.cells #[.string ⟨#[82, 48]⟩, .string tn, .int .i64 fa, .int .i64 fb, .int .i64 f, .slice p4 (n + m) p6] 26) from cUP_v17)).1).trans cUP_v17
        have cDN_v20 : v20.heap[EUP + 1]? = some (.cells #[.string ⟨#[82, 48]⟩, .string tn, .int .i64 fa, .int .i64 fb, .int .i64 (f - m), .slice sr (m + n) cr] 26) := (hb_v20.block (EUP + 1) (Array.getElem?_eq_some_iff.1 (show v17.heap[EUP + 1]? = some (.cells #[.string ⟨#[82, 48]⟩, .string tn, .int .i64 fa, .int .i64 fb, .int .i64 (f - m), .slice sr (m + n) cr] 26) from cDN_v17)).1).trans cDN_v17
        have hw_v20 : Below D5 U2 v20 := (hw_v17).trans (hb_v20.mono (by first | omega | (simp; omega)))
        clear cP_v17 cR_v17 cA_v17 cB_v17 cUP_v17 cDN_v17 hb_v20 y18_0 y18_1 y18_2 y18_3 y18_4 y18_5 y19_0 y19_1 y19_2 y19_3 y19_4 y19_5 W23 W24 hw_v17 hs_v20
        have HW := Lib.hid (show Below D w (v20) from (HB2.out.trans (((HB3.out.trans (((HB4.out.trans (((HB5.out.trans ((hw_v20).mono (by first | exact HB5.out.size | (have := HB5.out.size; simp only [hD] at *; omega) | (have := HB5.out.size; omega))))).mono (by first | exact HB4.out.size | (have := HB4.out.size; simp only [hD] at *; omega) | (have := HB4.out.size; omega))))).mono (by first | exact HB3.out.size | (have := HB3.out.size; simp only [hD] at *; omega) | (have := HB3.out.size; omega))))).mono (by first | exact HB2.out.size | (have := HB2.out.size; simp only [hD] at *; omega) | (have := HB2.out.size; omega)))))
        go_wp2
        go_ret
        exact ⟨rfl, by first | exact HW.out | (rw [hD]; exact HW.out)⟩
theorem adds_walk (t ft f p w0 w1 w2 w3 w4 : Int) (bt : 0 ≤ t ∧ t ≤ 255) (bft : 0 ≤ ft ∧ ft ≤ 255) (bf : -128 ≤ f ∧ f ≤ 127) (bp : 0 ≤ p ∧ p ≤ 255) (b0 : 0 ≤ w0 ∧ w0 ≤ 255) (b1 : 0 ≤ w1 ∧ w1 ≤ 255) (b2 : 0 ≤ w2 ∧ w2 ≤ 255) (b3 : 0 ≤ w3 ∧ w3 ≤ 255) (b4 : 0 ≤ w4 ∧ w4 ≤ 255) (xv : Value) (m : Nat) (Y : Nat → Int) (w : World) (hv : WA w xv m Y) (G : Gi w) :
    Calls Tryz.prog 8 #[.agg #[.int .u8 t, .int .u8 ft, .int .i8 f, .int .u8 p, .int .u8 w0, .int .u8 w1, .int .u8 w2, .int .u8 w3, .int .u8 w4], xv] w fun e w' => e = .returned (.bool true) ∧ Below w.heap.size w w' := by
  by_cases hm : m ≤ 130
  · exact adds_few t ft f p w0 w1 w2 w3 w4 bt bft bf bp b0 b1 b2 b3 b4 xv m Y hm w hv G
  · exact adds_many t ft f p w0 w1 w2 w3 w4 bt bft bf bp b0 b1 b2 b3 b4 xv m Y (by omega) w hv G

end Go.Proofs.YtbkbncapgljfaaaGreatDoor
