/- The reference's group. -/
import Derived.Test.YtnchodofgaaeeaaGreatDoorImYe
import Derived.Test.YtnchodofgaaeeaaGreatDoorNsSl
import Derived.Deep.AppendLies
namespace Go.Proofs.YtnchodofgaaeeaaGreatDoor
open Go Go.RowKit Go.Shelf

/-- What each operation of 'out, s = append(out, n), s[:len(s)-4]' yields. -/
def grpInv (out x : Value) (s t : ByteArray) (n m : Int) : Nat → Value → Prop := fun j v => match j with
  | 0 => v = out
  | 1 => v = x
  | 4 => v = .string s
  | 5 => v = .string s
  | 6 => v = .int .i64 n
  | 7 => v = .int .i64 m
  | 8 => v = .string t
  | 10 => v = .string t
  | _ => True
structure GrpI (ops : Array Oper) (w : World) (B j : Nat) (out x sv0 : Value) (xs : List Value) (Inv : Nat → Value → Prop) (L : Nat → Bool) (ys : Nat → Value) (W : World) : Prop where
  below : Below B w W
  size : B ≤ W.heap.size
  old : L 3 = false → W.ownsRow B 3 1 out j xs
  new : L 3 = true → W.ownsRow B 3 1 (ys 3) (j + 1) (xs ++ [x])
  box : L 2 = true → L 3 = false → ∃ b, ys 2 = .slice (some ⟨b, 0, none⟩) 1 1 ∧ W.heap[b]? = some (.cells #[x] 3)
  vals : ∀ i, i ≠ 2 → i ≠ 3 → i ≠ 9 → L i = true → Inv i (ys i)
  nine : L 9 = true → ys 9 = ys 3
  u9 : L 9 = false → ys 9 = out
  u10 : L 10 = false → ys 10 = sv0
  clo : ∀ j o, ops[j]? = some o → L j = true → ∀ e ∈ o.after, Region.binds .any e = true → L e.on = true
section
variable {ops : Array Oper} {w : World} {B j : Nat} {out x sv0 : Value} {xs : List Value} {Inv : Nat → Value → Prop} {L : Nat → Bool} {ys : Nat → Value} {W : World}
theorem GrpI.need (h : GrpI ops w B j out x sv0 xs Inv L ys W) (k : Nat) {o : Oper} (ho : ops[k]? = some o) {i : Nat} (hw : waitsB .any o i = true) (hk : L k = true) : L i = true := waits_at (h.clo k o ho hk) hw
theorem GrpI.other (h : GrpI ops w B j out x sv0 xs Inv L ys W) {i : Nat} {o : Oper} (ho : ops[i]? = some o) (ha : ∀ e ∈ o.after, Region.binds .any e = true → L e.on = true) (h2 : i ≠ 2) (h3 : i ≠ 3) (h9 : i ≠ 9) {v : Value} (hv : Inv i v) :
    GrpI ops w B j out x sv0 xs Inv (upd L i true) (upd ys i v) W where
  below := h.below
  size := h.size
  old := by rw [upd_ne _ _ (Ne.symm h3)]; exact h.old
  new := by rw [upd_ne _ _ (Ne.symm h3), upd_ne _ _ (Ne.symm h3)]; exact h.new
  box := by rw [upd_ne _ _ (Ne.symm h3), upd_ne _ _ (Ne.symm h2), upd_ne _ _ (Ne.symm h2)]; exact h.box
  vals := fun k k2 k3 k9 hk => by
    by_cases e : k = i
    · subst e; rw [upd_same]; exact hv
    · rw [upd_ne _ _ e] at hk ⊢; exact h.vals k k2 k3 k9 hk
  nine := by rw [upd_ne _ _ (Ne.symm h3), upd_ne _ _ (Ne.symm h9), upd_ne _ _ (Ne.symm h9)]; exact h.nine
  u9 := by rw [upd_ne _ _ (Ne.symm h9), upd_ne _ _ (Ne.symm h9)]; exact h.u9
  u10 := by
    by_cases e : 10 = i
    · subst e; rw [upd_same]; intro e; cases e
    · rw [upd_ne _ _ e, upd_ne _ _ e]; exact h.u10
  clo := clo_upd ho ha h.clo
theorem GrpI.nineth (h : GrpI ops w B j out x sv0 xs Inv L ys W) {o : Oper} (ho : ops[9]? = some o) (ha : ∀ e ∈ o.after, Region.binds .any e = true → L e.on = true) :
    GrpI ops w B j out x sv0 xs Inv (upd L 9 true) (upd ys 9 (ys 3)) W where
  below := h.below
  size := h.size
  old := by rw [upd_ne _ _ (by decide)]; exact h.old
  new := by rw [upd_ne _ _ (by decide), upd_ne _ _ (by decide)]; exact h.new
  box := by rw [upd_ne _ _ (by decide), upd_ne _ _ (by decide), upd_ne _ _ (by decide)]; exact h.box
  vals := fun k k2 k3 k9 hk => by rw [upd_ne _ _ k9] at hk ⊢; exact h.vals k k2 k3 k9 hk
  nine := fun _ => by rw [upd_same, upd_ne _ _ (by decide)]
  u9 := by rw [upd_same]; intro e; cases e
  u10 := by rw [upd_ne _ _ (by decide), upd_ne _ _ (by decide)]; exact h.u10
  clo := clo_upd ho ha h.clo
theorem GrpI.boxed (h : GrpI ops w B j out x sv0 xs Inv L ys W) {o : Oper} (ho : ops[2]? = some o) (ha : ∀ e ∈ o.after, Region.binds .any e = true → L e.on = true) (hL : L 3 = false) :
    GrpI ops w B j out x sv0 xs Inv (upd L 2 true) (upd ys 2 (.slice (some ⟨W.heap.size, 0, none⟩) 1 1)) (W.alloc (.cells #[x] 3)) where
  below := h.below.alloc h.size _
  size := by have := h.size; simp; omega
  old := fun _ => (h.old hL).alloc _
  new := by rw [upd_ne _ _ (by decide), hL]; intro e; cases e
  box := fun _ _ => ⟨W.heap.size, upd_same _ _ _, heap_at rfl⟩
  vals := fun k k2 k3 k9 hk => by rw [upd_ne _ _ k2] at hk ⊢; exact h.vals k k2 k3 k9 hk
  nine := by rw [upd_ne _ _ (by decide), upd_ne _ _ (by decide), upd_ne _ _ (by decide)]; exact h.nine
  u9 := by rw [upd_ne _ _ (by decide), upd_ne _ _ (by decide)]; exact h.u9
  u10 := by rw [upd_ne _ _ (by decide), upd_ne _ _ (by decide)]; exact h.u10
  clo := clo_upd ho ha h.clo
theorem GrpI.appended {W' : World} (h : GrpI ops w B j out x sv0 xs Inv L ys W) {o : Oper} (ho : ops[3]? = some o) (ha : ∀ e ∈ o.after, Region.binds .any e = true → L e.on = true) (hL : L 3 = false) (hL9 : L 9 = false) {v : Value}
    (hown : W'.ownsRow B 3 1 v (j + 1) (xs ++ [x])) (hg : W.grownBy W' out.ownBlock) :
    GrpI ops w B j out x sv0 xs Inv (upd L 3 true) (upd ys 3 v) W' where
  below := h.below.grown hg h.size (fun g hgv => ((h.old hL).lt g hgv).1)
  size := Nat.le_trans h.size hg.size
  old := by rw [upd_same]; intro e; cases e
  new := fun _ => by rw [upd_same]; exact hown
  box := by rw [upd_same]; intro _ e; cases e
  vals := fun k k2 k3 k9 hk => by rw [upd_ne _ _ k3] at hk ⊢; exact h.vals k k2 k3 k9 hk
  nine := by
    intro e
    rw [upd_ne _ _ (by decide), hL9] at e
    cases e
  u9 := by rw [upd_ne _ _ (by decide), upd_ne _ _ (by decide)]; exact h.u9
  u10 := by rw [upd_ne _ _ (by decide), upd_ne _ _ (by decide)]; exact h.u10
  clo := clo_upd ho ha h.clo
theorem GrpI.start (hn : ops.size = 11) (h1 : Below B w W) (h2 : B ≤ W.heap.size) (h3 : W.ownsRow B 3 1 out j xs) (h9 : ys 9 = out) (h10 : ys 10 = sv0) (HV : ∀ i, 11 ≤ i → Inv i (ys i)) : GrpI ops w B j out x sv0 xs Inv (fun i => decide (ops.size ≤ i)) ys W where
  below := h1
  size := h2
  old := fun _ => h3
  new := fun e => by have := of_decide_eq_true e; omega
  box := fun e => by have := of_decide_eq_true e; omega
  vals := fun i _ _ _ hi => by
    have h4 := of_decide_eq_true hi
    exact HV i (by omega)
  nine := fun e => by have := of_decide_eq_true e; omega
  u9 := fun _ => h9
  u10 := fun _ => h10
  clo := fun j o ho hj => by
    have h4 := (Array.getElem?_eq_some_iff.1 ho).1
    have h5 := of_decide_eq_true hj
    omega
end
theorem own_below {W W' : World} {B k : Nat} {e : TypeId} {v : Value} {xs : List Value} (h : W.ownsRow B e 1 v k xs) (hb : Below W.heap.size W W') : W'.ownsRow B e 1 v k xs := by
  refine ⟨h.1, h.2.imp id ?_⟩
  rintro ⟨g, cap, cur, rfl, h1, h2, h3⟩
  exact ⟨g, cap, cur, rfl, h1, (hb.block g (Array.getElem?_eq_some_iff.1 h2).1).trans h2, h3⟩

theorem take_block {s : ByteArray} {c : Nat} (hc : c + 4 ≤ s.size) (ha : s.data.toList.all Im.isD = true) :
    Im.valL (s.extract (s.size - c - 4) (s.size - c)).data.toList = Im.valL s.data.toList / 10 ^ c % 10 ^ 4 := by
  rw [extract_list, ← size_list]
  exact Im.val_block ha (by rw [size_list]; exact hc)

set_option maxRecDepth 100000 in
set_option maxHeartbeats 4000000 in
theorem group_any (s : ByteArray) (hs : s.size ≤ 100000) (h1 : 1 ≤ s.size) (ha : s.data.toList.all Im.isD = true) (w : World) :
    Calls Tryz.prog 69 #[.string s] w fun e w' => (∃ v, e = .returned v ∧ RMag w' v (Im.valL s.data.toList)) ∧ Below w.heap.size w w' := by
  obtain ⟨i0, hi0, hz0, hz1, hz2⟩ := info_parts info_int
  have A := Lib.hid (fun (t : ByteArray) (h1 : 1 ≤ t.size) (h2 : t.size ≤ 18) (h3 : t.data.toList.all Im.isD = true) W => Tryz.strconv_Atoi_ok t (by omega) (Im.valL t.data.toList : Int) (atoi_digits (by intro e; have := size_list t; rw [e] at this; simp at this; omega) h3 h2) W)
  obtain ⟨X, hX⟩ : ∃ X, Im.valL s.data.toList = X := ⟨_, rfl⟩
  have hblk : ∀ j, 4 * j + 4 ≤ s.size → Im.valL (s.extract (s.size - 4 * j - 4) (s.size - 4 * j)).data.toList = rdg X j := fun j hj => by
    rw [take_block hj ha, hX]
    unfold rdg Im.dg
    rw [Nat.pow_mul]; rfl
  have htop : ∀ j, 4 * j < s.size → s.size ≤ 4 * j + 4 → Im.valL (s.extract 0 (s.size - 4 * j)).data.toList = rdg X j ∧ X < RB ^ (j + 1) := fun j h2 h3 => by
    have hlt := Im.val_lt ha
    rw [size_list, hX] at hlt
    have hp : (10 : Nat) ^ s.size ≤ RB ^ (j + 1) := by
      rw [show RB = 10 ^ 4 from rfl, ← Nat.pow_mul]
      exact Nat.pow_le_pow_right (by decide) (by omega)
    have hfit : X < RB ^ (j + 1) := Nat.lt_of_lt_of_le hlt hp
    refine ⟨?_, hfit⟩
    rw [extract_list, List.drop_zero]
    have := Im.val_take ha (k := 4 * j) (by rw [size_list]; omega)
    rw [size_list, hX] at this
    rw [this]
    unfold rdg Im.dg
    rw [Nat.pow_mul, show (10 : Nat) ^ 4 = RB from rfl, Nat.mod_eq_of_lt]
    rw [Nat.div_lt_iff_lt_mul (rb_pos j), Nat.mul_comm, ← Nat.pow_succ]
    exact hfit
  have hall : ∀ i j, (s.extract i j).data.toList.all Im.isD = true := fun i j => by
    rw [extract_list]; exact Im.all_drop (Im.all_take ha _) _
  have hext : ∀ i j, j ≤ s.size → (s.extract i j).size = j - i := fun i j hj => by rw [← size_list, extract_list, List.length_drop, List.length_take, size_list]; omega
  have hee : ∀ i j k, j ≤ k → k ≤ s.size → (s.extract 0 k).extract i j = s.extract i j := fun i j k h2 h3 => by
    apply ext_bytes
    rw [extract_list, extract_list, extract_list, List.drop_zero, List.take_take, Nat.min_eq_left h2]
  rw [hX]
  have HBLK := Lib.hid hblk
  have HTOP := Lib.hid htop
  have HALL := Lib.hid hall
  have HEXT := Lib.hid hext
  have HEE := Lib.hid hee
  have SH := Lib.hid (fun sa n cap b o W h hn => short_any sa n cap b o X W h hn)
  have hs0 : s = s.extract 0 s.size := by
    apply ext_bytes
    rw [extract_list, ← size_list, List.take_length, List.drop_zero]
  have HS0 := Lib.hid hs0
  clear hX hblk htop hall hext hee ha hs0
  obtain ⟨D, hD⟩ : ∃ D, w.heap.size = D := ⟨_, rfl⟩
  go_enter Tryz.func69, Tryz.ntmps69
  go_wp2_with fail
  go_loopw [0, 3] (fun d v wr => ∃ j : Nat, 4 * j < s.size ∧ d = .string (s.extract 0 (s.size - 4 * j)) ∧ wr.ownsRow D 3 1 v j (rpcs X j) ∧ Below D w wr) (fun d _ _ => match d with | .string y => y.size | _ => 0)
  case atStart => exact ⟨0, by omega, by rw [Nat.mul_zero, Nat.sub_zero, ← HS0.out], World.ownsRow_nil _ _ _ _, Below.refl _ _⟩
  case round =>
    obtain ⟨j, hj, rfl, hrow, hw⟩ := hrel
    have hsz := hw.size
    rw [hD] at hsz
    have hq := HEXT.out 0 (s.size - 4 * j) (by omega)
    obtain ⟨q, hqq⟩ : ∃ q, s.size - 4 * j = q := ⟨_, rfl⟩
    have D3 := rpcs_succ X j
    have hr0 := rdg_lt X j
    by_cases h2 : 4 * j + 4 < s.size
    · have hb := HBLK.out j (by omega)
      have hxx := HEE.out (q - 4) q q (by omega) (by omega)
      have hyy := HEE.out 0 (q - 4) q (by omega) (by omega)
      have hal := HALL.out (q - 4) q
      have hxs := HEXT.out (q - 4) q (by omega)
      rw [hqq] at hq hb ⊢
      rw [Nat.sub_zero] at hq
      have AA := Lib.hid (fun W => A.out (s.extract (q - 4) q) (by omega) (by omega) hal W)
      rw [hb] at AA
      obtain ⟨S, hS⟩ : ∃ S, s.extract 0 q = S := ⟨_, rfl⟩
      obtain ⟨S1, hS1⟩ : ∃ S1, s.extract (q - 4) q = S1 := ⟨_, rfl⟩
      obtain ⟨S2, hS2⟩ : ∃ S2, s.extract 0 (q - 4) = S2 := ⟨_, rfl⟩
      rw [hS] at hq hxx hyy ⊢
      rw [hS1] at AA hxx
      rw [hS2] at hyy
      have hS2' := Lib.hid hS2
      have HQ := Lib.hid hqq
      have hqi : (4 : Int) < (q : Int) := by omega
      obtain ⟨q4, hq4⟩ : ∃ q4 : Nat, q - 4 = q4 := ⟨_, rfl⟩
      have hq4i : (q : Int) - 4 = (q4 : Int) := by omega
      rw [hq4] at hxx hyy
      have hq5 : q4 ≤ q := by omega
      obtain ⟨r, hr⟩ : ∃ r, rdg X j = r := ⟨_, rfl⟩
      rw [hr] at AA D3 hr0
      have HD3 := Lib.hid D3
      clear hb hal hxs hS hS1 hS2 hr D3
      go_upto_region 4 with (first | (go_at_call 49; with_reducible refine (AA.out _).mono ?_; rintro e w2 ⟨rfl, hw2⟩))
      have hbw2 : Below wr.heap.size wr w2 := by
        rcases hw2 with rfl | ⟨t, rfl⟩
        · exact Below.refl _ _
        · exact Lib.bytesWorld_below _ _ _
      have hrow2 := own_below hrow hbw2
      have hww2 : Below D w w2 := hw.trans (hbw2.mono hsz)
      have hsz2 : D ≤ w2.heap.size := Nat.le_trans hsz hbw2.size
      have HROW2 := Lib.hid hrow2
      have HWW2 := Lib.hid hww2
      have hwr : IntKind.i64.wrap (q4 : Int) = (q4 : Int) := by rw [IntKind.wrap_i64]; omega
      clear hw2 hbw2 hrow hw hrow2 hww2 hsz
      refine wp_region_slots_at rfl rfl (fun base ys => ((((((((((base.set 20 (ys 0)).set 21 (ys 1)).set 22 (ys 2)).set 23 (ys 3)).set 24 (ys 4)).set 25 (ys 5)).set 26 (ys 6)).set 27 (ys 7)).set 28 (ys 8)).set 3 (ys 9)).set 0 (ys 10)) (GrpI _ w D j u3 (.int .i64 (r : Nat)) (.string S) (rpcs X j) (grpInv u3 (.int .i64 (r : Nat)) S S2 (q : Nat) (q4 : Nat))) (fun j => match j with | 0 => u20 | 1 => u21 | 2 => u22 | 3 => u23 | 4 => u24 | 5 => u25 | 6 => u26 | 7 => u27 | 8 => u28 | 9 => u3 | 10 => .string S | _ => undef) (by kernel_rfl) (GrpI.start rfl (HWW2.out.trans (Below.refl _ _).drew) hsz2 HROW2.out rfl rfl (fun i hi => by obtain ⟨k, rfl⟩ : ∃ k, i = k + 11 := ⟨i - 11, by omega⟩; trivial)) ?h
      case h =>
        intro F hF
        simp only [List.set_cons_succ, List.set_cons_zero] at hF
        subst hF
        refine ⟨rfl, ?_, ?_⟩
        refine ⟨?_, ?_⟩
        · intro L ys W hn hd hI K hK
          have l9 : L 9 = false := by
            cases h9 : L 9 with
            | false => rfl
            | true => rw [hI.need 3 rfl (by kernel_rfl) (hI.need 9 rfl (by kernel_rfl) h9)] at hn; cases hn
          have s9 := hI.u9 l9
          go_simp
          have hK2 := hK _ _ (hI.other (i := 0) (v := u3) rfl hd (by decide) (by decide) (by decide) rfl)
          simp (config := { decide := true }) only [upd, if_false, if_true, s9] at hK2
          exact hK2
        refine ⟨?_, ?_⟩
        · intro L ys W hn hd hI K hK
          go_simp
          have hK2 := hK _ _ (hI.other (i := 1) (v := .int .i64 (r : Nat)) rfl hd (by decide) (by decide) (by decide) rfl)
          simp (config := { decide := true }) only [upd, if_false, if_true] at hK2
          exact hK2
        refine ⟨?_, ?_⟩
        · intro L ys W hn hd hI K hK
          have d1 : ys 1 = .int .i64 (r : Nat) := hI.vals 1 (by decide) (by decide) (by decide) (waits_at hd (by kernel_rfl))
          have l3 : L 3 = false := by
            cases h9 : L 3 with
            | false => rfl
            | true => rw [hI.need 3 rfl (by kernel_rfl) h9] at hn; cases hn
          go_simp
          have hK2 := hK _ _ (hI.boxed rfl hd l3)
          simp (config := { decide := true }) only [upd, if_false, if_true, d1] at hK2
          exact hK2
        refine ⟨?_, ?_⟩
        · intro L ys W hn hd hI K hK
          have d0 : ys 0 = u3 := hI.vals 0 (by decide) (by decide) (by decide) (waits_at hd (by kernel_rfl))
          have l9 : L 9 = false := by
            cases h9 : L 9 with
            | false => rfl
            | true => rw [hI.need 9 rfl (by kernel_rfl) h9] at hn; cases hn
          obtain ⟨b, hb, hbc⟩ := hI.box (waits_at hd (by kernel_rfl)) hn
          refine step_append_lies W rfl (.tmp 20) (.tmp 22) 89 rfl D 3 i0 (.int .i64 0) 1 8 Tryz.underlying89 hi0 hz0 hz1 hz2 rfl (by decide) u3 j (rpcs X j) (by simp [Act.eval, d0]) (hI.old hn) ⟨b, 0, none⟩ 1 1 [.int .i64 (r : Nat)] (by simp [Act.eval, hb]) rfl (World.news_of_block hbc) (by simp [Value.oneCell']) (by decide) (by unfold maxLen; omega) (by omega) hI.size W.heap.size rfl ?_
          intro g cap w' hown hgrow _ _
          have hK2 := hK _ _ (hI.appended rfl hd hn l9 hown hgrow)
          simp (config := { decide := true }) only [upd, if_false, if_true] at hK2
          exact hK2
        refine ⟨?_, ?_⟩
        · intro L ys W hn hd hI K hK
          have l10 : L 10 = false := by
            cases h9 : L 10 with
            | false => rfl
            | true => rw [hI.need 8 rfl (by kernel_rfl) (hI.need 10 rfl (by kernel_rfl) h9)] at hn; cases hn
          have s10 := hI.u10 l10
          go_simp
          have hK2 := hK _ _ (hI.other (i := 4) (v := .string S) rfl hd (by decide) (by decide) (by decide) rfl)
          simp (config := { decide := true }) only [upd, if_false, if_true, s10] at hK2
          exact hK2
        refine ⟨?_, ?_⟩
        · intro L ys W hn hd hI K hK
          have l10 : L 10 = false := by
            cases h9 : L 10 with
            | false => rfl
            | true => rw [hI.need 6 rfl (by kernel_rfl) (hI.need 7 rfl (by kernel_rfl) (hI.need 8 rfl (by kernel_rfl) (hI.need 10 rfl (by kernel_rfl) h9)))] at hn; cases hn
          have s10 := hI.u10 l10
          go_simp
          have hK2 := hK _ _ (hI.other (i := 5) (v := .string S) rfl hd (by decide) (by decide) (by decide) rfl)
          simp (config := { decide := true }) only [upd, if_false, if_true, s10] at hK2
          exact hK2
        refine ⟨?_, ?_⟩
        · intro L ys W hn hd hI K hK
          have d5 : ys 5 = .string S := hI.vals 5 (by decide) (by decide) (by decide) (waits_at hd (by kernel_rfl))
          go_simp
          have hK2 := hK _ _ (hI.other (i := 6) (v := .int .i64 (q : Nat)) rfl hd (by decide) (by decide) (by decide) rfl)
          simp (config := { decide := true }) only [upd, if_false, if_true, d5] at hK2
          exact hK2
        refine ⟨?_, ?_⟩
        · intro L ys W hn hd hI K hK
          have d6 : ys 6 = .int .i64 (q : Nat) := hI.vals 6 (by decide) (by decide) (by decide) (waits_at hd (by kernel_rfl))
          go_simp
          have hK2 := hK _ _ (hI.other (i := 7) (v := .int .i64 (q4 : Nat)) rfl hd (by decide) (by decide) (by decide) rfl)
          simp (config := { decide := true }) only [upd, if_false, if_true, d6] at hK2
          exact hK2
        refine ⟨?_, ?_⟩
        · intro L ys W hn hd hI K hK
          have d4 : ys 4 = .string S := hI.vals 4 (by decide) (by decide) (by decide) (waits_at hd (by kernel_rfl))
          have d7 : ys 7 = .int .i64 (q4 : Nat) := hI.vals 7 (by decide) (by decide) (by decide) (waits_at hd (by kernel_rfl))
          go_simp
          have hK2 := hK _ _ (hI.other (i := 8) (v := .string S2) rfl hd (by decide) (by decide) (by decide) rfl)
          simp (config := { decide := true }) only [upd, if_false, if_true, d4, d7] at hK2
          exact hK2
        refine ⟨?_, ?_⟩
        · intro L ys W hn hd hI K hK
          go_simp
          have hK2 := hK _ _ (hI.nineth rfl hd)
          simp (config := { decide := true }) only [upd, if_false, if_true] at hK2
          exact hK2
        refine ⟨?_, ?_⟩
        · intro L ys W hn hd hI K hK
          have d8 : ys 8 = .string S2 := hI.vals 8 (by decide) (by decide) (by decide) (waits_at hd (by kernel_rfl))
          go_simp
          have hK2 := hK _ _ (hI.other (i := 10) (v := .string S2) rfl hd (by decide) (by decide) (by decide) rfl)
          simp (config := { decide := true }) only [upd, if_false, if_true, d8] at hK2
          exact hK2
        trivial
        intro L2 ys W hL2 hI
        have e3 := hI.new (hL2 3 (by decide))
        have e9 := hI.nine (hL2 9 (by decide))
        have e10 : ys 10 = .string S2 := hI.vals 10 (by decide) (by decide) (by decide) (hL2 10 (by decide))
        have eb := hI.below
        rw [← HD3.out, ← e9] at e3
        have E3 := Lib.hid e3
        have EB := Lib.hid eb
        simp only [e10]
        clear e3 e9 e10 eb hI hL2
        generalize ys 0 = y0 at *
        generalize ys 1 = y1 at *
        generalize ys 2 = y2 at *
        generalize ys 3 = y3 at *
        generalize ys 4 = y4 at *
        generalize ys 5 = y5 at *
        generalize ys 6 = y6 at *
        generalize ys 7 = y7 at *
        generalize ys 8 = y8 at *
        generalize ys 9 = y9 at *
        trace_state
        go_wp2
        go_roundw
        case rel => exact ⟨j + 1, by omega, by rw [← hS2'.out]; congr 2; omega, E3.out, EB.out⟩
        case measure => rw [← hS2'.out]; have := HEXT.out 0 (q - 4) (by omega); simp [this]; omega
    · have hjt := HTOP.out j hj (by omega)
      have hal := HALL.out 0 (s.size - 4 * j)
      rw [hqq] at hq hal hjt ⊢
      rw [Nat.sub_zero] at hq
      obtain ⟨ht1, ht2⟩ := hjt
      have AA := Lib.hid (fun W => A.out (s.extract 0 q) (by omega) (by omega) hal W)
      rw [ht1] at AA
      obtain ⟨S, hS⟩ : ∃ S, s.extract 0 q = S := ⟨_, rfl⟩
      rw [hS] at hq AA ⊢
      have hqi : ¬ (4 : Int) < (q : Int) := by omega
      obtain ⟨r, hr⟩ : ∃ r, rdg X j = r := ⟨_, rfl⟩
      rw [hr] at AA D3 hr0
      have HD3 := Lib.hid D3
      have HT2 := Lib.hid ht2
      have HROW := Lib.hid hrow
      have HW := Lib.hid hw
      clear hal ht1 ht2 hS hr D3 hrow hw
      go_upto_region 6 with (first | (go_at_call 49; with_reducible refine (AA.out _).mono ?_; rintro e w2 ⟨rfl, hw2⟩))
      have hbw2 : Below wr.heap.size wr w2 := by
        rcases hw2 with rfl | ⟨t, rfl⟩
        · exact Below.refl _ _
        · exact Lib.bytesWorld_below _ _ _
      have hrow2 := own_below HROW.out hbw2
      have hww2 : Below D w w2 := HW.out.trans (hbw2.mono hsz)
      have hsz2 : D ≤ w2.heap.size := Nat.le_trans hsz hbw2.size
      clear hw2
      go_wp2_with (at_builtin; refine wpList_append_own _ rfl _ _ 89 rfl D 3 i0 (.int .i64 0) 1 8 Tryz.underlying89 hi0 hz0 hz1 hz2 rfl (by decide) _ _ _ rfl (hrow2.alloc _) ⟨w2.heap.size, 0, none⟩ 1 1 [.int .i64 (r : Nat)] rfl rfl (cell_one_new _ _ _) (by simp [Value.oneCell']) (by unfold maxLen; omega) (by omega) (by simp; omega) ?_; intro v' w6 hown' hgrow _)
      have hb6 := grown_below hsz2 hrow2 hgrow
      have hown6 : w6.ownsRow D 3 1 v' (j + 1) (rpcs X (j + 1)) := by rw [HD3.out]; simpa using hown'
      obtain ⟨sa, cap, b, rfl, hR, _⟩ := rrow_of hown6 HT2.out
      have hSH := Lib.hid (SH.out sa (j + 1) cap b 0 w6 hR (by omega))
      have hRt := Lib.hid hR.trim
      have HFIN := Lib.hid (hww2.trans hb6)
      clear hR hown6 hown' hgrow hb6 hrow2
      go_wp2_with fail
      refine hSH.out.mono ?_
      rintro e w7 ⟨rfl, hww⟩
      subst w7
      go_wp2
      go_ret
      exact ⟨⟨_, rfl, sa, cap, b, 0, rfl, hRt.out⟩, by rw [hD]; exact HFIN.out⟩
end Go.Proofs.YtnchodofgaaeeaaGreatDoor
