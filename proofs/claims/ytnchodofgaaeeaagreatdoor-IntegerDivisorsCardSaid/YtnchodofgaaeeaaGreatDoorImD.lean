/- Magnitudes in memory: rows of pieces; pieceOf and trimmed. -/
import Derived.Test.YtnchodofgaaeeaaGreatDoorImC
import Derived.Maps.AppendAt
namespace Go.Proofs.YtnchodofgaaeeaaGreatDoor
open Go Go.RowKit Go.Shelf

/-- a block of two cells, with what they hold; it may be written -/
structure Two (w : World) (b : Nat) (x y : Value) : Prop where
  fst : w.cell? ⟨b, 0, none⟩ = some x
  snd : w.cell? ⟨b, 1, none⟩ = some y
  lt : b < w.heap.size
  free : ∀ o, w.frozen? ⟨b, o, none⟩ = false
theorem Two.new (w : World) (x y : Value) (T : TypeId) : Two (w.alloc (.cells #[x, y] T)) w.heap.size x y := ⟨by simp, by simp, by simp, fun _ => by simp⟩
theorem Two.below {w w1 : World} {b : Nat} {x y : Value} (h : Two w b x y) (hb : Below w.heap.size w w1) : Two w1 b x y :=
  ⟨(hb.cell (p := ⟨b, 0, none⟩) h.lt).trans h.fst, (hb.cell (p := ⟨b, 1, none⟩) h.lt).trans h.snd, Nat.lt_of_lt_of_le h.lt hb.size, fun o => (hb.frozen (p := ⟨b, o, none⟩) h.lt).trans (h.free o)⟩
theorem Two.alloc {w : World} {b : Nat} {x y : Value} (h : Two w b x y) (o : Obj) : Two (w.alloc o) b x y :=
  h.below ((Below.refl _ _).alloc (Nat.le_refl _) o)

/-- a contract that draws some answers, met behind earlier draws -/
theorem quiet_more {P : Program} {f : FuncId} {xs : Array Value} {W : World} {i j : Nat} {v : Value}
    (h : Calls P f xs (W.drewN (i + j)) fun e w' => e = .returned v ∧ ∃ m, w' = (W.drewN (i + j)).drewN m) :
    Calls P f xs (W.drewN (i + j)) fun e w' => e = .returned v ∧ ∃ m, w' = W.drewN (i + m) := by
  refine h.mono fun e w' hh => ⟨hh.1, ?_⟩
  obtain ⟨m, hm⟩ := hh.2
  exact ⟨j + m, by rw [hm, World.drewN_drewN, Nat.add_assoc]⟩
/-- a contract that leaves the world as it was, met behind earlier draws -/
theorem still_more {P : Program} {f : FuncId} {xs : Array Value} {W : World} {i j : Nat} {v : Value}
    (h : Calls P f xs (W.drewN (i + j)) fun e w' => e = .returned v ∧ W.drewN (i + j) = w') :
    Calls P f xs (W.drewN (i + j)) fun e w' => e = .returned v ∧ ∃ m, w' = W.drewN (i + m) :=
  h.mono fun _ _ hh => ⟨hh.1, j, hh.2.symm⟩
/-- the same, met at the first draws -/
theorem still_here {P : Program} {f : FuncId} {xs : Array Value} {W : World} {j : Nat} {v : Value}
    (h : Calls P f xs (W.drewN j) fun e w' => e = .returned v ∧ W.drewN j = w') :
    Calls P f xs (W.drewN j) fun e w' => e = .returned v ∧ ∃ m, w' = W.drewN m :=
  h.mono fun _ _ hh => ⟨hh.1, j, hh.2.symm⟩

/-- The base of the pieces. -/
def BB : Nat := 1000000000
theorem bb2 : 2 ≤ BB := by unfold BB; omega
def nd (x : Nat) : Nat := Im.nd BB x
def dg (x k : Nat) : Nat := Im.dg BB x k
theorem dg_lt (x k : Nat) : dg x k < 1000000000 := Im.dg_lt bb2 x k
theorem nd_zero : nd 0 = 0 := Im.nd_zero
theorem nd_pos_iff {x : Nat} : nd x = 0 ↔ x = 0 := ⟨Im.nd_eq_zero bb2, fun h => by subst h; exact Im.nd_zero⟩

/-- A row of n pieces of x, at a slice. -/
structure Row (W : World) (sa : Option Addr) (n cap b o x : Nat) : Prop where
  cap : n ≤ cap
  at_ : 0 < n → sa = some ⟨b, o, none⟩
  lt : 0 < n → b < W.heap.size
  cell : ∀ k, k < n → W.cell? ⟨b, o + k, none⟩ = some (.int .u64 (dg x k : Nat))
  fits : x < BB ^ n

theorem Row.below {W W' : World} {B : Nat} {sa : Option Addr} {n cap b o x : Nat} (h : Row W sa n cap b o x) (hb : Below B W W') (hB : W.heap.size ≤ B) : Row W' sa n cap b o x :=
  ⟨h.cap, h.at_, fun p => Nat.lt_of_lt_of_le (h.lt p) hb.size, fun k hk => (hb.cell (p := ⟨b, o + k, none⟩) (Nat.lt_of_lt_of_le (h.lt (by omega)) hB)).trans (h.cell k hk), h.fits⟩
theorem Row.set {W : World} {sa : Option Addr} {n cap b o x : Nat} (h : Row W sa n cap b o x) (p : Addr) (hp : 0 < n → b ≠ p.block) (v : Value) : Row (W.setCell p v) sa n cap b o x :=
  ⟨h.cap, h.at_, fun q => by have := h.lt q; simpa [World.setCell] using this, fun k hk => (World.cell?_setCell_other _ _ _ _ (fun e => hp (by omega) (by have := congrArg Addr.block e; simpa using this.symm))).trans (h.cell k hk), h.fits⟩
theorem Row.trim {W : World} {sa : Option Addr} {n cap b o x : Nat} (h : Row W sa n cap b o x) : Row W sa (nd x) cap b o x := by
  have hn : nd x ≤ n := Im.nd_le bb2 h.fits
  exact ⟨Nat.le_trans hn h.cap, fun p => h.at_ (by omega), fun p => h.lt (by omega), fun k hk => h.cell k (by omega), Im.lt_pow_nd bb2 x⟩

set_option maxHeartbeats 1000000 in
theorem pieceOf_any (s : ByteArray) (hs : s.size ≤ 9) (ha : s.data.toList.all Im.isD = true) (w : World) :
    Calls Tryz.prog 96 #[.string s] w fun e w' => e = .returned (.int .u64 (Im.valL s.data.toList : Nat)) ∧ w' = w := by
  have hsl := size_list s
  have HSL := Lib.hid hsl
  have HA := Lib.hid ha
  clear ha hsl
  go_enter Tryz.func96, Tryz.ntmps96
  go_wp2_with fail
  go_loop [3, 7] (fun n i => ∃ k : Nat, k ≤ s.size ∧ i = .int .i64 (k : Int) ∧ n = .int .u64 (Im.valL (s.data.toList.take k) : Nat)) (fun _ i => s.size - (intOf i).toNat)
  case atStart => exact ⟨0, Nat.zero_le _, rfl, rfl⟩
  case round =>
    obtain ⟨k, hk, rfl, rfl⟩ := hrel
    by_cases h1 : k < s.size
    · have hkl : k < s.data.toList.length := by rw [HSL.out]; exact h1
      have hd : Im.isD s[k] = true := by rw [← getElem_list s k h1 hkl]; exact List.all_eq_true.1 HA.out _ (List.getElem_mem hkl)
      obtain ⟨d1, d2⟩ := Im.isD_iff.1 hd
      have hn : Im.valL (s.data.toList.take (k + 1)) = 10 * Im.valL (s.data.toList.take k) + (s[k].toNat - 48) := by
        rw [List.take_succ_eq_append_getElem hkl, Im.val_snoc, getElem_list s k h1 hkl]
      have HN := Lib.hid hn
      have hle := Im.val_lt (Im.all_take HA.out k)
      have hp : 10 ^ (s.data.toList.take k).length ≤ 10 ^ 9 := Nat.pow_le_pow_right (by decide) (by rw [List.length_take]; omega)
      have hle2 : Im.valL (s.data.toList.take k) < 1000000000 := by omega
      clear hn hd hle hp
      generalize Im.valL (s.data.toList.take k) = v at *
      go_wp2
      go_round
      case rel => exact ⟨k + 1, by omega, by go_num, by rw [HN.out]; congr 1; omega⟩
      case measure => simp [intOf]; omega
    · obtain rfl : k = s.size := by omega
      go_wp2
      go_ret
      exact ⟨ret_int (by rw [List.take_of_length_le (by rw [HSL.out]; exact Nat.le_refl _)]), rfl⟩

set_option maxHeartbeats 1000000 in
theorem trimmed_any (sa : Option Addr) (n cap b o x : Nat) (w : World) (h : Row w sa n cap b o x) (hn : n ≤ 1048576) :
    Calls Tryz.prog 97 #[.slice sa n cap] w fun e w' => e = .returned (.slice sa (nd x) cap) ∧ w' = w := by
  have H := Lib.hid h
  have hcap := h.cap
  clear h
  go_enter Tryz.func97, Tryz.ntmps97
  go_wp2_with fail
  go_loop [0] (fun v => ∃ m : Nat, m ≤ n ∧ v = .slice sa m cap ∧ x < BB ^ m) (fun v => match v with | .slice _ m _ => m | _ => 0)
  case atStart => exact ⟨n, Nat.le_refl _, rfl, H.out.fits⟩
  case round =>
    obtain ⟨m, hm, rfl, hx⟩ := hrel
    have HX := Lib.hid hx
    clear hx
    cases m with
    | zero =>
      have hx0 : nd x = 0 := nd_pos_iff.2 (by have := HX.out; simp at this; omega)
      go_wp2
      go_ret
      exact ⟨rfl, rfl⟩
    | succ m =>
      have hc := H.out.cell m (by omega)
      obtain rfl := H.out.at_ (by omega)
      have hl := dg_lt x m
      have hd1 : dg x m ≠ 0 → nd x = m + 1 := fun h0 => Im.nd_of_dg bb2 HX.out h0
      have hd0 : dg x m = 0 → x < BB ^ m := fun h0 => Im.lt_of_dg bb2 HX.out h0
      have HD1 := Lib.hid hd1
      have HD0 := Lib.hid hd0
      clear hd1 hd0
      generalize dg x m = d at *
      by_cases h0 : d = 0
      · subst h0
        go_wp2
        go_round
        case rel => exact ⟨m, by omega, rfl, HD0.out rfl⟩
        case measure => simp
      · have h1 : ¬ (d : Int) = 0 := by omega
        go_wp2
        go_ret
        rw [HD1.out h0]
        exact ⟨rfl, rfl⟩
end Go.Proofs.YtnchodofgaaeeaaGreatDoor
