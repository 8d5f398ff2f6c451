/- Text of every right fraction; the reference's digits. -/
import Derived.Test.YtoeacbmlodfciaaDoorFracTa
namespace Go.Proofs.YtoeacbmlodfciaaDoor
open Go Go.RowKit Go.Shelf

theorem bytes_append (a b : List UInt8) : (⟨a.toArray⟩ : ByteArray) ++ ⟨b.toArray⟩ = ⟨(a ++ b).toArray⟩ := by
  apply ext_bytes
  simp
theorem text_any (n d : Int) (hr : FracMath.rightB n d = true) (w : World) (G : Gf w) :
    Calls Tryd.prog 26 #[.agg #[.int .i64 n, .int .i64 d]] w fun e w' => e = .returned (.tuple #[.string ⟨(FracMath.textL n d.toNat).toArray⟩, .int .i64 0]) ∧ Below w.heap.size w w' := by
  obtain ⟨h1, h2, h3, h4, h5⟩ := FracMath.right_of hr
  obtain ⟨e, he⟩ : ∃ e : Nat, d = e := ⟨d.toNat, by omega⟩
  subst he
  rw [Int.toNat_natCast]
  obtain ⟨a, ha⟩ : ∃ a, n.natAbs = a := ⟨_, rfl⟩
  have hb : ∀ l m : List UInt8, (⟨l.toArray⟩ : ByteArray) ++ ⟨m.toArray⟩ = ⟨(l ++ m).toArray⟩ := bytes_append
  have e45 : (⟨#[45]⟩ : ByteArray) = ⟨[(45 : UInt8)].toArray⟩ := rfl
  have e47 : (⟨#[47]⟩ : ByteArray) = ⟨[(47 : UInt8)].toArray⟩ := rfl
  have e32 : (⟨#[32]⟩ : ByteArray) = ⟨[(32 : UInt8)].toArray⟩ := rfl
  by_cases hn : n < 0
  · have e : n = -(a : Int) := by omega
    subst e
    refine text_neg a e (by omega) (by omega) (by omega) (by omega) hr _ _ rfl rfl _ _ _ rfl rfl rfl _ ?_ w G
    unfold FracMath.textL FracMath.textM
    rw [if_pos hn, ha]
    by_cases hm : a % e = 0
    · rw [if_pos hm, if_pos hm, e45, hb]; rfl
    · rw [if_neg hm, if_neg hm]
      by_cases hl : a < e
      · rw [if_pos hl, if_pos hl, e45, e47]; simp only [hb]; simp
      · rw [if_neg hl, if_neg hl, e45, e47, e32]; simp only [hb]; simp
  · have e : n = (a : Int) := by omega
    subst e
    refine text_pos a e (by omega) (by omega) (by omega) hr _ _ rfl rfl _ _ _ rfl rfl rfl _ ?_ w G
    unfold FracMath.textL FracMath.textM
    rw [if_neg hn, ha]
    by_cases hm : a % e = 0
    · rw [if_pos hm, if_pos hm]
    · rw [if_neg hm, if_neg hm]
      by_cases hl : a < e
      · rw [if_pos hl, if_pos hl, e47]; simp only [hb]; simp
      · rw [if_neg hl, if_neg hl, e47, e32]; simp only [hb]; simp

theorem conv_one {P : Program} {T S E : TypeId} (hT : P.underlying T = some (.slice E)) (hE : P.underlying E = some (.int .u8)) (hS : P.underlying S = some .string) (w : World) (x : Int) (c : Nat) :
    (convert T S (.slice (some ⟨w.heap.size, 0, none⟩) 1 c)).run P (w.alloc (.cells #[.int .u8 x] E)) = .ok (.string ⟨#[UInt8.ofNat x.toNat]⟩) (w.alloc (.cells #[.int .u8 x] E)) := by
  rw [run_convert_bytes_string _ _ _ E _ _ _ hT hE hS, run_bytesToString (ns := [x])]
  · rfl
  · simp [loadCells, go_sem]

theorem ret_str {A B : ByteArray} (h : A = B) : Ending.returned (.string A) = .returned (.string B) := by rw [h]
set_option maxRecDepth 100000 in
set_option maxHeartbeats 1000000 in
theorem digits_small (n : Nat) (h : n < 10) (w : World) :
    Calls Tryd.prog 49 #[.int .i64 (n : Nat)] w fun e w' => e = .returned (.string ⟨(Lib.decDigits n).toArray⟩) ∧ Below w.heap.size w w' := by
  have kc := fun (x : Int) (c : Nat) => conv_one (P := Tryd.prog) Tryd.underlying83 Tryd.underlying5 Tryd.underlying9 w x c
  have hn : ¬ (9 : Int) < (n : Int) := by omega
  have hm : (n : Int).tmod 10 = (n : Int) := by rw [Int.tmod_eq_emod_of_nonneg (by omega)]; omega
  go_enter Tryd.func49, Tryd.ntmps49
  go_wp2
  go_ret
  refine ⟨ret_str ?_, (Below.refl _ _).alloc (Nat.le_refl _) _⟩
  rw [FracMath.dec_small h]
  rw [UInt8.ofNat_add]
  rfl

set_option maxRecDepth 100000 in
set_option maxHeartbeats 1000000 in
theorem digits_any (n : Nat) (h : n ≤ 1000000) (w : World) :
    Calls Tryd.prog 49 #[.int .i64 (n : Nat)] w fun e w' => e = .returned (.string ⟨(Lib.decDigits n).toArray⟩) ∧ Below w.heap.size w w' := by
  induction n using Nat.strongRecOn generalizing w with
  | _ n ih =>
    by_cases h9 : n < 10
    · exact digits_small n h9 w
    · obtain ⟨q, hq⟩ : ∃ q, n / 10 = q := ⟨_, rfl⟩
      obtain ⟨r, hr⟩ : ∃ r, n % 10 = r := ⟨_, rfl⟩
      have IH := Lib.hid (fun W => ih q (by omega) (by omega) W)
      have kc := fun (x : Int) (c : Nat) => conv_one (P := Tryd.prog) Tryd.underlying83 Tryd.underlying5 Tryd.underlying9 w x c
      have hn : (9 : Int) < (n : Int) := by omega
      have hm : (n : Int).tmod 10 = (r : Int) := by rw [Int.tmod_eq_emod_of_nonneg (by omega)]; omega
      have hd : (n : Int).tdiv 10 = (q : Int) := by rw [Int.tdiv_eq_ediv_of_nonneg (by omega)]; omega
      have hm2 : (n : Int) % 10 = (r : Int) := by omega
      have hd2 : (n : Int) / 10 = (q : Int) := by omega
      have hr9 : (r : Int) < 10 := by omega
      have sQ := dec_size q (by omega)
      have HD := Lib.hid (FracMath.dec_big h9)
      have HQ := Lib.hid hq
      have HR := Lib.hid hr
      obtain ⟨Q, hQ⟩ : ∃ Q : ByteArray, (⟨(Lib.decDigits q).toArray⟩ : ByteArray) = Q := ⟨_, rfl⟩
      rw [hQ] at IH sQ
      have HQQ := Lib.hid hQ
      have nl : (9223372036854775807 < Q.size + 1) = False := eq_false (by omega)
      clear ih h9 hq hr hQ
      go_enter Tryd.func49, Tryd.ntmps49
      go_wp2_with (go_at_call 49; refine (IH.out _).mono ?_; rintro e w1 ⟨rfl, hb1⟩)
      go_ret
      refine ⟨ret_str ?_, ((Below.refl _ _).alloc (Nat.le_refl _) _).trans (hb1.mono (by simp))⟩
      rw [HD.out, HQ.out, HR.out, ← HQQ.out, ← bytes_append]
      congr 1
      rw [UInt8.ofNat_add]
      rfl
end Go.Proofs.YtoeacbmlodfciaaDoor
