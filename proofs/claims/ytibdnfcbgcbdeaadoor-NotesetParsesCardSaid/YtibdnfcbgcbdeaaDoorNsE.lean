/- OnesCount64 and Count. -/
import Derived.Test.YtibdnfcbgcbdeaaDoorNsD
import Derived.Test.YtibdnfcbgcbdeaaDoorNsPd
import Derived.Laws.Bits128
namespace Go.Proofs.YtibdnfcbgcbdeaaDoor
open Go Go.RowKit Go.Shelf

set_option maxHeartbeats 1000000 in
theorem ones_any (x : Nat) (hx : x < 18446744073709551616) (w : World) :
    Calls Tryd.prog 53 #[.int .u64 x] w fun e w' => e = .returned (.int .i64 (Ns.pc x : Nat)) ∧ w = w' := by
  obtain ⟨y1, y2, s3, z, x4, x5, x6, h1, b1, h2, b2, h3, b3, h4, h5, b5, h6, b6, h7, b7, h8⟩ := Ns.ones x hx
  have A1 : bits .and .u64 ((x : Int) / 2) 6148914691236517205 = ((x / 2 &&& 6148914691236517205 : Nat) : Int) := u64_and_nat (x / 2) 6148914691236517205 (by omega) (by decide)
  have A2 : bits .and .u64 (x : Int) 6148914691236517205 = ((x &&& 6148914691236517205 : Nat) : Int) := u64_and_nat x 6148914691236517205 (by omega) (by decide)
  have A3 : IntKind.u64.wrap (((x / 2 &&& 6148914691236517205 : Nat) : Int) + ((x &&& 6148914691236517205 : Nat) : Int)) = (y1 : Int) := by rw [IntKind.wrap_u64]; omega
  have A4 : bits .and .u64 ((y1 : Int) / 4) 3689348814741910323 = ((y1 / 4 &&& 3689348814741910323 : Nat) : Int) := u64_and_nat (y1 / 4) 3689348814741910323 (by omega) (by decide)
  have A5 : bits .and .u64 (y1 : Int) 3689348814741910323 = ((y1 &&& 3689348814741910323 : Nat) : Int) := u64_and_nat y1 3689348814741910323 (by omega) (by decide)
  have A6 : IntKind.u64.wrap (((y1 / 4 &&& 3689348814741910323 : Nat) : Int) + ((y1 &&& 3689348814741910323 : Nat) : Int)) = (y2 : Int) := by rw [IntKind.wrap_u64]; omega
  have A7 : IntKind.u64.wrap ((y2 : Int) / 16 + (y2 : Int)) = (s3 : Int) := by rw [IntKind.wrap_u64]; omega
  have A8 : bits .and .u64 (s3 : Int) 1085102592571150095 = (z : Int) := by rw [h4]; exact u64_and_nat s3 1085102592571150095 (by omega) (by decide)
  have A9 : IntKind.u64.wrap ((z : Int) + (z : Int) / 256) = (x4 : Int) := by rw [IntKind.wrap_u64]; omega
  have A10 : IntKind.u64.wrap ((x4 : Int) + (x4 : Int) / 65536) = (x5 : Int) := by rw [IntKind.wrap_u64]; omega
  have A11 : IntKind.u64.wrap ((x5 : Int) + (x5 : Int) / 4294967296) = (x6 : Int) := by rw [IntKind.wrap_u64]; omega
  have A12 : IntKind.i64.wrap (x6 : Int) = (x6 : Int) := by rw [IntKind.wrap_i64]; omega
  have A13 : (x6 : Int) % 128 = (Ns.pc x : Nat) := by rw [← h8]; simp
  have A14 : bits .and .i64 (x6 : Int) 127 = (Ns.pc x : Nat) := by rw [← A13]; exact i64_and127 _
  clear h1 h2 h3 h4 h5 h6 h7 h8 A13
  go_enter Tryd.func53, Tryd.ntmps53
  go_wp2
  go_ret
  exact ⟨rfl, rfl⟩

theorem pc_le (x : Nat) : Ns.pc x ≤ 64 := by
  unfold Ns.pc
  have : ∀ l : List Nat, (l.map fun i => (x.testBit i).toNat).sum ≤ l.length := fun l => by
    induction l with
    | nil => simp
    | cons a l ih => simp; have : (x.testBit a).toNat ≤ 1 := by cases x.testBit a <;> simp
                     omega
  have h := this (List.range 64)
  simpa using h

set_option maxHeartbeats 1000000 in
theorem count_any (lo hi : Nat) (hl : lo < 18446744073709551616) (hh : hi < 18446744073709551616) (w : World) :
    Calls Tryd.prog 29 #[.agg #[.int .u64 lo, .int .u64 hi]] w fun e w' => e = .returned (.int .i64 (Ns.pc lo + Ns.pc hi : Nat)) ∧ ∃ k, w' = (w.alloc (.cells #[.int .u64 lo, .int .u64 hi] 34)).drewN k := by
  have c1 := pc_le lo
  have c2 := pc_le hi
  have e : ((Ns.pc lo + Ns.pc hi : Nat) : Int) = (Ns.pc lo : Int) + (Ns.pc hi : Int) := by simp
  have e1 : IntKind.i64.wrap ((Ns.pc lo : Int) + (Ns.pc hi : Int)) = (Ns.pc lo : Int) + (Ns.pc hi : Int) := by rw [IntKind.wrap_i64]; omega
  rw [e]
  clear e
  have O1 := Lib.hid (fun W => ones_any lo hl W)
  have O2 := Lib.hid (fun W => ones_any hi hh W)
  obtain ⟨p, hp⟩ : ∃ p, Ns.pc lo = p := ⟨_, rfl⟩
  obtain ⟨q, hq⟩ : ∃ q, Ns.pc hi = q := ⟨_, rfl⟩
  rw [hp] at O1 e1 c1 ⊢
  rw [hq] at O2 e1 c2 ⊢
  clear hp hq
  go_enter Tryd.func29, Tryd.ntmps29
  go_wp2
  go_quiet (first | (go_at_call_of 53 (Value.int .u64 lo); first | exact still_here (O1.out _) | exact still_more (O1.out _)) | (go_at_call_of 53 (Value.int .u64 hi); first | exact still_here (O2.out _) | exact still_more (O2.out _)))
  go_wp2
  go_ret
  exact ⟨rfl, _, rfl⟩
end Go.Proofs.YtibdnfcbgcbdeaaDoor
