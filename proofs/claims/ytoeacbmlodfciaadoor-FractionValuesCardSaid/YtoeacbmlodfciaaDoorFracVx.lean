/- FractionValues: the law's walk. -/
import Derived.Test.YtoeacbmlodfciaaDoorFracVp
namespace Go.Proofs.YtoeacbmlodfciaaDoor
open Go Go.RowKit Go.Shelf

theorem values_long (sa : Option Addr) (n cap : Nat) (hn : 42 < n) (w : World) :
    Calls Tryd.prog 6 #[.slice sa n cap] w fun e w' => e = .returned (.bool true) ∧ Below w.heap.size w w' := by
  have K := Lib.hid (fun W => known_any W)
  have hlen : (42 : Int) < (n : Int) := by omega
  go_enter Tryd.func6, Tryd.ntmps6
  go_wp2_with fail
  refine (K.out _).mono ?_
  rintro e w1 ⟨rfl, hb1⟩
  go_wp2_with fail
  refine (K.out _).mono ?_
  rintro e w2 ⟨rfl, hb2⟩
  go_wp2
  go_ret
  exact ⟨rfl, hb1.trans (hb2.mono hb1.size)⟩

set_option maxHeartbeats 2000000 in
theorem values_walk (sa : Option Addr) (B off n cap : Nat) (X : Nat → Int) (w : World) (hcap : n ≤ cap) (ha : 0 < n → sa = some ⟨B, off, none⟩ ∧ B < w.heap.size) (hx : ∀ k, k < n → w.cell? ⟨B, off + k, none⟩ = some (.int .i64 (X k))) :
    Calls Tryd.prog 6 #[.slice sa n cap] w fun e w' => e = .returned (.bool true) ∧ Below w.heap.size w w' := by
  by_cases hn : 42 < n
  · exact values_long sa n cap hn w
  · have hlen : ¬ (42 : Int) < (n : Int) := by omega
    obtain ⟨r1, r2, r3, hR⟩ := cfR X n
    have K := Lib.hid (known_any w)
    have S := Lib.hid (fun W (hb : Below w.heap.size w W) => value_both sa B off n cap X W hcap (fun h => ⟨(ha h).1, Nat.lt_of_lt_of_le (ha h).2 hb.size⟩) (fun k hk => (hb.cell (p := ⟨B, off + k, none⟩) (ha (by omega)).2).trans (hx k hk)) r1 r2 r3 hR)
    clear hR hn ha hx
    go_enter Tryd.func6, Tryd.ntmps6
    go_wp2_with fail
    refine K.out.mono ?_
    rintro e w1 ⟨rfl, hw⟩
    go_wp2_with fail
    refine (S.out _ hw).1.mono ?_
    rintro e w3 ⟨rfl, hb3⟩
    have hz3 := hb3.size
    have hsz := hw.size
    have x3 := FAt.new w3 r1 r2
    have bb3 : Below w1.heap.size w1 (w3.alloc (.cells #[.int .i64 r1, .int .i64 r2] 27)) := hb3.alloc hb3.size _
    go_wp2_with fail
    refine (S.out _ (hw.trans (bb3.mono hsz))).2.mono ?_
    rintro e w4 ⟨rfl, hb4⟩
    have x4 := x3.call hb4
    have c0 := x4.fst
    have c1 := x4.snd
    have c2 := x4.lt
    have bb4 := bb3.trans (hb4.mono bb3.size)
    go_wp2
    all_goals
      go_ret
      exact ⟨rfl, hw.trans ((bb4.alloc bb4.size _).mono hsz)⟩
end Go.Proofs.YtoeacbmlodfciaaDoor
