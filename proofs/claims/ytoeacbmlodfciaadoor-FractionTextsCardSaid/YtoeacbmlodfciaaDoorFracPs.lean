/- FractionParses: the law's walk. -/
import Derived.Test.YtoeacbmlodfciaaDoorFracPg
import Derived.Test.YtoeacbmlodfciaaDoorFracLa
namespace Go.Proofs.YtoeacbmlodfciaaDoor
open Go Go.RowKit Go.Shelf

theorem parses_long (s : ByteArray) (hn : 60 < s.size) (w : World) :
    Calls Tryd.prog 8 #[.string s] w fun e w' => e = .returned (.bool true) ∧ Below w.heap.size w w' := by
  have K := Lib.hid (fun W => known_any W)
  have hlen : (60 : Int) < (s.size : Int) := by omega
  go_enter Tryd.func8, Tryd.ntmps8
  go_wp2_with fail
  refine (K.out _).mono ?_
  rintro e w1 ⟨rfl, hb1⟩
  go_wp2_with fail
  refine (K.out _).mono ?_
  rintro e w2 ⟨rfl, hb2⟩
  go_wp2
  go_ret
  exact ⟨rfl, hb1.trans (hb2.mono hb1.size)⟩

set_option maxHeartbeats 2000000 in
theorem parses_walk (s : ByteArray) (w : World) :
    Calls Tryd.prog 8 #[.string s] w fun e w' => e = .returned (.bool true) ∧ Below w.heap.size w w' := by
  by_cases hn : 60 < s.size
  · exact parses_long s hn w
  · have hlen : ¬ (60 : Int) < (s.size : Int) := by omega
    obtain ⟨r1, r2, r3, hR⟩ : ∃ r1 r2 r3, FracMath.parseE s.data.toList = (r1, r2, r3) := ⟨_, _, _, rfl⟩
    have K := Lib.hid (known_any w)
    have S1 := Lib.hid (fun W => parse_any s (by omega) r1 r2 r3 hR W)
    have S2 := Lib.hid (fun W => rparse_any s (by omega) r1 r2 r3 hR W)
    clear hR hn
    go_enter Tryd.func8, Tryd.ntmps8
    go_wp2_with fail
    refine K.out.mono ?_
    rintro e w1 ⟨rfl, hw⟩
    go_wp2_with fail
    refine (S1.out _).mono ?_
    rintro e w3 ⟨rfl, hb3⟩
    have hz3 := hb3.size
    have hsz := hw.size
    have x3 := FAt.new w3 r1 r2
    have bb3 : Below w1.heap.size w1 (w3.alloc (.cells #[.int .i64 r1, .int .i64 r2] 27)) := hb3.alloc hb3.size _
    go_wp2_with fail
    refine (S2.out _).mono ?_
    rintro e w4 ⟨rfl, hb4⟩
    have x4 := x3.call hb4
    have c0 := x4.fst
    have c1 := x4.snd
    have c2 := x4.lt
    have bb4 := bb3.trans (hb4.mono bb3.size)
    go_wp2
    all_goals
      go_ret
      exact ⟨rfl, hw.trans ((bb4.alloc bb4.size _).mono hsz)⟩
end Go.Proofs.YtoeacbmlodfciaaDoor
